import PyProof.Rows.All
import Wide.All
import OpenK.AllK
import Wide.FinOn
import Lean
import PyProof.EqAt
import PyProof.EqKinds
import PyProof.NeKinds
import PyProof.TupleCall
import PySem.Challenge.RW_kinturns_k13_whole_by_how_many_ways
set_option Elab.async false
set_option linter.all false
set_option maxRecDepth 100000
namespace L2
open PySem PySem.Spec PyProof.Rows
abbrev Key := Sum Int Str
def keyIs : Key -> Value -> Bool
 | .inl k, v => Value.isInt k v
 | .inr x, v => Value.isStrOf x v
def keyH (w : World) : Key -> Int
 | .inl k => hashInt k
 | .inr x => hashStr w x
theorem keyIs_shape : ∀ {k : Key} {v : Value}, keyIs k v = true -> (∃ i t, k = Sum.inl i /\ v = Value.int i t) \/ (∃ x t, k = Sum.inr x /\ v = Value.str x t)
 | .inl i, v, h => by
   obtain ⟨t, e⟩ := Value.isInt_shape (k := i) (v := v) h
   exact .inl ⟨i, t, rfl, e⟩
 | .inr x, v, h => by
   obtain ⟨t, e⟩ := Value.isStrOf_shape (x := x) (v := v) h
   exact .inr ⟨x, t, rfl, e⟩
theorem keyIs_int (i : Int) (t : Tok) : keyIs (.inl i) (.int i t) = true := by simp [keyIs, Value.isInt]
theorem keyIs_str (x : Str) (t : Tok) : keyIs (.inr x) (.str x t) = true := by simp [keyIs, Value.isStrOf]
theorem key_ll (a b : Int) : decide ((Sum.inl a : Key) = Sum.inl b) = (a == b) := by
 by_cases e : a = b
 . subst e; simp
 . have h : ¬ (Sum.inl a : Key) = Sum.inl b := fun q => e (Sum.inl.inj q)
   rw [decide_eq_false h]
   exact (beq_eq_false_iff_ne.mpr e).symm
theorem key_rr (a b : Str) : decide ((Sum.inr a : Key) = Sum.inr b) = decide (a = b) := by
 by_cases e : a = b
 . subst e; simp
 . have h : ¬ (Sum.inr a : Key) = Sum.inr b := fun q => e (Sum.inr.inj q)
   rw [decide_eq_false h, decide_eq_false e]
theorem key_lr (a : Int) (b : Str) : decide ((Sum.inl a : Key) = Sum.inr b) = false := decide_eq_false (fun q => nomatch q)
theorem key_rl (a : Str) (b : Int) : decide ((Sum.inr a : Key) = Sum.inl b) = false := decide_eq_false (fun q => nomatch q)
def mixKind (prog : Program) (w : World) : PySem.KeyKind prog w Key where
 is := keyIs
 hash := keyH w
 inj := fun v a b ha hb => by
  rcases keyIs_shape ha with ⟨i, t, rfl, rfl⟩ | ⟨x, t, rfl, rfl⟩
  . rcases keyIs_shape hb with ⟨j, u, rfl, e⟩ | ⟨y, u, rfl, e⟩
    . injection e with e1 _; rw [e1]
    . exact nomatch e
  . rcases keyIs_shape hb with ⟨j, u, rfl, e⟩ | ⟨y, u, rfl, e⟩
    . exact nomatch e
    . injection e with e1 _; rw [e1]
 byValue := fun k v h => by
  rcases keyIs_shape h with ⟨i, t, rfl, rfl⟩ | ⟨x, t, rfl, rfl⟩ <;> rfl
 pyHash := fun hv h => by
  rcases keyIs_shape hv with ⟨i, t, rfl, rfl⟩ | ⟨x, t, rfl, rfl⟩
  . exact wpAny_pyHash_int h
  . exact wpAny_pyHash_str h
 eqBool := fun hu hv h => by
  rcases keyIs_shape hu with ⟨i, t, rfl, rfl⟩ | ⟨x, t, rfl, rfl⟩
  . rcases keyIs_shape hv with ⟨j, u, rfl, rfl⟩ | ⟨y, u, rfl, rfl⟩
    . rw [key_ll] at h; exact wpAny_eqBool_int h
    . rw [key_lr] at h; exact SeqAt.EqAt.int_str i t y u _ _ _ _ h
  . rcases keyIs_shape hv with ⟨j, u, rfl, rfl⟩ | ⟨y, u, rfl, rfl⟩
    . rw [key_rl] at h; exact SeqAt.EqAt.str_int x t j u _ _ _ _ h
    . rw [key_rr] at h; exact wpAny_eqBool_str h
 «strs» := fun k x t v h => by
  rcases keyIs_shape h with ⟨i, u, rfl, e⟩ | ⟨y, u, rfl, e⟩
  . exact nomatch e
  . injection e with e1 _
    subst e1
    cases v <;> rfl
theorem mixKind_is (prog : Program) (w : World) (k : Key) (v : Value) : (mixKind prog w).is k v = keyIs k v := rfl
theorem mixKind_int (prog : Program) (w : World) (i : Int) (t : Tok) : (mixKind prog w).is (.inl i) (.int i t) = true := keyIs_int i t
theorem mixKind_str (prog : Program) (w : World) (x : Str) (t : Tok) : (mixKind prog w).is (.inr x) (.str x t) = true := keyIs_str x t
end L2
namespace L2
open PySem PySem.Spec PyProof.Rows
inductive V where
 | non | bl (b : Bool) | int (i : Int) | str (x : Str) | byt (b : Array UInt8) | flt (b : UInt64) | ref (a : Addr) | ty (n : String)
 deriving DecidableEq
def RelV : V -> Value -> Prop
 | .non, u => u = Value.none
 | .bl b, u => u = Value.bool b
 | .int i, u => ∃ t, u = Value.int i t
 | .str x, u => ∃ t, u = Value.str x t
 | .byt b, u => ∃ t, u = Value.bytes b t
 | .flt b, u => ∃ t, u = Value.float b t
 | .ref a, u => u = Value.ref a
 | .ty n, u => u = Value.type n
abbrev Vals : List V -> List Value -> Prop := Paired RelV
theorem Vals.length {xs : List V} {us : List Value} (r : Vals xs us) : xs.length = us.length := Paired.length r
theorem Vals.get : ∀ {xs : List V} {us : List Value} {i : Nat} {x : V}, Vals xs us -> xs[i]? = some x -> ∃ u, us[i]? = some u /\ RelV x u
 | _, _, _, _, .nil, e => by simp at e
 | _, _, 0, _, .cons r _, e => by simp at e; subst e; exact ⟨_, rfl, r⟩
 | _, _, i + 1, x, .cons _ t, e => by
   obtain ⟨u, h1, h2⟩ := Vals.get (i := i) (x := x) t (by simpa using e)
   exact ⟨u, by simpa using h1, h2⟩
theorem Vals.set {x : V} {u : Value} (r : RelV x u) : ∀ {xs : List V} {us : List Value} (i : Nat), Vals xs us -> Vals (xs.set i x) (us.set i u)
 | _, _, _, .nil => .nil
 | _, _, 0, .cons _ t => .cons r t
 | _, _, i + 1, .cons q t => .cons q (Vals.set r i t)
theorem Vals.append : ∀ {xs ys : List V} {us ws : List Value}, Vals xs us -> Vals ys ws -> Vals (xs ++ ys) (us ++ ws)
 | _, _, _, _, .nil, s => s
 | _, _, _, _, .cons r t, s => .cons r (Vals.append t s)
theorem Vals.take : ∀ {xs : List V} {us : List Value} (n : Nat), Vals xs us -> Vals (xs.take n) (us.take n)
 | _, _, 0, _ => .nil
 | _, _, _ + 1, .nil => .nil
 | _, _, n + 1, .cons r t => .cons r (Vals.take n t)
theorem Vals.drop : ∀ {xs : List V} {us : List Value} (n : Nat), Vals xs us -> Vals (xs.drop n) (us.drop n)
 | _, _, 0, r => r
 | _, _, _ + 1, .nil => .nil
 | _, _, n + 1, .cons _ t => Vals.drop n t
def RelO : Option V -> Option Value -> Prop
 | some v, some u => RelV v u
 | none, none => True
 | _, _ => False
def KV {κ : Type} : List (κ × V) -> List (κ × Value) -> Prop := Paired fun (p : κ × V) (q : κ × Value) => p.1 = q.1 /\ RelV p.2 q.2
def kV : Key -> V
 | .inl i => .int i
 | .inr x => .str x
inductive HO where
 | lst (xs : List V)
 | tup (xs : List V)
 | dK (kvs : List (Key × V)) | dT (kvs : List (List Key × V))
 | set (S : Int -> Bool) (n : Nat)
 | ins (C dx : Addr) (fs : List (Str × V))
 | own (x : Addr)
 | xd (fs : List (Str × V))
 | met (f x : Addr)
 | rng (lo hi : Int)
 | frz (o : Obj) (u : HO)
 | tbl (ps : Array Value)
 | ext (φ : Heap -> Prop)
abbrev Hp := Addr -> Option HO
def upd (H : Hp) (a : Addr) (o : HO) : Hp := fun b => if b = a then some o else H b
theorem upd_same {H : Hp} {a : Addr} {o : HO} : upd H a o a = some o := by unfold upd; rw [if_pos rfl]
theorem upd_ne {H : Hp} {a b : Addr} {o : HO} (h : b ≠ a) : upd H a o b = H b := by unfold upd; rw [if_neg h]
theorem ne_of {H : Hp} {a b : Addr} {o u : HO} (h : H a = some o) (h' : H b = some u) (d : o ≠ u) : a ≠ b := by
 intro e; subst e; rw [h] at h'; exact d (Option.some.inj h')
theorem ne_of_none {H : Hp} {a b : Addr} {o : HO} (h : H a = some o) (h' : H b = none) : a ≠ b := by
 intro e; subst e; rw [h] at h'; cases h'
section
variable (P : Program) (w : World)
def ObjOk (H : Hp) (h : Heap) (a : Addr) : HO -> Prop
 | .lst xs => xs.length <= sizeLine /\ ∃ (its : List Value) (n : Nat), Vals xs its /\ h.get? a = some { cls := .type "list", data := .seq its.toArray n }
 | .tup xs => xs.length <= sizeLine /\ ∃ its : List Value, Vals xs its /\ IsTup h a its.toArray
 | .dK kvs => kvs.length <= sizeLine /\ (a == sysModules) = false /\ ∃ vs, KV kvs vs /\ h.DictOf (mixKind P w) a vs
 | .dT kvs => kvs.length <= sizeLine /\ (a == sysModules) = false /\ ∃ xs : List (List Key × Addr × Value),
  Paired (fun (p : List Key × V) (q : List Key × Addr × Value) => p.1 = q.1 /\ H q.2.1 = some (.tup (p.1.map kV)) /\ RelV p.2 q.2.2) kvs xs /\
  ∃ o es ep, h.get? a = some o /\ o.ExactDict /\ o.data = .dict es ep /\ es.toList = xs.map (entryOfKey (tupleKind (mixKind P w))) /\ (xs.map (·.1)).Nodup
 | .set S n => h.SetOf (intKind P w) a S n
 | .ins C dx fs => H dx = some (.own a) /\ fs.length <= 1000 /\ dx ≠ a /\ h.get? a = some (W.instObj C dx) /\
  ∃ mA, h.Ns1 dx mA /\ (∀ f, RelO (fs.lookup f) (mA f)) /\ PySem.Within mA (fs.map (·.1))
 | .own _ => ∃ o, h.get? a = some o
 | .xd fs => ∃ mA, h.Ns1 a mA /\ ∀ f, RelO (fs.lookup f) (mA f)
 | .rng lo hi => ∃ t u v, h.get? a = some { cls := .type "range", data := .fields #[.int lo t, .int hi u, .int 1 v] }
 | .frz o u => h.get? a = some o /\ ObjOk H h a u
 | .tbl ps => h.get? a = some { cls := .none, data := .fields ps }
 | .met f x => h.get? a = some (W.methodObj (.ref f) (.ref x))
 | .ext φ => φ h /\ (∃ o, h.get? a = some o) /\ ∀ h1 h2 : Heap, φ h1 -> (∀ o, h1.get? a = some o -> h2.get? a = some o) -> φ h2
def HOk (H : Hp) (h : Heap) : Prop := ∀ a o, H a = some o -> ObjOk P w H h a o
end
section
variable {P : Program} {w : World} {H H' : Hp} {h h' : Heap} {a : Addr} {o : HO}
theorem ObjOk.lt (x : ObjOk P w H h a o) : a < h.objs.size := by
 cases o with
 | lst xs => obtain ⟨_, _, _, _, e⟩ := x; exact Heap.lt_size e
 | tup xs => obtain ⟨_, _, _, p⟩ := x; exact p.lt
 | dK kvs => obtain ⟨_, _, _, _, o, _, _, e, _⟩ := x; exact Heap.lt_size e
 | dT kvs => obtain ⟨_, _, _, _, o, _, _, e, _⟩ := x; exact Heap.lt_size e
 | set S n => obtain ⟨o, _, _, _, e, _⟩ := x; exact Heap.lt_size e
 | ins C dx fs => obtain ⟨_, _, _, e, _⟩ := x; exact Heap.lt_size e
 | own y => obtain ⟨_, e⟩ := x; exact Heap.lt_size e
 | xd fs => obtain ⟨_, ⟨_, _, _, e, _⟩, _⟩ := x; exact Heap.lt_size e
 | rng lo hi => obtain ⟨_, _, _, e⟩ := x; exact Heap.lt_size e
 | frz ob u => obtain ⟨e, _⟩ := x; exact Heap.lt_size e
 | tbl ps => exact Heap.lt_size (show h.get? a = some _ from x)
 | met f y => exact Heap.lt_size (show h.get? a = some _ from x)
 | ext φ => obtain ⟨_, ⟨_, e⟩, _⟩ := x; exact Heap.lt_size e
theorem Paired.mapP {α β : Type} {F G : α -> β -> Prop} : ∀ {l₁ : List α} {l₂ : List β}, Paired F l₁ l₂ -> (∀ a b, F a b -> G a b) -> Paired G l₁ l₂
 | _, _, .nil, _ => .nil
 | _, _, .cons r t, f => .cons (f _ _ r) (Paired.mapP t f)
theorem ObjOk.stay (x : ObjOk P w H h a o) (k : ∀ b u, (b = a \/ H b = some (.own a)) -> h.get? b = some u -> h'.get? b = some u)
 (ho : ∀ b, H b = some (.own a) -> H' b = some (.own a)) (ht : ∀ b xs, H b = some (.tup xs) -> H' b = some (.tup xs)) : ObjOk P w H' h' a o := by
 induction o with
 | lst xs => obtain ⟨z, its, n, r, e⟩ := x; exact ⟨z, its, n, r, k _ _ (.inl rfl) e⟩
 | tup xs => obtain ⟨z, its, r, ob, e, c⟩ := x; exact ⟨z, its, r, ob, k _ _ (.inl rfl) e, c⟩
 | dK kvs => obtain ⟨z, y, vs, r, ob, es, ep, e, c⟩ := x; exact ⟨z, y, vs, r, ob, es, ep, k _ _ (.inl rfl) e, c⟩
 | dT kvs =>
   obtain ⟨z, y, xs, r, ob, es, ep, e, c⟩ := x
   exact ⟨z, y, xs, Paired.mapP r fun p q z => ⟨z.1, ht _ _ z.2.1, z.2.2⟩, ob, es, ep, k _ _ (.inl rfl) e, c⟩
 | set S n => obtain ⟨ob, es, ep, t, e, c⟩ := x; exact ⟨ob, es, ep, t, k _ _ (.inl rfl) e, c⟩
 | ins C dx fs =>
   obtain ⟨d, z, ne, e, mA, ⟨od, es, ep, e2, c⟩, r⟩ := x
   exact ⟨ho _ d, z, ne, k _ _ (.inl rfl) e, mA, ⟨od, es, ep, k _ _ (.inr d) e2, c⟩, r⟩
 | own y => obtain ⟨ob, e⟩ := x; exact ⟨ob, k _ _ (.inl rfl) e⟩
 | xd fs => obtain ⟨mA, ⟨od, es, ep, e, c⟩, r⟩ := x; exact ⟨mA, ⟨od, es, ep, k _ _ (.inl rfl) e, c⟩, r⟩
 | rng lo hi => obtain ⟨t, u, v, e⟩ := x; exact ⟨t, u, v, k _ _ (.inl rfl) e⟩
 | frz ob u ih => obtain ⟨e, q⟩ := x; exact ⟨k _ _ (.inl rfl) e, ih q⟩
 | tbl ps =>
   have e : h.get? a = some { cls := .none, data := .fields ps } := x
   show h'.get? a = some { cls := .none, data := .fields ps }
   exact k a _ (.inl rfl) e
 | met f y =>
   have e : h.get? a = some (W.methodObj (.ref f) (.ref y)) := x
   show h'.get? a = some (W.methodObj (.ref f) (.ref y))
   exact k a _ (.inl rfl) e
 | ext φ => obtain ⟨p, ⟨o, e⟩, st⟩ := x; exact ⟨st _ _ p fun o q => k _ _ (.inl rfl) q, ⟨o, k _ _ (.inl rfl) e⟩, st⟩
theorem HOk.lt (x : HOk P w H h) (e : H a = some o) : a < h.objs.size := (x a o e).lt
theorem HOk.fresh (x : HOk P w H h) (e : h.objs.size <= a) : H a = none := by
 cases q : H a with
 | none => rfl
 | some u => exact absurd (Nat.lt_of_lt_of_le (x.lt q) e) (Nat.lt_irrefl _)
theorem HOk.kept (x : HOk P w H h) (k : ∀ b u, h.get? b = some u -> h'.get? b = some u) : HOk P w H h' := fun a o e =>
 (x a o e).stay (fun b u _ q => k b u q) (fun _ q => q) fun _ _ q => q
theorem HOk.laid (x : HOk P w H h) (k : ∀ b u, h.get? b = some u -> h'.get? b = some u) (hp : h.objs.size <= a) (new : ObjOk P w (upd H a o) h' a o) : HOk P w (upd H a o) h' := fun b u e => by
 have hn := x.fresh hp
 by_cases hb : b = a
 . subst hb; rw [upd_same] at e; cases e; exact new
 . rw [upd_ne hb] at e
   exact (x b u e).stay (fun c v _ q => k c v q) (fun c q => by rw [upd_ne (ne_of_none q hn)]; exact q) fun c xs q => by rw [upd_ne (ne_of_none q hn)]; exact q
end
def Rd (H : Hp) (a : Addr) (u : HO) : Prop := H a = some u \/ ∃ o, H a = some (.frz o u)
theorem Rd.ok {P : Program} {w : World} {H : Hp} {h : Heap} {a : Addr} {u : HO} (r : Rd H a u) (x : HOk P w H h) : ObjOk P w H h a u := by
 rcases r with r | ⟨o, r⟩
 . exact x a u r
 . obtain ⟨_, q⟩ := x a _ r
   exact q
def Mut : Option HO -> Prop
 | some (.lst _) => True
 | some (.dK _) => True
 | some (.dT _) => True
 | some (.set _ _) => True
 | some (.ins _ _ _) => True
 | some (.ext _) => True
 | _ => False
section
variable {P : Program} {w : World} {H : Hp} {h h' : Heap} {x e : Addr} {o' : HO}
theorem HOk.write (ok : HOk P w H h) (mu : Mut (H x)) (he : e = x \/ H e = some (.own x)) (k : ∀ b u, b ≠ e -> h.get? b = some u -> h'.get? b = some u) (heo : ∃ u, h'.get? e = some u)
 (new : ObjOk P w (upd H x o') h' x o') : HOk P w (upd H x o') h' := fun b u q => by
 have nown : ∀ c y, H c = some (.own y) -> c ≠ x := fun c y r z => by subst z; rw [r] at mu; exact mu
 have ntup : ∀ c xs, H c = some (.tup xs) -> c ≠ x := fun c xs r z => by subst z; rw [r] at mu; exact mu
 by_cases hb : b = x
 . subst hb; rw [upd_same] at q; cases q; exact new
 . rw [upd_ne hb] at q
   by_cases hbe : b = e
   . have q' : H b = some (.own x) := by
      rcases he with z | z
      . exact absurd (hbe.trans z) hb
      . rw [hbe]; exact z
     rw [q] at q'; cases q'
     obtain ⟨v, hv⟩ := heo
     exact ⟨v, by rw [hbe]; exact hv⟩
   . refine (ok b u q).stay (fun c v hc r => k c v ?_ r) (fun c r => by rw [upd_ne (nown c b r)]; exact r) fun c xs r => by rw [upd_ne (ntup c xs r)]; exact r
     rcases hc with rfl | hc
     . exact hbe
     . rintro rfl
       rcases he with z | z
       . exact nown c b hc z
       . rw [hc] at z; cases z; exact hb rfl
end
structure Un (fs ex : List Addr) (H H' : Hp) (h h' : Heap) : Prop where
 keep : ∀ b o, h.get? b = some o -> H b = none -> b ∉ fs -> b ∉ ex -> h'.get? b = some o
 slot : ∀ b o, h.get? b = some o -> H b = none -> b ∈ fs -> b ∉ ex -> ∃ sl, h'.get? b = some { o with slots := sl }
 free : ∀ b o, h.get? b = some o -> H b = none -> b ∉ ex -> H' b = none
 there : ∀ b o, h.get? b = some o -> b ∉ ex -> ∃ o', h'.get? b = some o'
 tups : ∀ b xs, H b = some (.tup xs) -> H' b = some (.tup xs)
 frzs : ∀ b o u, H b = some (.frz o u) -> H' b = some (.frz o u)
 tbls : ∀ b ps, H b = some (.tbl ps) -> ∃ more, H' b = some (.tbl (ps ++ more))
section
variable {fs fs' ex ex' : List Addr} {H H1 H2 : Hp} {h h1 h2 h' : Heap} {a x e : Addr} {o : HO}
theorem Un.any (u : Un fs ex H H1 h h1) {b : Addr} {ob : Obj} (q : h.get? b = some ob) (n : H b = none) (hx : b ∉ ex) : ∃ sl, h1.get? b = some { ob with slots := sl } := by
 by_cases hb : b ∈ fs
 . exact u.slot b ob q n hb hx
 . exact ⟨ob.slots, u.keep b ob q n hb hx⟩
theorem Un.kept (k : ∀ b u, h.get? b = some u -> h'.get? b = some u) : Un fs ex H H h h' :=
 ⟨fun b ob q _ _ _ => k b ob q, fun b ob q _ _ _ => ⟨ob.slots, k b ob q⟩, fun _ _ _ n _ => n, fun b ob q _ => ⟨ob, k b ob q⟩, fun _ _ q => q, fun _ _ _ q => q, fun _ ps q => ⟨#[], by rw [q]; simp⟩⟩
theorem Un.refl : Un fs ex H H h h := Un.kept fun _ _ q => q
theorem Un.laid (k : ∀ b u, h.get? b = some u -> h'.get? b = some u) (hp : h.objs.size <= a) (hn : H a = none) : Un fs ex H (upd H a o) h h' where
 keep := fun b u q _ _ _ => k b u q
 slot := fun b u q _ _ _ => ⟨u.slots, k b u q⟩
 free := fun b u q n _ => by rw [upd_ne (Nat.ne_of_lt (Nat.lt_of_lt_of_le (Heap.lt_size q) hp))]; exact n
 there := fun b u q _ => ⟨u, k b u q⟩
 tups := fun b xs q => by rw [upd_ne (ne_of_none q hn)]; exact q
 frzs := fun b u xs q => by rw [upd_ne (ne_of_none q hn)]; exact q
 tbls := fun b ps q => ⟨#[], by rw [upd_ne (ne_of_none q hn), q]; simp⟩
theorem Un.write (mu : Mut (H x)) (he : e = x \/ H e = some (.own x)) (k : ∀ b u, b ≠ e -> h.get? b = some u -> h'.get? b = some u) (heo : ∃ u, h'.get? e = some u) : Un fs ex H (upd H x o) h h' := by
 have hx : ∀ b, H b = none -> b ≠ x := fun b n z => by subst z; rw [n] at mu; exact mu
 have hb : ∀ b, H b = none -> b ≠ e := fun b n z => by
  subst z
  rcases he with r | r
  . exact hx b n r
  . rw [n] at r; cases r
 have hm : ∀ b u, H b = some u -> ¬ Mut (some u) -> b ≠ x := fun b u q nm z => by subst z; rw [q] at mu; exact nm mu
 refine ⟨fun b u q n _ _ => k b u (hb b n) q, fun b u q n _ _ => ⟨u.slots, k b u (hb b n) q⟩, fun b u q n _ => by rw [upd_ne (hx b n)]; exact n, fun b u q _ => ?_,
  fun b xs q => by rw [upd_ne (hm b _ q fun z => z)]; exact q, fun b u xs q => by rw [upd_ne (hm b _ q fun z => z)]; exact q, fun b ps q => ⟨#[], by rw [upd_ne (hm b _ q fun z => z), q]; simp⟩⟩
 by_cases hbe : b = e
 . subst hbe; exact heo
 . exact ⟨u, k b u hbe q⟩
end
def trk (h : Heap) (H : Hp) : List Addr := (List.range h.objs.size).filter fun a => (H a).isSome
def hidT (h : Heap) (H : Hp) : Heap := PySem.W.hideAll h (trk h H)
theorem hidT_size (h : Heap) (H : Hp) : (hidT h H).objs.size = h.objs.size := PySem.W.hideAll_size _ _
theorem hidT_get {h : Heap} {H : Hp} {b : Addr} {o : Obj} (e : h.get? b = some o) (n : H b = none) : (hidT h H).get? b = some o :=
 PySem.W.hideAll_get _ e fun hm => by
  have q : (H b).isSome = true := (List.mem_filter.mp hm).2
  rw [n] at q; simp at q
theorem of_hidT {h : Heap} {H : Hp} {b : Addr} {o : Obj} (e : (hidT h H).get? b = some o) : h.get? b = some o /\ H b = none := by
 have e' : h.get? b = some o := W.of_hideAll (trk h H) e
 refine ⟨e', ?_⟩
 cases q : H b with
 | none => rfl
 | some x =>
   have hm : b ∈ trk h H := List.mem_filter.mpr ⟨List.mem_range.mpr (Heap.lt_size e'), by simp [q]⟩
   have z : (hidT h H).get? b = none := PySem.W.hideAll_none (trk h H) hm
   rw [z] at e; cases e
def allNews (g h : Heap) (L : Addr) : List (Addr × Obj) := (List.range h.objs.size).filterMap fun a => if a = L \/ (g.get? a).isSome = true then none else (h.get? a).map fun o => (a, o)
def rest (g h : Heap) (L d : Addr) : List (Addr × Obj) := (allNews g h L).filter fun p => decide (p.1 ≠ d)
end L2
namespace L2
open PySem PySem.Spec PyProof.Rows
structure Mod (K : W.Frag) (mg : Str -> Option Value) (base : Heap) : Prop where
 kin : K.In base
 glob : base.Ns mainGlobals mg
 blt : ∃ mb, base.Ns builtinsNs mb /\ ∀ x : Str, x ≠ "__name__" -> mb x = bootBuiltins x
 nolimit : base.NoLimit
structure Cx where
 prog : Program
 w : World
 K : W.Frag
 mg : Str -> Option Value
 base : Heap
 A : Around
 N : List Str
 s₀ : Shared
 H₀ : Hp
 env : Env
 outer : List Env
 stack : List Env
 ex : List Addr
 fn : Str -> Bool
 calm : Bool
 pn : List (Addr × Obj)
 xe : Value -> Shared -> Prop
def frs (l : List Env) : List Addr := l.filterMap (·.frame)
abbrev Cx.fs (X : Cx) : List Addr := frs X.outer
def Vis (sc : Scope) (x : Str) : Prop := sc.names.lookup x = some .local \/ sc.names.lookup x = some .cell \/ sc.names.lookup x = some .free
def Loc (sc : Scope) (x : Str) : Prop := sc.names.lookup x = some .local \/ sc.names.lookup x = some .cell
def Look (env : Env) (h : Heap) (m : Str -> Option Value) (x : Str) (u : Value) : Prop :=
 (env.kindOf x = some .local /\ m x = some u) \/ ((env.kindOf x = some .cell \/ env.kindOf x = some .free) /\ ∃ c, env.cells.lookup x = some c /\ h.IsCell c (some u))
structure Cx.Ok (X : Cx) : Prop where
 mod : Mod X.K X.mg X.base
 kind : X.env.scope.kind = .function
 glob : X.env.globals = mainGlobals
 blt : X.env.builtins = builtinsNs
 above : X.s₀.heap.objs.size <= X.env.locals
 inj : ∀ x y c, X.env.cells.lookup x = some c -> X.env.cells.lookup y = some c -> x = y
 has : ∀ x, (X.env.kindOf x = some .cell \/ X.env.kindOf x = some .free) -> ∃ c, X.env.cells.lookup x = some c
 cab : ∀ x c, X.fn x = true -> X.env.cells.lookup x = some c -> X.s₀.heap.objs.size <= c
 hd : X.calm = true -> X.A.handled = none
 frames : X.A.frames = some X.stack
 stk : X.stack = X.outer \/ (X.stack = X.env :: X.outer /\ X.env.frame = some X.env.locals)
 exf : ∀ b ∈ X.ex, b ≠ X.env.locals /\ ∀ x c, X.env.cells.lookup x = some c -> c ≠ b
 bs : ∀ b o, X.base.get? b = some o -> X.s₀.heap.get? b = some o /\ X.H₀ b = none
 bsz : X.base.objs.size <= X.s₀.heap.objs.size
 noex : ∀ b o, X.base.get? b = some o -> b ∉ X.ex
 exfs : ∀ b ∈ X.ex, b ∉ X.fs
 funs : X.s₀.heap.FunFrames X.base X.outer
 frf : ∀ b ∈ X.fs, X.H₀ b = none
structure Inv (X : Cx) (pins : List (Addr × Obj)) (σ : List (Option V)) (H : Hp) (s : Shared) : Prop where
 ok : X.Ok
 os : s.os = X.s₀.os
 bare : AllBare s.gens
 base : Un X.fs X.ex X.H₀ H X.s₀.heap s.heap
 loc : ∃ m, s.heap.Ns X.env.locals m /\ ∀ (i : Nat) (x : Str) (v : V), X.N[i]? = some x -> σ[i]? = some (some v) -> Vis X.env.scope x -> ∃ u, RelV v u /\ Look X.env s.heap m x u
 cell : ∀ x c, X.env.cells.lookup x = some c -> ∃ v, s.heap.IsCell c v
 free : H X.env.locals = none
 freeC : ∀ x c, X.env.cells.lookup x = some c -> H c = none
 pin : ∀ p ∈ X.pn ++ pins, s.heap.get? p.1 = some p.2 /\ H p.1 = none /\ p.1 ≠ X.env.locals /\ p.1 ∉ X.fs /\ ∀ v, p.2.data ≠ .cell v
 hok : HOk X.prog X.w H s.heap
 len : σ.length = X.N.length
section
variable {X : Cx} {pins : List (Addr × Obj)} {σ : List (Option V)} {H H' : Hp} {s : Shared} {h' : Heap}
theorem Cx.Ok.nofr (ok : X.Ok) {b : Addr} {o : Obj} (e : X.base.get? b = some o) : b ∉ X.fs := fun hb => by
 have := (ok.funs.mem hb).1
 rw [e] at this; cases this
theorem Inv.bs (I : Inv X pins σ H s) : ∀ b o, X.base.get? b = some o -> s.heap.get? b = some o /\ H b = none := fun b o e =>
 ⟨I.base.keep b o (I.ok.bs b o e).1 (I.ok.bs b o e).2 (I.ok.nofr e) (I.ok.noex b o e), I.base.free b o (I.ok.bs b o e).1 (I.ok.bs b o e).2 (I.ok.noex b o e)⟩
theorem Inv.bk (I : Inv X pins σ H s) : ∀ b o, X.base.get? b = some o -> s.heap.get? b = some o := fun b o e => (I.bs b o e).1
theorem Inv.mod (I : Inv X pins σ H s) : Mod X.K X.mg X.base := I.ok.mod
theorem Inv.kIn (I : Inv X pins σ H s) : X.K.In s.heap := I.ok.mod.kin.keeps I.bk
theorem Inv.lt (I : Inv X pins σ H s) : X.env.locals < s.heap.objs.size := let ⟨_, hn, _⟩ := I.loc; hn.lt
theorem Inv.sz (I : Inv X pins σ H s) : X.s₀.heap.objs.size <= s.heap.objs.size := Nat.le_trans I.ok.above (Nat.le_of_lt I.lt)
theorem Inv.nofs (I : Inv X pins σ H s) {a : Addr} (h : s.heap.objs.size <= a) : a ∉ X.fs := fun hb => by
 obtain ⟨_, o, ho, _⟩ := I.ok.funs.mem hb
 exact absurd (Nat.lt_of_lt_of_le (Heap.lt_size ho) (Nat.le_trans I.sz h)) (Nat.lt_irrefl _)
theorem Inv.cne (I : Inv X pins σ H s) : ∀ x c, X.env.cells.lookup x = some c -> c ≠ X.env.locals := fun x c e z => by
 obtain ⟨v, o, ho, hd⟩ := I.cell x c e
 obtain ⟨m, ⟨o', es, ep, ho', hd', _⟩, _⟩ := I.loc
 rw [z, ho'] at ho; cases ho; rw [hd'] at hd; cases hd
theorem Inv.funs (I : Inv X pins σ H s) : s.heap.FunFrames X.base X.outer := by
 have all : ∀ (l : List Env), (∀ b ∈ frs l, b ∈ X.fs) -> X.s₀.heap.FunFrames X.base l -> s.heap.FunFrames X.base l := by
  intro l
  induction l with
  | nil => intro _ _; trivial
  | cons env r ih =>
    intro hs hl
    obtain ⟨hk, ⟨L, o, hf, hn, ho, hd⟩, hr⟩ := hl
    have hL : L ∈ X.fs := hs L (by unfold frs; rw [List.filterMap_cons, hf]; exact List.mem_cons_self)
    obtain ⟨sl, e⟩ := I.base.slot L o ho (I.ok.frf L hL) hL fun z => I.ok.exfs L z hL
    exact ⟨hk, ⟨L, _, hf, hn, e, hd⟩, ih (fun b hb => hs b (by unfold frs; rw [List.filterMap_cons, hf]; exact List.mem_cons_of_mem _ hb)) hr⟩
 exact all X.outer (fun _ hb => hb) I.ok.funs
theorem Inv.stack (I : Inv X pins σ H s) : s.heap.FunFrames X.base X.stack := by
 rcases I.ok.stk with e | ⟨e, hf⟩
 . rw [e]; exact I.funs
 . rw [e]
   obtain ⟨m, hn, _⟩ := I.loc
   refine .cons (by rw [I.ok.kind]; decide) hf hn ?_ I.funs
   exact Heap.get?_none_of_le (Nat.le_trans I.ok.bsz I.ok.above)
theorem Inv.stkSub (I : Inv X pins σ H s) : ∀ b ∈ frs X.stack, b ∈ X.env.locals :: X.fs := fun b hb => by
 rcases I.ok.stk with e | ⟨e, hf⟩
 . rw [e] at hb; exact List.mem_cons_of_mem _ hb
 . rw [e] at hb
   unfold frs at hb
   rw [List.filterMap_cons, hf] at hb
   exact hb
theorem Inv.stkFree (I : Inv X pins σ H s) : ∀ b ∈ frs X.stack, H b = none := fun b hb => by
 rcases List.mem_cons.mp (I.stkSub b hb) with e | hb
 . rw [e]; exact I.free
 . obtain ⟨_, o, ho, _⟩ := I.ok.funs.mem hb
   exact I.base.free b o ho (I.ok.frf b hb) fun z => I.ok.exfs b z hb
theorem Inv.step {g' : Array GenState} {t' : Nat} {d' : Drawn} {ch : List Addr} (I : Inv X pins σ H s)
 (hch : ∀ b ∈ ch, (b ∈ X.ex \/ X.s₀.heap.objs.size <= b) /\ b ≠ X.env.locals /\ (∀ x c, X.env.cells.lookup x = some c -> c ≠ b) /\ ∀ p ∈ X.pn ++ pins, p.1 ≠ b)
 (keep : ∀ b o, b ≠ X.env.locals -> b ∉ X.fs -> b ∉ ch -> s.heap.get? b = some o -> H b = none -> h'.get? b = some o)
 (slot : ∀ b o, b ≠ X.env.locals -> b ∈ X.fs -> b ∉ ch -> s.heap.get? b = some o -> H b = none -> ∃ sl, h'.get? b = some { o with slots := sl }) (free : ∀ b o, b ∉ ch -> s.heap.get? b = some o -> H b = none -> H' b = none)
 (there : ∀ b o, b ∉ ch -> s.heap.get? b = some o -> ∃ o', h'.get? b = some o')
 (tups : ∀ b xs, H b = some (.tup xs) -> H' b = some (.tup xs)) (frzs : ∀ b o u, H b = some (.frz o u) -> H' b = some (.frz o u)) (tbls : ∀ b ps, H b = some (.tbl ps) -> ∃ more, H' b = some (.tbl (ps ++ more)))
 (ns : ∀ m, s.heap.Ns X.env.locals m -> h'.Ns X.env.locals m) (hok : HOk X.prog X.w H' h') (hg : AllBare g') :
 Inv X pins σ H' { s with heap := h', gens := g', drawn := d', toks := t' } := by
 have neL : ∀ b o, X.s₀.heap.get? b = some o -> b ≠ X.env.locals := fun b o e => Nat.ne_of_lt (Nat.lt_of_lt_of_le (Heap.lt_size e) I.ok.above)
 have neC : ∀ b o, X.s₀.heap.get? b = some o -> b ∉ X.ex -> b ∉ ch := fun b o e hx hb => by
  rcases (hch b hb).1 with z | z
  . exact hx z
  . exact absurd (Nat.lt_of_lt_of_le (Heap.lt_size e) z) (Nat.lt_irrefl _)
 have cellK : ∀ x c, X.env.cells.lookup x = some c -> ∀ v, s.heap.IsCell c v -> h'.IsCell c v := fun x c e v ⟨o, ho, hd⟩ => by
  have nch : c ∉ ch := fun z => (hch c z).2.2.1 x c e rfl
  by_cases hc : c ∈ X.fs
  . obtain ⟨sl, q⟩ := slot c o (I.cne x c e) hc nch ho (I.freeC x c e)
    exact ⟨_, q, hd⟩
  . exact ⟨o, keep c o (I.cne x c e) hc nch ho (I.freeC x c e), hd⟩
 refine ⟨I.ok, I.os, hg, ⟨fun b o e n hb hx => ?_, fun b o e n hb hx => ?_, fun b o e n hx => ?_, fun b o e hx => ?_, fun b xs e => tups b xs (I.base.tups b xs e), fun b o xs e => frzs b o xs (I.base.frzs b o xs e), fun b ps e => ?_⟩, ?_, fun x c e => ?_, ?_, fun x c e => ?_, fun p hp => ?_, hok, I.len⟩
 . exact keep b o (neL b o e) hb (neC b o e hx) (I.base.keep b o e n hb hx) (I.base.free b o e n hx)
 . obtain ⟨sl, e1⟩ := I.base.slot b o e n hb hx
   obtain ⟨sl', e2⟩ := slot b _ (neL b o e) hb (neC b o e hx) e1 (I.base.free b o e n hx)
   exact ⟨sl', e2⟩
 . obtain ⟨o', e1⟩ := I.base.there b o e hx
   exact free b o' (neC b o e hx) e1 (I.base.free b o e n hx)
 . obtain ⟨o', e1⟩ := I.base.there b o e hx
   exact there b o' (neC b o e hx) e1
 . obtain ⟨m1, e1⟩ := I.base.tbls b ps e
   obtain ⟨m2, e2⟩ := tbls b _ e1
   exact ⟨m1 ++ m2, by rw [e2, Array.append_assoc]⟩
 . obtain ⟨m, hn, hl⟩ := I.loc
   refine ⟨m, ns m hn, fun i x v e1 e2 e3 => ?_⟩
   obtain ⟨u, r, l⟩ := hl i x v e1 e2 e3
   refine ⟨u, r, ?_⟩
   rcases l with l | ⟨k, c, e, z⟩
   . exact .inl l
   . exact .inr ⟨k, c, e, cellK x c e _ z⟩
 . obtain ⟨v, z⟩ := I.cell x c e
   exact ⟨v, cellK x c e v z⟩
 . obtain ⟨m, ⟨o, _, _, ho, _⟩, _⟩ := I.loc
   exact free _ o (fun z => (hch _ z).2.1 rfl) ho I.free
 . obtain ⟨v, o, ho, hd⟩ := I.cell x c e
   exact free c o (fun z => (hch c z).2.2.1 x c e rfl) ho (I.freeC x c e)
 . obtain ⟨e, n, ne, nf, d⟩ := I.pin p hp
   have nch : p.1 ∉ ch := fun z => (hch p.1 z).2.2.2 p hp rfl
   exact ⟨keep p.1 p.2 ne nf nch e n, free p.1 p.2 nch e n, ne, nf, d⟩
theorem Inv.un {t' : Nat} (I : Inv X pins σ H s) (u : Un X.fs [] H H' s.heap h') (hok : HOk X.prog X.w H' h') : Inv X pins σ H' { s with heap := h', toks := t' } := by
 obtain ⟨m, ⟨o, es, ep, ho, r⟩, _⟩ := id I.loc
 obtain ⟨sl, hL⟩ := u.any ho I.free (by simp)
 exact I.step (g' := s.gens) (d' := s.drawn) (ch := []) (fun _ z => nomatch z) (fun b o _ hb _ e n => u.keep b o e n hb (by simp)) (fun b o _ hb _ e n => u.slot b o e n hb (by simp)) (fun b o _ e n => u.free b o e n (by simp)) (fun b o _ e => u.there b o e (by simp)) u.tups u.frzs u.tbls (fun m' hm => by
  obtain ⟨o', es', ep', ho', r'⟩ := hm
  rw [ho] at ho'; cases ho'
  exact ⟨_, es', ep', hL, r'⟩) hok I.bare
theorem Inv.call {g' : Array GenState} {t' : Nat} {d' : Drawn} {ch : List Addr} (I : Inv X pins σ H s) (u : Un (frs X.stack) ch H H' s.heap h') (hok : HOk X.prog X.w H' h') (hg : AllBare g')
 (hch : ∀ b ∈ ch, (b ∈ X.ex \/ X.s₀.heap.objs.size <= b) /\ b ≠ X.env.locals /\ (∀ x c, X.env.cells.lookup x = some c -> c ≠ b) /\ ∀ p ∈ X.pn ++ pins, p.1 ≠ b) :
 Inv X pins σ H' { s with heap := h', gens := g', drawn := d', toks := t' } := by
 obtain ⟨m, ⟨o, es, ep, ho, r⟩, _⟩ := id I.loc
 obtain ⟨sl, hL⟩ := u.any ho I.free fun z => (hch _ z).2.1 rfl
 exact I.step (ch := ch) hch (fun b o hL hb hc e n => u.keep b o e n (fun z => (List.mem_cons.mp (I.stkSub b z)).elim hL hb) hc) (fun b o _ _ hc e n => u.any e n hc) (fun b o hc e n => u.free b o e n hc) (fun b o hc e => u.there b o e hc) u.tups u.frzs u.tbls (fun m' hm => by
  obtain ⟨o', es', ep', ho', r'⟩ := hm
  rw [ho] at ho'; cases ho'
  exact ⟨_, es', ep', hL, r'⟩) hok hg
theorem Inv.turned {t' : Nat} {it : Addr} (I : Inv X pins σ H s) (k : ∀ b o, b ≠ it -> s.heap.get? b = some o -> h'.get? b = some o) (hn : H it = none) (hL : it ≠ X.env.locals)
 (h1 : it ∈ X.ex \/ X.s₀.heap.objs.size <= it) (h2 : ∀ x c, X.env.cells.lookup x = some c -> c ≠ it) (h3 : ∀ p ∈ X.pn ++ pins, p.1 ≠ it) : Inv X pins σ H { s with heap := h', toks := t' } := by
 have nit : ∀ b u, H b = some u -> b ≠ it := fun b u e z => by rw [z, hn] at e; cases e
 refine I.step (g' := s.gens) (d' := s.drawn) (ch := [it]) (fun b hb => ?_) (fun b o _ _ hc e _ => k b o (fun z => hc (by simp [z])) e) (fun b o _ _ hc e _ => ⟨o.slots, k b o (fun z => hc (by simp [z])) e⟩) (fun _ _ _ _ n => n)
  (fun b o hc e => ⟨o, k b o (fun z => hc (by simp [z])) e⟩) (fun _ _ e => e) (fun _ _ _ e => e) (fun b ps e => ⟨#[], by rw [e]; simp⟩) (fun m hm => ?_) (fun b u e => ?_) I.bare
 . have e : b = it := by simpa using hb
   subst e
   exact ⟨h1, hL, h2, h3⟩
 . obtain ⟨o, es, ep, ho, r⟩ := hm
   exact ⟨o, es, ep, k _ o (Ne.symm hL) ho, r⟩
 . refine (I.hok b u e).stay (fun c v hc q => k c v ?_ q) (fun _ q => q) fun _ _ q => q
   rcases hc with z | z
   . rw [z]; exact nit b u e
   . exact nit c _ z
theorem Inv.tok (I : Inv X pins σ H s) (t : Nat) : Inv X pins σ H { s with toks := t } := I.un (h' := s.heap) (t' := t) Un.refl I.hok
theorem Inv.kept {t' : Nat} (I : Inv X pins σ H s) (k : ∀ b u, s.heap.get? b = some u -> h'.get? b = some u) : Inv X pins σ H { s with heap := h', toks := t' } := I.un (Un.kept k) (I.hok.kept k)
theorem Inv.laid {a : Addr} {o : HO} {t' : Nat} (I : Inv X pins σ H s) (k : ∀ b u, s.heap.get? b = some u -> h'.get? b = some u) (hp : s.heap.objs.size <= a) (new : ObjOk X.prog X.w (upd H a o) h' a o) :
 Inv X pins σ (upd H a o) { s with heap := h', toks := t' } := I.un (Un.laid k hp (I.hok.fresh hp)) (I.hok.laid k hp new)
theorem Inv.write {x e : Addr} {o : HO} {t' : Nat} (I : Inv X pins σ H s) (mu : Mut (H x)) (he : e = x \/ H e = some (.own x)) (k : ∀ b u, b ≠ e -> s.heap.get? b = some u -> h'.get? b = some u) (heo : ∃ u, h'.get? e = some u)
 (new : ObjOk X.prog X.w (upd H x o) h' x o) : Inv X pins σ (upd H x o) { s with heap := h', toks := t' } := I.un (Un.write mu he k heo) (I.hok.write mu he k heo new)
theorem Inv.pins_of {pins' : List (Addr × Obj)} (I : Inv X pins σ H s) (h : ∀ p ∈ pins', s.heap.get? p.1 = some p.2 /\ H p.1 = none /\ p.1 ≠ X.env.locals /\ p.1 ∉ X.fs /\ ∀ v, p.2.data ≠ .cell v) : Inv X pins' σ H s :=
 ⟨I.ok, I.os, I.bare, I.base, I.loc, I.cell, I.free, I.freeC, fun p hp => (List.mem_append.mp hp).elim (fun z => I.pin p (List.mem_append_left _ z)) (h p), I.hok, I.len⟩
theorem nodup_ix {N : List Str} (hN : N.Nodup) {i j : Nat} {x : Str} (a : N[i]? = some x) (b : N[j]? = some x) : i = j := by
 obtain ⟨h1, e1⟩ := List.getElem?_eq_some_iff.mp a
 obtain ⟨h2, e2⟩ := List.getElem?_eq_some_iff.mp b
 exact (List.getElem_inj hN).mp (e1.trans e2.symm)
theorem store_ok2 {M : Model} {A : Around} {E : Value -> Shared -> Prop} {i : Nat} {x : Str} {v : V} {u : Value} {Q : Unit -> Shared -> Prop} (I : Inv X pins σ H s) (hN : X.N.Nodup) (hi : X.N[i]? = some x) (hx : Loc X.env.scope x) (r : RelV v u)
 (h : ∀ s', Inv X pins (σ.set i (some v)) H s' -> (∃ a, Heap.SameBut a s.heap s'.heap /\ (a = X.env.locals \/ X.env.cells.lookup x = some a)) -> Q () s') (hf : X.fn x = true \/ X.env.scope.names.lookup x = some .local := by first | exact .inl rfl | exact .inr rfl | assumption) : wpAny M A (storeName X.env x u) Q E s := by
 obtain ⟨m, hn, hl⟩ := id I.loc
 have hcls : (X.env.scope.kind == .class || (X.env.scope.kind == .module && X.env.locals != X.env.globals)) = false := by rw [I.ok.kind]; rfl
 have hiσ : i < σ.length := by rw [I.len]; exact (List.getElem?_eq_some_iff.mp hi).1
 have cne := I.cne
 have tracked : ∀ {a : Addr} {h' : Heap}, (∃ o, s.heap.get? a = some o /\ H a = none) -> Heap.SameBut a s.heap h' -> HOk X.prog X.w H h' := fun {a h'} ha hs b ob e => by
  obtain ⟨_, _, hfree⟩ := ha
  refine (I.hok b ob e).stay (fun c w' hc q => (hs.2 c ?_).trans q) (fun _ q => q) fun _ _ q => q
  rintro rfl
  rcases hc with rfl | hc
  . rw [hfree] at e; cases e
  . rw [hfree] at hc; cases hc
 rcases hx with hk | hk
 . refine wpAny_storeName_local hk hn (fun h' hn' hs => ?_) hcls
   obtain ⟨oL, _, _, hoL, _⟩ := id hn
   refine h _ ⟨I.ok, I.os, I.bare, ⟨fun b o e n hb hx => ?_, fun b o e n hb hx => ?_, I.base.free, fun b o e hx => ?_, I.base.tups, I.base.frzs, I.base.tbls⟩, ⟨_, hn', fun j y v' e1 e2 e3 => ?_⟩, fun y c e => ?_, I.free, I.freeC, fun p hp => ?_, tracked ⟨oL, hoL, I.free⟩ hs, by simpa using I.len⟩ ⟨_, hs, .inl rfl⟩
   . exact (hs.2 b (Nat.ne_of_lt (Nat.lt_of_lt_of_le (Heap.lt_size e) I.ok.above))).trans (I.base.keep b o e n hb hx)
   . obtain ⟨sl, e1⟩ := I.base.slot b o e n hb hx
     exact ⟨sl, (hs.2 b (Nat.ne_of_lt (Nat.lt_of_lt_of_le (Heap.lt_size e) I.ok.above))).trans e1⟩
   . obtain ⟨o', e1⟩ := I.base.there b o e hx
     exact ⟨o', (hs.2 b (Nat.ne_of_lt (Nat.lt_of_lt_of_le (Heap.lt_size e) I.ok.above))).trans e1⟩
   . by_cases hj : j = i
     . subst hj
       rw [hi] at e1; cases e1
       rw [List.getElem?_set_self hiσ] at e2
       cases e2
       exact ⟨u, r, .inl ⟨hk, by simp⟩⟩
     . rw [List.getElem?_set_ne (Ne.symm hj)] at e2
       obtain ⟨u', r', q⟩ := hl j y v' e1 e2 e3
       refine ⟨u', r', ?_⟩
       rcases q with ⟨k, e⟩ | ⟨k, c, e, z⟩
       . refine .inl ⟨k, ?_⟩
         have : y ≠ x := fun e => hj (nodup_ix hN e1 (e ▸ hi))
         simp [this, e]
       . exact .inr ⟨k, c, e, z.sameBut hs (cne y c e)⟩
   . obtain ⟨w', z⟩ := I.cell y c e
     exact ⟨w', z.sameBut hs (cne y c e)⟩
   . obtain ⟨e, n, ne, nf, d⟩ := I.pin p hp
     exact ⟨(hs.2 p.1 ne).trans e, n, ne, nf, d⟩
 . have hfn : X.fn x = true := by
    rcases hf with z | z
    . exact z
    . rw [z] at hk; cases hk
   obtain ⟨c, hc⟩ := I.ok.has x (.inl hk)
   obtain ⟨w', z⟩ := I.cell x c hc
   refine wpAny_storeName_cell I.ok.kind hk hc z (fun h' hc' hs => ?_)
   obtain ⟨oc, hoc, hocd⟩ := id z
   refine h { s with heap := h' } ⟨I.ok, I.os, I.bare, ⟨fun b o e n hb hx => ?_, fun b o e n hb hx => ?_, I.base.free, fun b o e hx => ?_, I.base.tups, I.base.frzs, I.base.tbls⟩, ⟨m, hn.sameBut hs (Ne.symm (cne x c hc)), fun j y v' e1 e2 e3 => ?_⟩, fun y c' e => ?_, I.free, I.freeC, fun p hp => ?_, tracked ⟨oc, hoc, I.freeC x c hc⟩ hs, by simpa using I.len⟩ ⟨c, hs, .inr hc⟩
   . exact (hs.2 b (Nat.ne_of_lt (Nat.lt_of_lt_of_le (Heap.lt_size e) (I.ok.cab x c hfn hc)))).trans (I.base.keep b o e n hb hx)
   . obtain ⟨sl, e1⟩ := I.base.slot b o e n hb hx
     exact ⟨sl, (hs.2 b (Nat.ne_of_lt (Nat.lt_of_lt_of_le (Heap.lt_size e) (I.ok.cab x c hfn hc)))).trans e1⟩
   . obtain ⟨o', e1⟩ := I.base.there b o e hx
     exact ⟨o', (hs.2 b (Nat.ne_of_lt (Nat.lt_of_lt_of_le (Heap.lt_size e) (I.ok.cab x c hfn hc)))).trans e1⟩
   . by_cases hj : j = i
     . subst hj
       rw [hi] at e1; cases e1
       rw [List.getElem?_set_self hiσ] at e2
       cases e2
       exact ⟨u, r, .inr ⟨.inl hk, c, hc, hc'⟩⟩
     . rw [List.getElem?_set_ne (Ne.symm hj)] at e2
       obtain ⟨u', r', q⟩ := hl j y v' e1 e2 e3
       refine ⟨u', r', ?_⟩
       rcases q with q | ⟨k, c', e, z'⟩
       . exact .inl q
       . refine .inr ⟨k, c', e, z'.sameBut hs ?_⟩
         rintro rfl
         exact hj (nodup_ix hN e1 (I.ok.inj _ _ _ e hc ▸ hi))
   . by_cases hcc : c' = c
     . subst hcc; exact ⟨_, hc'⟩
     . obtain ⟨w2, z2⟩ := I.cell y c' e
       exact ⟨w2, z2.sameBut hs hcc⟩
   . obtain ⟨e, n, ne, nf, d⟩ := I.pin p hp
     refine ⟨(hs.2 p.1 ?_).trans e, n, ne, nf, d⟩
     intro q
     rw [q, hoc] at e
     have q' : oc = p.2 := Option.some.inj e
     exact d w' (by rw [<- q']; exact hocd)
theorem store_ok {M : Model} {A : Around} {E : Value -> Shared -> Prop} {i : Nat} {x : Str} {v : V} {u : Value} {Q : Unit -> Shared -> Prop} (I : Inv X pins σ H s) (hN : X.N.Nodup) (hi : X.N[i]? = some x) (hx : Loc X.env.scope x) (r : RelV v u)
 (h : ∀ s', Inv X pins (σ.set i (some v)) H s' -> Q () s') (hf : X.fn x = true \/ X.env.scope.names.lookup x = some .local := by first | exact .inl rfl | exact .inr rfl | assumption) : wpAny M A (storeName X.env x u) Q E s :=
 store_ok2 I hN hi hx r (fun s' I' _ => h s' I') hf
theorem Inv.call' {s' : Shared} {ch : List Addr} (I : Inv X pins σ H s) (ho : s'.os = s.os) (u : Un (frs X.stack) ch H H' s.heap s'.heap) (hok : HOk X.prog X.w H' s'.heap) (hg : AllBare s'.gens)
 (hch : ∀ b ∈ ch, (b ∈ X.ex \/ X.s₀.heap.objs.size <= b) /\ b ≠ X.env.locals /\ (∀ x c, X.env.cells.lookup x = some c -> c ≠ b) /\ ∀ p ∈ X.pn ++ pins, p.1 ≠ b) : Inv X pins σ H' s' := by
 obtain ⟨h', g', d', t', o'⟩ := s'
 have e : o' = s.os := ho
 subst e
 exact I.call (g' := g') (t' := t') (d' := d') u hok hg hch
end
abbrev XK := Value -> Option Addr -> Hp -> Prop
abbrev St := List (Option V)
abbrev VK := V -> Hp -> Prop
abbrev TE := St -> Hp -> VK -> Prop
abbrev TT := St -> Hp -> (Bool -> Hp -> Prop) -> Prop
abbrev TA := St -> Hp -> (List V -> Hp -> Prop) -> Prop
structure Ends where
 nx : St -> Hp -> Prop
 rt : VK
 bk : St -> Hp -> Prop := fun _ _ => False
 ct : St -> Hp -> Prop := fun _ _ => False
abbrev TS := Ends -> St -> Hp -> Prop
def EP (X : Cx) (pins : List (Addr × Obj)) (σ : St) (Q : VK) (u : Value) (s' : Shared) : Prop := ∃ v H', Inv X pins σ H' s' /\ RelV v u /\ Q v H'
def TP (X : Cx) (pins : List (Addr × Obj)) (σ : St) (Q : Bool -> Hp -> Prop) (b : Bool) (s' : Shared) : Prop := ∃ H', Inv X pins σ H' s' /\ Q b H'
def AP (X : Cx) (pins : List (Addr × Obj)) (σ : St) (Q : List V -> Hp -> Prop) (us : List Value) (s' : Shared) : Prop := ∃ vs H', Inv X pins σ H' s' /\ Vals vs us /\ Q vs H'
def SP (X : Cx) (pins : List (Addr × Obj)) (D : Ends) (f : Flow) (s' : Shared) : Prop :=
 match f with
 | .next => ∃ σ' H', Inv X pins σ' H' s' /\ D.nx σ' H'
 | .brk => ∃ σ' H', Inv X pins σ' H' s' /\ D.bk σ' H'
 | .cont => ∃ σ' H', Inv X pins σ' H' s' /\ D.ct σ' H'
 | .ret u => ∃ v σ' H', Inv X pins σ' H' s' /\ RelV v u /\ D.rt v H'
def PE (X : Cx) (e : Expr) (t : TE) : Prop :=
 ∀ (pins : List (Addr × Obj)) (s : Shared) (σ : St) (H : Hp) (Q : VK), Inv X pins σ H s -> t σ H Q -> wpAny (model X.prog X.w) X.A (eval e X.env) (EP X pins σ Q) X.xe s
def PT (X : Cx) (e : Expr) (t : TT) : Prop :=
 ∀ (pins : List (Addr × Obj)) (s : Shared) (σ : St) (H : Hp) (Q : Bool -> Hp -> Prop), Inv X pins σ H s -> t σ H Q -> wpAny (model X.prog X.w) X.A (isTrue e X.env (eval e X.env)) (TP X pins σ Q) X.xe s
def PW (X : Cx) (e : Expr) (t : TT) : Prop :=
 ∀ (whole : Sem Value) (pins : List (Addr × Obj)) (s : Shared) (σ : St) (H : Hp) (Q : Bool -> Hp -> Prop), Inv X pins σ H s -> t σ H Q -> wpAny (model X.prog X.w) X.A (isTrue e X.env whole) (TP X pins σ Q) X.xe s
theorem PW.pt {X : Cx} {e : Expr} {t : TT} (h : PW X e t) : PT X e t := h _
def PA (X : Cx) (es : List Expr) (t : TA) : Prop :=
 ∀ (pos : Pos) (pins : List (Addr × Obj)) (s : Shared) (σ : St) (H : Hp) (Q : List V -> Hp -> Prop), Inv X pins σ H s -> t σ H Q -> wpAny (model X.prog X.w) X.A (spliced (backTo pos (starEach es X.env))) (AP X pins σ Q) X.xe s
def PS (X : Cx) (st : Stmt) (t : TS) : Prop :=
 ∀ (pins : List (Addr × Obj)) (s : Shared) (σ : St) (H : Hp) (D : Ends), Inv X pins σ H s -> t D σ H -> wpAny (model X.prog X.w) X.A (exec st X.env) (SP X pins D) X.xe s
def PSs (X : Cx) (st : List Stmt) (t : TS) : Prop :=
 ∀ (pins : List (Addr × Obj)) (s : Shared) (σ : St) (H : Hp) (D : Ends), Inv X pins σ H s -> t D σ H -> wpAny (model X.prog X.w) X.A (execs st X.env) (SP X pins D) X.xe s
theorem thn {α : Type} {t : Sem α} {Q Q' : α -> Shared -> Prop} {M : Model} {A : Around} {E : Value -> Shared -> Prop} {s : Shared} (h : wpAny M A t Q E s) (hQ : ∀ a s, Q a s -> Q' a s) : wpAny M A t Q' E s := wpAny_mono h hQ fun _ _ x => x
end L2
namespace L2
open PySem PySem.Spec PyProof.Rows
section
variable {X : Cx}
def tVar (i : Nat) : TE := fun σ H Q => ∃ v, σ[i]? = some (some v) /\ Q v H
def tC (v : V) : TE := fun _ H Q => Q v H
theorem pe_var {i : Nat} {x : Str} {pos : Pos} (hN : X.N[i]? = some x) (hv : Vis X.env.scope x) (hd : (x == ("__debug__" : Str)) = false := by decide) (hcd : (x == ("__classdict__" : Str)) = false := by decide) : PE X (.Name x pos) (tVar i) := by
 intro pins s σ H Q I h
 obtain ⟨v, e, h⟩ := h
 obtain ⟨m, hn, hl⟩ := I.loc
 obtain ⟨u, r, l⟩ := hl i x v hN e hv
 have fin : EP X pins σ Q u s := ⟨v, H, I, r, h⟩
 rcases l with ⟨hk, hm⟩ | ⟨hk, c, hc, hcell⟩
 . exact wpAny_Name (wpAny_loadName_local I.ok.kind hk hn hm fin) hd
 . rcases hk with hk | hk
   . exact wpAny_Name (wpAny_loadName_cell I.ok.kind hk hc hcell fin) hd
   . exact wpAny_Name (wpAny_loadName_free I.ok.kind hk hc hcell fin hcd) hd
theorem pe_int {i j pos} : PE X (.Constant (.int i) j pos) (tC (.int i)) := fun _ _ _ H _ I h => wpAny_Constant_int ⟨.int i, H, I.tok _, ⟨_, rfl⟩, h⟩
theorem pe_bl {b j pos} : PE X (.Constant (.bool b) j pos) (tC (.bl b)) := fun _ _ _ H _ I h => Constant_bool ⟨.bl b, H, I, rfl, h⟩
theorem pe_non {j pos} : PE X (.Constant .none j pos) (tC .non) := fun _ _ _ H _ I h => Constant_none ⟨.non, H, I, rfl, h⟩
theorem pe_str {x j pos} : PE X (.Constant (.str x) j pos) (tC (.str x)) := fun _ _ _ H _ I h => Calls.Constant_str ⟨.str x, H, I.tok _, ⟨_, rfl⟩, h⟩
def Gl (X : Cx) (x : Str) : Prop := X.env.kindOf x = some .globalImplicit
theorem ld_glob {E : Value -> Shared -> Prop} {pins : List (Addr × Obj)} {s : Shared} {σ : St} {H : Hp} {x : Str} {u : Value} {pos : Pos} {Q : Value -> Shared -> Prop} (I : Inv X pins σ H s) (hg : Gl X x) (hm : X.mg x = some u) (h : Q u s)
 (hd : (x == ("__debug__" : Str)) = false := by decide) : wpAny (model X.prog X.w) X.A (eval (.Name x pos) X.env) Q E s :=
 Calls.Name_function_global I.ok.kind hg (Calls.loadGlobal_global (by rw [I.ok.glob]; exact I.mod.glob.keeps I.bk) hm h) hd
theorem ld_blt {E : Value -> Shared -> Prop} {pins : List (Addr × Obj)} {s : Shared} {σ : St} {H : Hp} {x : Str} {u : Value} {pos : Pos} {Q : Value -> Shared -> Prop} (I : Inv X pins σ H s) (hg : Gl X x) (hm : X.mg x = none) (hv : bootBuiltins x = some u) (h : Q u s)
 (hn : x ≠ "__name__" := by decide) (hd : (x == ("__debug__" : Str)) = false := by decide) : wpAny (model X.prog X.w) X.A (eval (.Name x pos) X.env) Q E s := by
 obtain ⟨mb, h1, h2⟩ := I.mod.blt
 exact Calls.Name_function_global I.ok.kind hg (Calls.loadGlobal_builtin (by rw [I.ok.glob]; exact I.mod.glob.keeps I.bk) hm (by rw [I.ok.blt]; exact h1.keeps I.bk) ((h2 x hn).trans hv) h) hd
theorem pe_glob {x : Str} {v : V} {u : Value} {pos : Pos} (hg : Gl X x) (hm : X.mg x = some u) (r : RelV v u) (hd : (x == ("__debug__" : Str)) = false := by decide) : PE X (.Name x pos) (tC v) :=
 fun _ _ _ H _ I h => ld_glob I hg hm ⟨v, H, I, r, h⟩ hd
theorem pe_bltn {x : Str} {v : V} {u : Value} {pos : Pos} (hg : Gl X x) (hm : X.mg x = none) (hv : bootBuiltins x = some u) (r : RelV v u) (hn : x ≠ "__name__" := by decide) (hd : (x == ("__debug__" : Str)) = false := by decide) : PE X (.Name x pos) (tC v) :=
 fun _ _ _ H _ I h => ld_blt I hg hm hv ⟨v, H, I, r, h⟩ hn hd
variable {a b : Expr} {ta tb : TE} {pos : Pos}
def PC (X : Cx) (op : CmpOp) (a b : Expr) (t : TE) : Prop :=
 ∀ (pins : List (Addr × Obj)) (s : Shared) (σ : St) (H : Hp) (Q : VK), Inv X pins σ H s -> t σ H Q ->
   wpAny (model X.prog X.w) X.A (eval a X.env) (fun v s₁ => wpAny (model X.prog X.w) X.A (eval b X.env) (fun u s₂ => wpAny (model X.prog X.w) X.A (compareOp op v u) (EP X pins σ Q) X.xe s₂) X.xe s₁) X.xe s
def tB (t : TE) : TT := fun σ H Q => t σ H fun x H1 => ∃ c, x = .bl c /\ Q c H1
theorem pt_cmp {op : CmpOp} {t : TE} (h : PC X op a b t) (h1 : behindInMarks op b = false := by first | exact nobehind _ (by decide) (by decide) | rfl) : PT X (.Compare a [op] [b] pos) (tB t) := by
 intro pins s σ H Q I hw
 refine wpAny_isTrue_Compare1 (thn (h pins s σ H _ I hw) fun v s1 h1 => thn h1 fun u s2 h2 => thn h2 fun c s3 ⟨x, H1, I1, r1, q1⟩ => ?_) h1
 obtain ⟨d, rfl, q⟩ := q1
 cases r1
 exact wpAny_truthy_bool ⟨H1, I1, q⟩
theorem pt_val {e : Expr} {t : TE} (h : PE X e t) (he : ∀ whole, isTrue e X.env whole = (do let v <- whole; standAt e.pos; holding [v] (truthy v)) := by intro _; rfl) : PT X e (tB t) := by
 intro pins s σ H Q I hw
 refine isTrue_plain (thn (h pins s σ H _ I hw) fun v s1 ⟨x, H1, I1, r1, q1⟩ => ?_) (he _)
 obtain ⟨d, rfl, q⟩ := q1
 cases r1
 exact wpAny_truthy_bool ⟨H1, I1, q⟩
variable {tA tB' : TT} {rest : List Expr}
def tAnd (t u : TT) : TT := fun σ H Q => t σ H fun c H1 => if c = true then u σ H1 Q else Q false H1
def tOr (t u : TT) : TT := fun σ H Q => t σ H fun c H1 => if c = true then Q true H1 else u σ H1 Q
def tNot (t : TT) : TT := fun σ H Q => t σ H fun c H1 => Q (!c) H1
theorem pw_and1 (ha : PT X a tA) : PW X (.BoolOp .And [a] pos) tA := by
 intro wh pins s σ H Q I h
 refine isTrue_and (thn (ha pins s σ H Q I h) fun c s1 e => ?_)
 cases c with
 | true => exact isTrue_and_nil e
 | false => exact e
theorem pw_or1 (ha : PT X a tA) : PW X (.BoolOp .Or [a] pos) tA := by
 intro wh pins s σ H Q I h
 refine isTrue_or (thn (ha pins s σ H Q I h) fun c s1 e => ?_)
 cases c with
 | false => exact isTrue_or_nil e
 | true => exact e
theorem pw_and (ha : PT X a tA) (hb : PW X (.BoolOp .And (b :: rest) pos) tB') : PW X (.BoolOp .And (a :: b :: rest) pos) (tAnd tA tB') := by
 intro wh pins s σ H Q I h
 refine isTrue_and (thn (ha pins s σ H _ I h) fun c s1 ⟨H1, I1, q1⟩ => ?_)
 cases c with
 | true => exact hb wh pins s1 σ H1 Q I1 q1
 | false => exact ⟨H1, I1, q1⟩
theorem pw_or (ha : PT X a tA) (hb : PW X (.BoolOp .Or (b :: rest) pos) tB') : PW X (.BoolOp .Or (a :: b :: rest) pos) (tOr tA tB') := by
 intro wh pins s σ H Q I h
 refine isTrue_or (thn (ha pins s σ H _ I h) fun c s1 ⟨H1, I1, q1⟩ => ?_)
 cases c with
 | true => exact ⟨H1, I1, q1⟩
 | false => exact hb wh pins s1 σ H1 Q I1 q1
theorem pt_not (ha : PT X a tA) : PT X (.UnaryOp .Not a pos) (tNot tA) := by
 intro pins s σ H Q I h
 exact isTrue_not (ha pins s σ H (fun c H1 => Q (!c) H1) I h)
def tAndV (ta tb : TE) : TE := fun σ H Q => ta σ H fun x H1 => ∃ c, x = .bl c /\ if c = true then tb σ H1 Q else Q (.bl false) H1
def tNotV (ta : TE) : TE := fun σ H Q => ta σ H fun x H1 => ∃ c, x = .bl c /\ Q (.bl (!c)) H1
theorem pe_one {op} {t : TE} (h : PE X a t) : PE X (.BoolOp op [a] pos) t := fun pins s σ H Q I hw => BoolOp_one (h pins s σ H Q I hw)
theorem pe_and (ha : PE X a ta) (hb : PE X (.BoolOp .And (b :: rest) pos) tb) : PE X (.BoolOp .And (a :: b :: rest) pos) (tAndV ta tb) := by
 intro pins s σ H Q I h
 refine BoolOp_and (thn (ha pins s σ H _ I h) fun v s1 ⟨x, H1, I1, r1, q1⟩ => ?_)
 obtain ⟨c, rfl, q1⟩ := q1
 cases r1
 refine wpAny_truthy_bool ?_
 cases c with
 | true => exact hb pins s1 σ H1 Q I1 q1
 | false => exact ⟨.bl false, H1, I1, rfl, q1⟩
theorem pe_not (ha : PE X a ta) : PE X (.UnaryOp .Not a pos) (tNotV ta) := by
 intro pins s σ H Q I h
 refine UnaryOp_ (thn (ha pins s σ H _ I h) fun v s1 ⟨x, H1, I1, r1, q1⟩ => ?_)
 obtain ⟨c, rfl, q1⟩ := q1
 cases r1
 exact not_of (wpAny_truthy_bool ⟨.bl (!c), H1, I1, rfl, q1⟩)
def tIf (t : TT) (ta tb : TE) : TE := fun σ H Q => t σ H fun c H1 => if c = true then ta σ H1 Q else tb σ H1 Q
theorem pe_ifExp {c : Expr} (hc : PT X c tA) (ha : PE X a ta) (hb : PE X b tb) : PE X (.IfExp c a b pos) (tIf tA ta tb) := by
 intro pins s σ H Q I h
 refine wpAny_IfExp (thn (hc pins s σ H _ I h) fun d s1 ⟨H1, I1, q1⟩ => ?_)
 cases d with
 | true => exact ha pins s1 σ H1 Q I1 q1
 | false => exact hb pins s1 σ H1 Q I1 q1
end
end L2
namespace L2
open PySem PySem.Spec PyProof.Rows
def SqL (K : W.Frag) (H : Hp) (a : Addr) (xs : List V) : Prop :=
 Rd H a (.lst xs) \/
  ∃ (o : Obj) (its : Array Value) (n : Nat), K.lookup a = some o /\ o.cls = .type "list" /\ o.dict = none /\ o.data = .seq its n /\ its.size <= sizeLine /\ Vals xs its.toList
def SqT (K : W.Frag) (H : Hp) (a : Addr) (xs : List V) : Prop :=
 Rd H a (.tup xs) \/
  ∃ (o : Obj) (its : Array Value) (n : Nat), K.lookup a = some o /\ o.cls = .type "tuple" /\ o.data = .seq its n /\ its.size <= sizeLine /\ Vals xs its.toList
def absV : Value -> Option V
 | .none => some .non
 | .bool b => some (.bl b)
 | .int i _ => some (.int i)
 | .str x _ => some (.str x)
 | .bytes b _ => some (.byt b)
 | .float b _ => some (.flt b)
 | .ref a => some (.ref a)
 | .type n => some (.ty n)
 | _ => none
theorem RelV.abs {x : V} {u : Value} (r : RelV x u) : absV u = some x := by
 cases x with
 | non => cases r; rfl
 | bl _ => cases r; rfl
 | int _ => obtain ⟨t, rfl⟩ := r; rfl
 | str _ => obtain ⟨t, rfl⟩ := r; rfl
 | byt _ => obtain ⟨t, rfl⟩ := r; rfl
 | flt _ => obtain ⟨t, rfl⟩ := r; rfl
 | ref _ => cases r; rfl
 | ty _ => cases r; rfl
theorem RelV.inj {x y : V} {u : Value} (r : RelV x u) (q : RelV y u) : x = y := Option.some.inj (r.abs.symm.trans q.abs)
theorem Vals.inj : ∀ {xs ys : List V} {us : List Value}, Vals xs us -> Vals ys us -> xs = ys
 | _, _, _, .nil, .nil => rfl
 | _, _, _, .cons r t, .cons r' t' => by rw [r.inj r', Vals.inj t t']
section
variable {X : Cx} {pins : List (Addr × Obj)} {σ : St} {H : Hp} {s : Shared} {a : Addr} {xs ys : List V}
theorem SqL.of {K : W.Frag} (h : H a = some (.lst xs)) : SqL K H a xs := .inl (.inl h)
theorem SqT.of {K : W.Frag} (h : H a = some (.tup xs)) : SqT K H a xs := .inl (.inl h)
theorem Inv.list (I : Inv X pins σ H s) (h : SqL X.K H a xs) : ∃ its : List Value, Vals xs its /\ PlainL s.heap a its.toArray /\ xs.length <= sizeLine := by
 rcases h with h | ⟨o, its, n, hk, hc, hd, hs, hz, r⟩
 . obtain ⟨z, its, n, r, e⟩ := h.ok I.hok
   exact ⟨its, r, ⟨_, n, e, rfl, rfl, rfl⟩, z⟩
 . refine ⟨its.toList, r, ⟨o, n, I.kIn a o hk, hc, hd, by simpa using hs⟩, ?_⟩
   have e := r.length
   simp only [Array.length_toList] at e
   omega
theorem Inv.tuple (I : Inv X pins σ H s) (h : SqT X.K H a xs) : ∃ its : List Value, Vals xs its /\ IsTup s.heap a its.toArray /\ xs.length <= sizeLine := by
 rcases h with h | ⟨o, its, n, hk, hc, hs, hz, r⟩
 . obtain ⟨z, its, r, p⟩ := h.ok I.hok
   exact ⟨its, r, p, z⟩
 . refine ⟨its.toList, r, ⟨o, I.kIn a o hk, hc, n, by simpa using hs⟩, ?_⟩
   have e := r.length
   simp only [Array.length_toList] at e
   omega
theorem Inv.list_inj (I : Inv X pins σ H s) (h : SqL X.K H a xs) (h' : SqL X.K H a ys) : xs = ys := by
 obtain ⟨its, r, ⟨o, n, e, _, _, d⟩, _⟩ := I.list h
 obtain ⟨its', r', ⟨o', n', e', _, _, d'⟩, _⟩ := I.list h'
 rw [e] at e'; cases e'
 rw [d] at d'
 injection d' with d1 _
 have : its = its' := by simpa using congrArg Array.toList d1
 subst this
 exact r.inj r'
theorem Inv.tuple_inj (I : Inv X pins σ H s) (h : SqT X.K H a xs) (h' : SqT X.K H a ys) : xs = ys := by
 obtain ⟨its, r, ⟨o, e, _, n, d⟩, _⟩ := I.tuple h
 obtain ⟨its', r', ⟨o', e', _, n', d'⟩, _⟩ := I.tuple h'
 rw [e] at e'; cases e'
 rw [d] at d'
 injection d' with d1 _
 have : its = its' := by simpa using congrArg Array.toList d1
 subst this
 exact r.inj r'
end
abbrev Cx.wish (X : Cx) (E : Value -> Shared -> Prop) : Cx := { X with xe := E }
abbrev Cx.nox (X : Cx) : Cx := X.wish fun _ _ => False
theorem Cx.Ok.wish {X : Cx} (ok : X.Ok) (E : Value -> Shared -> Prop) : (X.wish E).Ok :=
 ⟨ok.mod, ok.kind, ok.glob, ok.blt, ok.above, ok.inj, ok.has, ok.cab, ok.hd, ok.frames, ok.stk, ok.exf, ok.bs, ok.bsz, ok.noex, ok.exfs, ok.funs, ok.frf⟩
theorem Cx.Ok.unwish {X : Cx} {E : Value -> Shared -> Prop} (ok : (X.wish E).Ok) : X.Ok :=
 ⟨ok.mod, ok.kind, ok.glob, ok.blt, ok.above, ok.inj, ok.has, ok.cab, ok.hd, ok.frames, ok.stk, ok.exf, ok.bs, ok.bsz, ok.noex, ok.exfs, ok.funs, ok.frf⟩
section
variable {X : Cx} {pins : List (Addr × Obj)} {σ : St} {H : Hp} {s : Shared} {E : Value -> Shared -> Prop}
theorem Inv.wish (I : Inv X pins σ H s) (E : Value -> Shared -> Prop) : Inv (X.wish E) pins σ H s := ⟨I.ok.wish E, I.os, I.bare, I.base, I.loc, I.cell, I.free, I.freeC, I.pin, I.hok, I.len⟩
theorem Inv.unwish (I : Inv (X.wish E) pins σ H s) : Inv X pins σ H s := ⟨I.ok.unwish, I.os, I.bare, I.base, I.loc, I.cell, I.free, I.freeC, I.pin, I.hok, I.len⟩
theorem SP.unwish {D : Ends} {f : Flow} {s' : Shared} (h : SP (X.wish E) pins D f s') : SP X pins D f s' := by
 cases f with
 | next => obtain ⟨σ', H', I, q⟩ := h; exact ⟨σ', H', I.unwish, q⟩
 | brk => obtain ⟨σ', H', I, q⟩ := h; exact ⟨σ', H', I.unwish, q⟩
 | cont => obtain ⟨σ', H', I, q⟩ := h; exact ⟨σ', H', I.unwish, q⟩
 | ret u => obtain ⟨v, σ', H', I, r, q⟩ := h; exact ⟨v, σ', H', I.unwish, r, q⟩
theorem PSs.nox {st : List Stmt} {t : TS} (h : PSs X.nox st t) : PSs X st t := fun pins s σ H D I hw =>
 wpAny_mono (h pins s σ H D (I.wish _) hw) (fun _ _ q => q.unwish) fun _ _ z => False.elim z
end
section
variable {X : Cx} {st : Stmt} {rest : List Stmt} {t u : TS} {e : Expr} {te : TE} {pos : Pos}
def tNext : TS := fun D σ H => D.nx σ H
def tSeq (t u : TS) : TS := fun D σ H => t { D with nx := u D } σ H
theorem pss_nil : PSs X [] tNext := fun _ _ σ H _ I h => wpAny_execs_nil ⟨σ, H, I, h⟩
theorem pss_cons (h1 : PS X st t) (h2 : PSs X rest u) : PSs X (st :: rest) (tSeq t u) := by
 intro pins s σ H D I h
 refine wpAny_execs_cons (thn (h1 pins s σ H { D with nx := u D } I h) fun f s1 q => ?_)
 cases f with
 | next =>
   obtain ⟨σ', H', I', q⟩ := q
   exact h2 pins s1 σ' H' D I' q
 | ret v => exact q
 | brk => exact q
 | cont => exact q
theorem pss_one (h1 : PS X st t) : PSs X [st] t := by
 intro pins s σ H D I h
 refine wpAny_execs_cons (thn (h1 pins s σ H D I h) fun f s1 q => ?_)
 cases f with
 | next => exact wpAny_execs_nil q
 | ret v => exact q
 | brk => exact q
 | cont => exact q
theorem Inv.quiet {pins : List (Addr × Obj)} {σ : St} {H : Hp} {s : Shared} (I : Inv X pins σ H s) : interactive X.env = false := by simp [interactive, I.ok.kind]
def tDrop (te : TE) : TS := fun D σ H => te σ H fun _ H1 => D.nx σ H1
theorem ps_expr (he : PE X e te) (hs : swapsWith e none pos.line X.env = pure false := by rfl) : PS X (.Expr e pos) (tDrop te) := by
 intro pins s σ H D I h
 exact wpAny_Expr_any (thn (he pins s σ H _ I h) fun v s1 ⟨x, H1, I1, r1, q1⟩ => ⟨σ, H1, I1, q1⟩) I.quiet hs
def tRet (te : TE) : TS := fun D σ H => te σ H D.rt
theorem ps_ret (he : PE X e te) : PS X (.Return (some e) pos) (tRet te) := by
 intro pins s σ H D I h
 exact wpAny_Return_some (thn (he pins s σ H _ I h) fun v s1 ⟨x, H1, I1, r1, q1⟩ => ⟨x, σ, H1, I1, r1, q1⟩)
def tIfS (c : TT) (t u : TS) : TS := fun D σ H => c σ H fun b H1 => if b = true then t D σ H1 else u D σ H1
theorem ps_if {c : Expr} {a b : List Stmt} {tc : TT} (hc : PT X c tc) (ha : PSs X a t) (hb : PSs X b u) : PS X (.If c a b pos) (tIfS tc t u) := by
 intro pins s σ H D I h
 refine wpAny_If (thn (hc pins s σ H _ I h) fun d s1 ⟨H1, I1, q1⟩ => ?_)
 cases d with
 | true => exact ha pins s1 σ H1 D I1 q1
 | false => exact hb pins s1 σ H1 D I1 q1
end
abbrev TG := V -> St -> Hp -> (St -> Hp -> Prop) -> Prop
abbrev TGs := List V -> St -> Hp -> (St -> Hp -> Prop) -> Prop
def PG (X : Cx) (target : Expr) (t : TG) : Prop :=
 ∀ (pins : List (Addr × Obj)) (s : Shared) (σ : St) (H : Hp) (v : V) (u : Value) (Q : St -> Hp -> Prop), Inv X pins σ H s -> RelV v u -> t v σ H Q ->
   wpAny (model X.prog X.w) X.A (assign target X.env u) (fun _ s' => ∃ σ' H', Inv X pins σ' H' s' /\ Q σ' H') X.xe s
def PGs (X : Cx) (ts : List Expr) (t : TGs) : Prop :=
 ∀ (pins : List (Addr × Obj)) (s : Shared) (σ : St) (H : Hp) (vs : List V) (us : List Value) (Q : St -> Hp -> Prop), Inv X pins σ H s -> Vals vs us -> t vs σ H Q ->
   wpAny (model X.prog X.w) X.A (assignInOrder ((assignEach ts X.env).map (·.2)) us) (fun _ s' => ∃ σ' H', Inv X pins σ' H' s' /\ Q σ' H') X.xe s
abbrev TSet := V -> V -> V -> Hp -> (Hp -> Prop) -> Prop
def PSet (X : Cx) (t : TSet) : Prop :=
 ∀ (pins : List (Addr × Obj)) (s : Shared) (σ : St) (H : Hp) (o i v : V) (ov iv u : Value) (Q : Hp -> Prop), Inv X pins σ H s -> RelV o ov -> RelV i iv -> RelV v u -> t o i v H Q ->
   wpAny (model X.prog X.w) X.A (setItem ov iv u) (fun _ s' => ∃ H', Inv X pins σ H' s' /\ Q H') X.xe s
section
variable {X : Cx} {pos : Pos}
def gName (i : Nat) : TG := fun v σ H Q => Q (σ.set i (some v)) H
theorem pg_name {i : Nat} {x : Str} (hN : X.N.Nodup) (hi : X.N[i]? = some x) (hx : Loc X.env.scope x) (hf : X.fn x = true \/ X.env.scope.names.lookup x = some .local := by first | exact .inl rfl | exact .inr rfl | assumption) : PG X (.Name x pos) (gName i) := by
 intro pins s σ H v u Q I r h
 exact wpAny_assign_Name (store_ok I hN hi hx r (fun s' I' => ⟨_, H, I', h⟩) hf)
def gNil : TGs := fun vs σ H Q => vs = [] /\ Q σ H
def gCons (t : TG) (u : TGs) : TGs := fun vs σ H Q => ∃ v r, vs = v :: r /\ t v σ H fun σ' H' => u r σ' H' Q
theorem pgs_nil : PGs X [] gNil := by
 intro pins s σ H vs us Q I r h
 obtain ⟨e, h⟩ := h
 subst e
 cases r
 exact assignInOrder_nil ⟨σ, H, I, h⟩
theorem pgs_cons {e : Expr} {es : List Expr} {t : TG} {u : TGs} (h1 : PG X e t) (h2 : PGs X es u)
 (hs : (assignEach (e :: es) X.env).map (·.2) = assign e X.env :: (assignEach es X.env).map (·.2) := by rfl) : PGs X (e :: es) (gCons t u) := by
 intro pins s σ H vs us Q I r h
 obtain ⟨v, vr, e1, h⟩ := h
 subst e1
 cases r with
 | cons r rr =>
   rw [hs]
   refine assignInOrder_cons (thn (h1 pins s σ H _ _ _ I r h) fun _ s1 ⟨σ1, H1, I1, q1⟩ => ?_)
   exact h2 pins s1 σ1 H1 _ _ Q I1 rr q1
def gTup (K : W.Frag) (n : Nat) (t : TGs) : TG := fun v σ H Q => ∃ a xs, v = .ref a /\ SqT K H a xs /\ xs.length = n /\ t xs σ H Q
theorem pg_tup {es : List Expr} {k : Nat} {t : TGs} {n : Nat} (hc : X.calm = true) (h : PGs X es t)
 (hn : (assignEach es X.env).length = n := by rfl) (hst : (assignEach es X.env).findIdx? (·.1) = none := by rfl) : PG X (.Tuple es k pos) (gTup X.K n t) := by
 intro pins s σ H v u Q I r hw
 obtain ⟨a, xs, e1, hq, hl, hw⟩ := hw
 subst e1
 cases r
 obtain ⟨its, rv, ht, hz⟩ := I.tuple hq
 refine assign_Tuple_tuple (I.ok.hd hc) ht (by simp [hn, <- hl, rv.length]) hst fun h' hx => ?_
 have I1 : Inv X pins σ H { s with heap := h' } := I.kept (t' := s.toks) fun b o e => hx b o (Nat.ne_of_lt (Heap.lt_size e)) e
 exact h pins _ σ H xs _ Q I1 (by simpa using rv) hw
def gSub (to ti : TE) (t : TSet) : TG := fun v σ H Q => to σ H fun o H1 => ti σ H1 fun i H2 => t o i v H2 fun H3 => Q σ H3
theorem pg_sub {o i : Expr} {to ti : TE} {t : TSet} (ho : PE X o to) (hi : PE X i ti) (hs : PSet X t)
 (ha : ∀ v, assign (.Subscript o i pos) X.env v = (do
  let ov <- holding [v] (eval o X.env)
  let iv <- holding [v, ov] (eval i X.env)
  standAt pos
  holding [v, ov, iv] (setItem ov iv v)
  release [v, ov, iv] []) := by intro _; rfl) : PG X (.Subscript o i pos) (gSub to ti t) := by
 intro pins s σ H v u Q I r h
 rw [ha]
 refine wpAny_bind (wpAny_holding (thn (ho pins s σ H _ I h) fun ov s1 ⟨x, H1, I1, r1, q1⟩ => ?_))
 refine wpAny_bind (wpAny_holding (thn (hi pins s1 σ H1 _ I1 q1) fun iv s2 ⟨y, H2, I2, r2, q2⟩ => ?_))
 refine wpAny_bind (wpAny_standAt (wpAny_bind (wpAny_holding (thn (hs pins s2 σ H2 x y v ov iv u _ I2 r1 r2 r q2) fun _ s3 ⟨H3, I3, q3⟩ => ?_))))
 exact wpAny_release ⟨σ, H3, I3, q3⟩
def tAsg (te : TE) (g : TG) : TS := fun D σ H => te σ H fun x H1 => g x σ H1 D.nx
theorem ps_asg {tg e : Expr} {te : TE} {g : TG} (he : PE X e te) (hg : PG X tg g) (hs : swapsWithSole [tg] e pos.line X.env = pure false := by rfl) (hw : swappedStores [tg] e X.env = pure none := by rfl)
 (h1 : (assignEach [tg] X.env).map (·.2) = [assign tg X.env] := by rfl) : PS X (.Assign [tg] e pos) (tAsg te g) := by
 intro pins s σ H D I h
 refine wpAny_Assign_stores (thn (he pins s σ H _ I h) fun v s1 ⟨x, H1, I1, r1, q1⟩ => ?_) hs hw
 rw [h1]
 exact thn (hg pins s1 σ H1 x v _ I1 r1 q1) fun _ s2 q => q
theorem ps_set {i : Nat} {x : Str} {e : Expr} {te : TE} {pos' : Pos} (hN : X.N.Nodup) (hi : X.N[i]? = some x) (hx : Loc X.env.scope x) (he : PE X e te) (hs : swapsWith e (some (.Name x pos')) pos.line X.env = pure false := by rfl) (hf : X.fn x = true \/ X.env.scope.names.lookup x = some .local := by first | exact .inl rfl | exact .inr rfl | assumption) :
 PS X (.Assign [.Name x pos'] e pos) (tAsg te (gName i)) := by
 intro pins s σ H D I h
 refine wpAny_Assign_Name (thn (he pins s σ H _ I h) fun v s1 ⟨y, H1, I1, r1, q1⟩ => ?_) hs
 exact store_ok I1 hN hi hx r1 (fun s2 I2 => ⟨_, H1, I2, q1⟩) hf
end
section
variable {X : Cx} {pos : Pos}
def tWhile (c : TT) (tb : TS) : TS := fun D σ H => ∃ W : Nat -> St -> Hp -> Prop, (∃ m, W m σ H) /\ ∀ m σ H, W m σ H ->
 c σ H fun b H1 => if b = true then ∃ N : St -> Hp -> Prop, (∀ σ' H', N σ' H' -> ∃ m', m' < m /\ W m' σ' H') /\ tb { D with nx := N, ct := N, bk := D.nx } σ H1 else D.nx σ H1
theorem ps_while {c : Expr} {body : List Stmt} {tc : TT} {tb : TS} (hp : PassesOwn (model X.prog X.w) X.A X.env X.xe) (hc : PT X c tc) (hb : PSs X body tb) : PS X (.While c body [] pos) (tWhile tc tb) := by
 intro pins s σ H D I h
 obtain ⟨W, ⟨m0, w0⟩, turn⟩ := h
 refine wpAny_While (codeAny_whileLoop (fun n s' => ∃ σ' H', Inv X pins σ' H' s' /\ W n σ' H') ?_ m0 ⟨σ, H, I, w0⟩)
 rintro n s1 ⟨σ1, H1, I1, w1⟩
 refine wpAny_passesOwn hp (thn (hc pins s1 σ1 H1 _ I1 (turn n σ1 H1 w1)) fun b s2 ⟨H2, I2, q2⟩ => ?_)
 cases b with
 | true =>
   obtain ⟨N, hN, q2⟩ := q2
   rw [if_pos rfl]
   refine wpAny_passesOwn hp (thn (hb pins s2 σ1 H2 _ I2 q2) fun f s3 q3 => ?_)
   cases f with
   | next =>
     obtain ⟨σ3, H3, I3, n3⟩ := q3
     obtain ⟨m', hm, w3⟩ := hN σ3 H3 n3
     exact ⟨m', hm, σ3, H3, I3, w3⟩
   | cont =>
     obtain ⟨σ3, H3, I3, n3⟩ := q3
     obtain ⟨m', hm, w3⟩ := hN σ3 H3 n3
     exact ⟨m', hm, σ3, H3, I3, w3⟩
   | brk => exact q3
   | ret v => exact q3
 | false =>
   rw [if_neg Bool.false_ne_true]
   exact wpAny_execs_nil ⟨σ1, H2, I2, q2⟩
end
structure It where
 go : Nat -> Hp -> Prop
 yld : Nat -> Hp -> V -> Hp -> Prop
 stop : Nat -> Hp -> Prop
def FpOk (X : Cx) (pins : List (Addr × Obj)) (H : Hp) (b : Addr) : Prop :=
 H b = none /\ b ≠ X.env.locals /\ b ∉ X.fs /\ (b ∈ X.ex \/ X.s₀.heap.objs.size <= b) /\ (∀ x c, X.env.cells.lookup x = some c -> c ≠ b) /\ ∀ p ∈ X.pn ++ pins, p.1 ≠ b
theorem Inv.fpOk {X : Cx} {pins : List (Addr × Obj)} {σ : St} {H H' : Hp} {s : Shared} {b : Addr} (I : Inv X pins σ H s) (hb : s.heap.objs.size <= b) (hn : H' b = none) : FpOk X pins H' b := by
 refine ⟨hn, Nat.ne_of_gt (Nat.lt_of_lt_of_le I.lt hb), I.nofs hb, .inr (Nat.le_trans I.sz hb), fun x c e z => ?_, fun p hp z => ?_⟩
 . obtain ⟨v, q⟩ := I.cell x c e
   exact absurd (Nat.lt_of_lt_of_le q.lt (by rw [z]; exact hb)) (Nat.lt_irrefl _)
 . exact absurd (Nat.lt_of_lt_of_le (Heap.lt_size (I.pin p hp).1) (by rw [z]; exact hb)) (Nat.lt_irrefl _)
structure Turn (P : Program) (w : World) (K : W.Frag) (tg : Expr) (J : It) (fp : List Addr) (it : Addr) (tn : Nat -> Heap -> Prop) : Prop where
 mem : it ∈ fp
 obj : ∀ i h, tn i h -> ∀ b ∈ fp, ∃ o, h.get? b = some o /\ ∀ v, o.data ≠ .cell v
 keep : ∀ i h h', tn i h -> (∀ b ∈ fp, ∀ o, h.get? b = some o -> h'.get? b = some o) -> tn i h'
 item : ∀ (X : Cx), X.prog = P -> X.w = w -> X.K = K -> X.calm = true -> ∀ (i : Nat) (pins : List (Addr × Obj)) (s : Shared) (σ : St) (H : Hp) (E : Value -> Shared -> Prop), Inv X pins σ H s -> (∀ b ∈ fp, FpOk X pins H b) -> tn i s.heap -> J.go i H ->
  wpAny (model P w) X.A (pyNext (.ref it)) (fun r s1 => ∃ u, r = some u /\
   wpAny (model P w) X.A (letOwnedTupleGo tg (.ref it) u) (fun _ s2 => ∃ x H', Inv X pins σ H' s2 /\ RelV x u /\ J.yld i H x H' /\ tn (i + 1) s2.heap /\ ∀ b ∈ fp, H' b = none) E s1) E s
 done : ∀ (X : Cx), X.prog = P -> X.w = w -> X.K = K -> X.calm = true -> ∀ (i : Nat) (pins : List (Addr × Obj)) (s : Shared) (σ : St) (H : Hp) (E : Value -> Shared -> Prop), Inv X pins σ H s -> (∀ b ∈ fp, FpOk X pins H b) -> tn i s.heap -> J.stop i H ->
  wpAny (model P w) X.A (pyNext (.ref it)) (fun r s1 => r = none /\ Inv X pins σ H s1) E s
 self : ∀ (A : Around) (i : Nat) (s : Shared) (Q : Value -> Shared -> Prop) (E : Value -> Shared -> Prop), tn i s.heap -> Q (.ref it) s -> wpAny (model P w) A (pyIter (.ref it)) Q E s
abbrev TI := St -> Hp -> (It -> Hp -> Prop) -> Prop
def PIE (X : Cx) (pins : List (Addr × Obj)) (σ : St) (tg : Expr) (R : It -> Hp -> Prop) (itv : Value) (s2 : Shared) : Prop :=
 ∃ (it : Addr) (fp : List Addr) (tn : Nat -> Heap -> Prop) (J : It) (H' : Hp), itv = .ref it /\ Inv X pins σ H' s2 /\ Turn X.prog X.w X.K tg J fp it tn /\ tn 0 s2.heap /\ (∀ b ∈ fp, FpOk X pins H' b) /\ R J H'
def PI (X : Cx) (tg iter : Expr) (wi : TI) : Prop :=
 ∀ (pins : List (Addr × Obj)) (s : Shared) (σ : St) (H : Hp) (R : It -> Hp -> Prop), Inv X pins σ H s -> wi σ H R ->
   wpAny (model X.prog X.w) X.A (eval iter X.env) (fun v s1 => wpAny (model X.prog X.w) X.A (pyIter v) (PIE X pins σ tg R) X.xe s1) X.xe s
theorem go_of {M : Model} {A : Around} {E : Value -> Shared -> Prop} {s : Shared} {tg : Expr} {it : Addr} {u : Value} {o : Obj} {n : String} {vs : Array Value} {Q : Unit -> Shared -> Prop} (ho : s.heap.get? it = some o) (hc : o.cls = .type n) (hd : o.data = .fields vs)
 (hn : ["enumerate", "zip", "dict_itemiterator", "dict_reverseitemiterator", "odict_iterator", "itertools.zip_longest", "itertools.pairwise"].contains n = false) (hQ : Q () s) : wpAny M A (letOwnedTupleGo tg (.ref it) u) Q E s := by
 unfold letOwnedTupleGo
 cases tg <;> first
  | exact wpAny_pure hQ
  | (cases u <;> first
   | exact wpAny_pure hQ
   | (refine wpAny_bind (wpAny_load ho ?_)
      rw [hc, hd]
      show wpAny M A (if (["enumerate", "zip", "dict_itemiterator", "dict_reverseitemiterator", "odict_iterator", "itertools.zip_longest", "itertools.pairwise"].contains n && vs[0]? == some (rawInt _)) = true then _ else _) Q E s
      rw [if_neg (by intro h; rw [hn, Bool.false_and] at h; cases h)]
      exact wpAny_pure hQ))
def Itl (K : W.Frag) (a : Addr) : It :=
 ⟨fun i H => ∃ xs x, SqL K H a xs /\ xs[i]? = some x, fun i H x H' => H' = H /\ ∀ xs, SqL K H a xs -> xs[i]? = some x, fun i H => ∃ xs, SqL K H a xs /\ xs.length <= i⟩
def Itt (K : W.Frag) (a : Addr) : It :=
 ⟨fun i H => ∃ xs x, SqT K H a xs /\ xs[i]? = some x, fun i H x H' => H' = H /\ ∀ xs, SqT K H a xs -> xs[i]? = some x, fun i H => ∃ xs, SqT K H a xs /\ xs.length <= i⟩
def Itr (lo : Int) (n : Nat) : It := ⟨fun i _ => i < n, fun i H x H' => H' = H /\ x = .int (lo + i), fun i _ => n <= i⟩
theorem turn_list {P : Program} {w : World} {K : W.Frag} {tg : Expr} (a it : Addr) : Turn P w K tg (Itl K a) [it] it (fun i h => h.IsListIter it a i) where
 mem := by simp
 obj := fun i h st b hb => by
  have e : b = it := by simpa using hb
  subst e
  obtain ⟨o, e, c, d⟩ := st
  exact ⟨o, e, fun v z => by rw [d] at z; cases z⟩
 keep := fun i h h' st k => st.at fun o e => k it (by simp) o e
 item := by
  intro X hP hw hK hc i pins s σ H E I hf st hg
  subst hP hw hK
  obtain ⟨xs, x, hq, hx⟩ := hg
  obtain ⟨its, rv, p, hz⟩ := I.list hq
  obtain ⟨u, hu, ru⟩ := rv.get hx
  obtain ⟨f0, f1, f2, f3, f4, f5⟩ := hf it (by simp)
  refine wpAny_pyNext_list_item st p.isList (x := u) (by simpa using hu) fun h' st' sb => ?_
  have I1 : Inv X pins σ H { s with heap := h' } := I.turned (t' := s.toks) (fun b o hb e => (sb.2 b hb).trans e) f0 f1 f3 f4 f5
  obtain ⟨o, e, c, d⟩ := id st'
  exact ⟨u, rfl, go_of (s := { s with heap := h' }) e c d (by decide) ⟨x, H, I1, ru, ⟨rfl, fun ys hy => by rw [I.list_inj hy hq]; exact hx⟩, st', fun b hb => (hf b hb).1⟩⟩
 done := by
  intro X hP hw hK hc i pins s σ H E I hf st hg
  subst hP hw hK
  obtain ⟨xs, hq, hx⟩ := hg
  obtain ⟨its, rv, p, hz⟩ := I.list hq
  obtain ⟨f0, f1, f2, f3, f4, f5⟩ := hf it (by simp)
  have hl := rv.length
  exact wpAny_pyNext_list_end (I.ok.hd hc) st p.isList (by simp; omega) fun h' eb => ⟨rfl, I.turned (t' := s.toks) (fun b o hb e => eb b o hb e) f0 f1 f3 f4 f5⟩
 self := fun _ _ _ _ _ st h => wpAny_pyIter_listiter st h
theorem turn_tuple {P : Program} {w : World} {K : W.Frag} {tg : Expr} (a it : Addr) : Turn P w K tg (Itt K a) [it] it (fun i h => h.IsTupleIter it a i) where
 mem := by simp
 obj := fun i h st b hb => by
  have e : b = it := by simpa using hb
  subst e
  obtain ⟨o, e, c, d⟩ := st
  exact ⟨o, e, fun v z => by rw [d] at z; cases z⟩
 keep := fun i h h' st k => st.at fun o e => k it (by simp) o e
 item := by
  intro X hP hw hK hc i pins s σ H E I hf st hg
  subst hP hw hK
  obtain ⟨xs, x, hq, hx⟩ := hg
  obtain ⟨its, rv, p, hz⟩ := I.tuple hq
  obtain ⟨u, hu, ru⟩ := rv.get hx
  obtain ⟨f0, f1, f2, f3, f4, f5⟩ := hf it (by simp)
  refine wpAny_pyNext_tuple_item st (show s.heap.IsTuple a its.toArray from p) (x := u) (by simpa using hu) fun h' st' sb => ?_
  have I1 : Inv X pins σ H { s with heap := h' } := I.turned (t' := s.toks) (fun b o hb e => (sb.2 b hb).trans e) f0 f1 f3 f4 f5
  obtain ⟨o, e, c, d⟩ := id st'
  exact ⟨u, rfl, go_of (s := { s with heap := h' }) e c d (by decide) ⟨x, H, I1, ru, ⟨rfl, fun ys hy => by rw [I.tuple_inj hy hq]; exact hx⟩, st', fun b hb => (hf b hb).1⟩⟩
 done := by
  intro X hP hw hK hc i pins s σ H E I hf st hg
  subst hP hw hK
  obtain ⟨xs, hq, hx⟩ := hg
  obtain ⟨its, rv, p, hz⟩ := I.tuple hq
  obtain ⟨f0, f1, f2, f3, f4, f5⟩ := hf it (by simp)
  have hl := rv.length
  exact wpAny_pyNext_tuple_end (I.ok.hd hc) st (show s.heap.IsTuple a its.toArray from p) (by simp; omega) fun h' eb => ⟨rfl, I.turned (t' := s.toks) (fun b o hb e => eb b o hb e) f0 f1 f3 f4 f5⟩
 self := fun _ _ _ _ _ st h => wpAny_pyIter_tupleiter st h
theorem turn_range {P : Program} {w : World} {K : W.Frag} {tg : Expr} (it : Addr) (lo : Int) (n : Nat) : Turn P w K tg (Itr lo n) [it] it (fun i h => IsRangeIter h it (lo + (i : Nat) * 1) ((n : Int) - (i : Nat)) 1) where
 mem := by simp
 obj := fun i h st b hb => by
  have e : b = it := by simpa using hb
  subst e
  exact ⟨_, st, fun v z => by
   have z' : Data.fields _ = Data.cell v := z
   cases z'⟩
 keep := fun i h h' st k => k it (by simp) _ st
 item := by
  intro X hP hw hK hc i pins s σ H E I hf st hg
  subst hP hw hK
  obtain ⟨f0, f1, f2, f3, f4, f5⟩ := hf it (by simp)
  have W := Walks.range (prog := X.prog) (w := X.w) (I.ok.hd hc) it lo 1 n
  refine W.item i s _ _ hg st fun v h' tk hv st' kk => ?_
  obtain ⟨t, rfl⟩ := hv
  have I1 : Inv X pins σ H { s with heap := h', toks := tk } := I.turned (fun b o hb e => kk b o (by simpa using hb) e) f0 f1 f3 f4 f5
  refine ⟨_, rfl, go_of (s := { s with heap := h', toks := tk }) (n := "range_iterator") st' rfl rfl (by decide) ⟨.int (lo + i), H, I1, ⟨t, ?_⟩, ⟨rfl, rfl⟩, st', fun b hb => (hf b hb).1⟩⟩
  rw [Int.mul_one]
 done := by
  intro X hP hw hK hc i pins s σ H E I hf st hg
  subst hP hw hK
  obtain ⟨f0, f1, f2, f3, f4, f5⟩ := hf it (by simp)
  exact wpAny_pyNext_range_end (I.ok.hd hc) st (by have : n <= i := hg; omega) fun h' eb => ⟨rfl, I.turned (t' := s.toks) (fun b o hb e => eb b o hb e) f0 f1 f3 f4 f5⟩
 self := fun _ _ _ _ _ st h => wpAny_pyIter_rangeiter st h
end L2
namespace L2
open PySem PySem.Spec PyProof.Rows
section
variable {X : Cx} {tg : Expr}
def iList (K : W.Frag) (tl : TE) : TI := fun σ H R => tl σ H fun x H1 => ∃ a, x = .ref a /\ (∃ xs, SqL K H1 a xs) /\ R (Itl K a) H1
def iTup (K : W.Frag) (tl : TE) : TI := fun σ H R => tl σ H fun x H1 => ∃ a, x = .ref a /\ (∃ xs, SqT K H1 a xs) /\ R (Itt K a) H1
theorem pi_list {l : Expr} {tl : TE} (hl : PE X l tl) : PI X tg l (iList X.K tl) := by
 intro pins s σ H R I h
 refine thn (hl pins s σ H _ I h) fun v s1 ⟨x, H1, I1, r1, q1⟩ => ?_
 obtain ⟨a, e, ⟨xs, hq⟩, q⟩ := q1
 subst e
 cases r1
 obtain ⟨its, rv, p, hz⟩ := I1.list hq
 refine wpAny_pyIter_list p.isList ?_
 refine ⟨s1.heap.objs.size, [s1.heap.objs.size], _, _, H1, rfl, I1.kept (t' := s1.toks) fun b o e => Heap.get?_push_of_some _ e, turn_list a _, ⟨_, Heap.get?_push_size _ rfl, rfl, rfl⟩, fun b hb => ?_, q⟩
 have e : b = s1.heap.objs.size := by simpa using hb
 subst e
 exact I1.fpOk (Nat.le_refl _) (I1.hok.fresh (Nat.le_refl _))
theorem pi_tup {l : Expr} {tl : TE} (hl : PE X l tl) : PI X tg l (iTup X.K tl) := by
 intro pins s σ H R I h
 refine thn (hl pins s σ H _ I h) fun v s1 ⟨x, H1, I1, r1, q1⟩ => ?_
 obtain ⟨a, e, ⟨xs, hq⟩, q⟩ := q1
 subst e
 cases r1
 obtain ⟨its, rv, p, hz⟩ := I1.tuple hq
 refine wpAny_pyIter_tuple (show s1.heap.IsTuple a its.toArray from p) ?_
 refine ⟨s1.heap.objs.size, [s1.heap.objs.size], _, _, H1, rfl, I1.kept (t' := s1.toks) fun b o e => Heap.get?_push_of_some _ e, turn_tuple a _, ⟨_, Heap.get?_push_size _ rfl, rfl, rfl⟩, fun b hb => ?_, q⟩
 have e : b = s1.heap.objs.size := by simpa using hb
 subst e
 exact I1.fpOk (Nat.le_refl _) (I1.hok.fresh (Nat.le_refl _))
theorem range_it {pins : List (Addr × Obj)} {σ : St} {H : Hp} {s : Shared} {R : It -> Hp -> Prop} {E : Value -> Shared -> Prop} {lo hi : Int} {t u v : Tok} {tk : Nat} (I : Inv X pins σ H s) (h1 : -(2 ^ 62) <= lo) (h2 : lo < 2 ^ 62) (h3 : -(2 ^ 62) <= hi) (h4 : hi < 2 ^ 62)
 (q : R (Itr lo (hi - lo).toNat) H) : wpAny (model X.prog X.w) X.A (pyIter (.ref s.heap.objs.size)) (PIE X pins σ tg R) E { s with heap := s.heap.push { cls := .type "range", data := .fields #[.int lo t, .int hi u, .int 1 v] }, toks := tk } := by
 refine wpAny_pyIter_range (IsRange.new ..) (small_one h1 h2 h3 h4) ?_
 have I1 : Inv X pins σ H { s with heap := s.heap.push { cls := .type "range", data := .fields #[.int lo t, .int hi u, .int 1 v] }, toks := tk } := I.kept fun b o e => Heap.get?_push_of_some _ e
 refine ⟨(s.heap.push { cls := .type "range", data := .fields #[.int lo t, .int hi u, .int 1 v] }).objs.size, [(s.heap.push { cls := .type "range", data := .fields #[.int lo t, .int hi u, .int 1 v] }).objs.size], _, _, H, rfl,
  I1.kept (t' := tk) fun b o e => Heap.get?_push_of_some _ e, turn_range _ lo (hi - lo).toNat, ?_, fun b hb => ?_, q⟩
 . have e1 : lo + ((0 : Nat) : Int) * 1 = lo := by simp
   have e2 : (((hi - lo).toNat : Nat) : Int) - ((0 : Nat) : Int) = Builtin.Range.rangeSize lo hi 1 := by rw [rangeSize_one]; split <;> omega
   show IsRangeIter _ _ (lo + ((0 : Nat) : Int) * 1) ((((hi - lo).toNat : Nat) : Int) - ((0 : Nat) : Int)) 1
   rw [e1, e2]
   exact Heap.get?_push_size _ rfl
 . have e : b = (s.heap.push { cls := .type "range", data := .fields #[.int lo t, .int hi u, .int 1 v] }).objs.size := by simpa using hb
   subst e
   exact I1.fpOk (Nat.le_refl _) (I1.hok.fresh (Nat.le_refl _))
def iRng1 (ta : TA) : TI := fun σ H R => ta σ H fun vs H1 => ∃ j : Int, vs = [.int j] /\ -(2 ^ 62) <= j /\ j < 2 ^ 62 /\ R (Itr 0 j.toNat) H1
theorem pi_range1 {a : Expr} {ta : TA} {p pos : Pos} (hg : Gl X "range") (hm : X.mg "range" = none) (ha : PA X [a] ta) (hs : starEach [a] X.env = [(false, eval a X.env)] := by rfl) : PI X tg (.Call (.Name "range" p) [a] [] pos) (iRng1 ta) := by
 intro pins s σ H R I h
 refine Call_ (ld_blt I hg hm boot_range (PyProof.Rows.callWith_type1 (thn (ha pos pins s σ H _ I h) fun us s1 ⟨vs, H1, I1, r1, q1⟩ => ?_) hs rfl))
 obtain ⟨j, e, q1, q2, q⟩ := q1
 subst e
 cases r1 with
 | cons r rr =>
   cases rr
   obtain ⟨t, rfl⟩ := r
   exact call_range_1 (range_it I1 (by omega) (by omega) q1 q2 (by simpa using q))
def tFor (wi : TI) (g : TG) (tb : TS) : TS := fun D σ H => wi σ H fun J H1 => ∃ W : Nat -> Nat -> St -> Hp -> Prop, (∃ m, W 0 m σ H1) /\ ∀ i m σ H, W i m σ H ->
 (J.stop i H /\ D.nx σ H) \/ (J.go i H /\ ∃ N : St -> Hp -> Prop, (∀ σ' H', N σ' H' -> ∃ m', m' < m /\ W (i + 1) m' σ' H') /\ ∀ x H', J.yld i H x H' -> g x σ H' fun σ2 H2 => tb { D with nx := N, ct := N, bk := D.nx } σ2 H2)
def pinsAt (fp : List Addr) (h : Heap) : List (Addr × Obj) := fp.filterMap fun b => (h.get? b).map fun o => (b, o)
theorem mem_pinsAt {fp : List Addr} {h : Heap} {b : Addr} {o : Obj} (hb : b ∈ fp) (e : h.get? b = some o) : (b, o) ∈ pinsAt fp h := List.mem_filterMap.mpr ⟨b, hb, by rw [e]; rfl⟩
theorem of_pinsAt {fp : List Addr} {h : Heap} {p : Addr × Obj} (hp : p ∈ pinsAt fp h) : p.1 ∈ fp /\ h.get? p.1 = some p.2 := by
 obtain ⟨b, hb, e⟩ := List.mem_filterMap.mp hp
 cases q : h.get? b with
 | none => rw [q] at e; cases e
 | some o =>
   rw [q] at e
   have e' : (b, o) = p := Option.some.inj e
   subst e'
   exact ⟨hb, q⟩
theorem Inv.pinned {pins : List (Addr × Obj)} {σ : St} {H : Hp} {s : Shared} {fp : List Addr} (I : Inv X pins σ H s) (hf : ∀ b ∈ fp, FpOk X pins H b) (ho : ∀ b ∈ fp, ∃ o, s.heap.get? b = some o /\ ∀ v, o.data ≠ .cell v) : Inv X (pins ++ pinsAt fp s.heap) σ H s :=
 I.pins_of fun p hp => (List.mem_append.mp hp).elim (fun z => I.pin p (List.mem_append_right _ z)) fun z => by
  obtain ⟨hb, e⟩ := of_pinsAt z
  obtain ⟨f0, f1, f2, _⟩ := hf p.1 hb
  obtain ⟨o, e', d⟩ := ho p.1 hb
  rw [e] at e'; cases e'
  exact ⟨e, f0, f1, f2, d⟩
theorem Inv.unpinned {pins pl : List (Addr × Obj)} {σ : St} {H : Hp} {s : Shared} (I : Inv X (pins ++ pl) σ H s) : Inv X pins σ H s := I.pins_of fun p hp => I.pin p (List.mem_append_right _ (List.mem_append_left _ hp))
theorem ps_for {iter : Expr} {body : List Stmt} {wi : TI} {g : TG} {tb : TS} {pos : Pos} (hp : PassesOwn (model X.prog X.w) X.A X.env X.xe) (hc : X.calm = true) (hi : PI X tg iter wi) (hg : PG X tg g) (hb : PSs X body tb)
 (hs : ∀ x, foldedSetIterable iter X.env x = pure x := by intro _; rfl) : PS X (.For tg iter body [] pos) (tFor wi g tb) := by
 intro pins s σ H D I h
 refine wpAny_For (thn (hi pins s σ H _ I h) fun v s1 h1 => thn h1 fun itv s2 h2 => ?_) hs
 obtain ⟨it, fp, tn, J, H2, e, I2, T, st2, f2, W, ⟨m0, w0⟩, turn⟩ := h2
 subst e
 have stat : ∀ {H' : Hp}, (∀ b ∈ fp, H' b = none) -> ∀ b ∈ fp, FpOk X pins H' b := fun hn b hb => ⟨hn b hb, (f2 b hb).2⟩
 refine codeAny_forLoop_any (fun n s' => ∃ i σ' H', Inv X pins σ' H' s' /\ tn i s'.heap /\ (∀ b ∈ fp, H' b = none) /\ W i n σ' H') ?_ m0 ⟨0, σ, H2, I2, st2, fun b hb => (f2 b hb).1, w0⟩
 rintro n s3 ⟨i, σ3, H3, I3, st3, fr3, w3⟩
 rcases turn i n σ3 H3 w3 with ⟨stop, qn⟩ | ⟨go, N, hN, step⟩
 . refine wpAny_passesOwn hp (thn (T.done X rfl rfl rfl hc i pins s3 σ3 H3 X.xe I3 (stat fr3) st3 stop) fun r s4 ⟨hr, I4⟩ => ?_)
   subst hr
   exact wpAny_execs_nil ⟨σ3, H3, I4, qn⟩
 . refine wpAny_passesOwn hp (thn (T.item X rfl rfl rfl hc i pins s3 σ3 H3 X.xe I3 (stat fr3) st3 go) fun r s4 ⟨u, hr, h4⟩ => ?_)
   subst hr
   refine wpAny_passesOwn hp (thn h4 fun _ s5 ⟨x, H5, I5, r5, y5, st5, fr5⟩ => ?_)
   have I5' := I5.pinned (stat fr5) (T.obj _ _ st5)
   refine wpAny_passesOwn hp (thn (hg _ s5 σ3 H5 x u _ I5' r5 (step x H5 y5)) fun _ s6 ⟨σ6, H6, I6, q6⟩ => ?_)
   refine wpAny_passesOwn hp (thn (hb _ s6 σ6 H6 _ I6 q6) fun f s7 q7 => ?_)
   have again : ∀ {σ7 : St} {H7 : Hp}, Inv X (pins ++ pinsAt fp s5.heap) σ7 H7 s7 -> N σ7 H7 -> ∃ m, m < n /\ ∃ i σ' H', Inv X pins σ' H' s7 /\ tn i s7.heap /\ (∀ b ∈ fp, H' b = none) /\ W i m σ' H' := fun {σ7 H7} I7 n7 => by
    obtain ⟨m', hm, w7⟩ := hN σ7 H7 n7
    refine ⟨m', hm, i + 1, σ7, H7, I7.unpinned, T.keep _ _ _ st5 fun b hb o e => (I7.pin (b, o) (List.mem_append_right _ (List.mem_append_right _ (mem_pinsAt hb e)))).1, fun b hb => ?_, w7⟩
    obtain ⟨o, e, d⟩ := T.obj _ _ st5 b hb
    exact (I7.pin (b, o) (List.mem_append_right _ (List.mem_append_right _ (mem_pinsAt hb e)))).2.1
   cases f with
   | next => obtain ⟨σ7, H7, I7, n7⟩ := q7; exact again I7 n7
   | cont => obtain ⟨σ7, H7, I7, n7⟩ := q7; exact again I7 n7
   | brk => obtain ⟨σ7, H7, I7, q7⟩ := q7; exact ⟨σ7, H7, I7.unpinned, q7⟩
   | ret v => obtain ⟨x7, σ7, H7, I7, r7, q7⟩ := q7; exact ⟨x7, σ7, H7, I7.unpinned, r7, q7⟩
end
theorem for_list {K : W.Frag} {a : Addr} {xs : List V} {g : TG} {tb : TS} {D : Ends} {σ : St} {H : Hp} (Pv : Nat -> St -> Hp -> Prop) (h0 : Pv 0 σ H) (hl : ∀ i σ H, i <= xs.length -> Pv i σ H -> SqL K H a xs)
 (hs : ∀ i x σ H, xs[i]? = some x -> Pv i σ H -> g x σ H fun σ2 H2 => tb { D with nx := Pv (i + 1), ct := Pv (i + 1), bk := D.nx } σ2 H2) (hd : ∀ σ H, Pv xs.length σ H -> D.nx σ H) :
 ∃ W : Nat -> Nat -> St -> Hp -> Prop, (∃ m, W 0 m σ H) /\ ∀ i m σ H, W i m σ H ->
   ((Itl K a).stop i H /\ D.nx σ H) \/ ((Itl K a).go i H /\ ∃ N : St -> Hp -> Prop, (∀ σ' H', N σ' H' -> ∃ m', m' < m /\ W (i + 1) m' σ' H') /\ ∀ x H', (Itl K a).yld i H x H' -> g x σ H' fun σ2 H2 => tb { D with nx := N, ct := N, bk := D.nx } σ2 H2) := by
 refine ⟨fun i m σ H => m = xs.length - i /\ i <= xs.length /\ Pv i σ H, ⟨xs.length, by simp, Nat.zero_le _, h0⟩, ?_⟩
 rintro i m σ H ⟨rfl, hi, p⟩
 have q := hl i σ H hi p
 by_cases hlt : i < xs.length
 . refine .inr ⟨⟨xs, xs[i], q, by simp [hlt]⟩, Pv (i + 1), fun σ' H' p' => ⟨xs.length - (i + 1), by omega, rfl, hlt, p'⟩, fun x H' y => ?_⟩
   obtain ⟨e, y⟩ := y
   subst e
   exact hs i x σ _ (y xs q) p
 . have e : i = xs.length := by omega
   subst e
   exact .inl ⟨⟨xs, q, Nat.le_refl _⟩, hd σ H p⟩
theorem for_range {lo : Int} {n : Nat} {g : TG} {tb : TS} {D : Ends} {σ : St} {H : Hp} (Pv : Nat -> St -> Hp -> Prop) (h0 : Pv 0 σ H)
 (hs : ∀ i σ H, i < n -> Pv i σ H -> g (.int (lo + i)) σ H fun σ2 H2 => tb { D with nx := Pv (i + 1), ct := Pv (i + 1), bk := D.nx } σ2 H2) (hd : ∀ σ H, Pv n σ H -> D.nx σ H) :
 ∃ W : Nat -> Nat -> St -> Hp -> Prop, (∃ m, W 0 m σ H) /\ ∀ i m σ H, W i m σ H ->
   ((Itr lo n).stop i H /\ D.nx σ H) \/ ((Itr lo n).go i H /\ ∃ N : St -> Hp -> Prop, (∀ σ' H', N σ' H' -> ∃ m', m' < m /\ W (i + 1) m' σ' H') /\ ∀ x H', (Itr lo n).yld i H x H' -> g x σ H' fun σ2 H2 => tb { D with nx := N, ct := N, bk := D.nx } σ2 H2) := by
 refine ⟨fun i m σ H => m = n - i /\ i <= n /\ Pv i σ H, ⟨n, by simp, Nat.zero_le _, h0⟩, ?_⟩
 rintro i m σ H ⟨rfl, hi, p⟩
 by_cases hlt : i < n
 . refine .inr ⟨hlt, Pv (i + 1), fun σ' H' p' => ⟨n - (i + 1), by omega, rfl, hlt, p'⟩, fun x H' y => ?_⟩
   obtain ⟨e, y⟩ := y
   subst e y
   exact hs i σ _ hlt p
 . have e : i = n := by omega
   subst e
   exact .inl ⟨Nat.le_refl _, hd σ H p⟩
end L2
namespace L2
open PySem PySem.Spec PyProof.Rows
abbrev R2 := V -> V -> Hp -> VK -> Prop
def OpR (X : Cx) (f : Value -> Value -> Sem Value) (r : R2) : Prop :=
 ∀ (pins : List (Addr × Obj)) (s : Shared) (σ : St) (H : Hp) (x y : V) (v u : Value) (Q : VK), Inv X pins σ H s -> RelV x v -> RelV y u -> r x y H Q ->
   wpAny (model X.prog X.w) X.A (f v u) (EP X pins σ Q) X.xe s
def CallR (X : Cx) (f : Value) (r : List V -> Hp -> VK -> Prop) : Prop :=
 ∀ (pins : List (Addr × Obj)) (s : Shared) (σ : St) (H : Hp) (xs : List V) (us : List Value) (Q : VK), Inv X pins σ H s -> Vals xs us -> r xs H Q ->
   wpAny (model X.prog X.w) X.A (call f us) (EP X pins σ Q) X.xe s
def tOp (r : R2) (ta tb : TE) : TE := fun σ H Q => ta σ H fun x H1 => tb σ H1 fun y H2 => r x y H2 Q
def rI (C : Int -> Int -> Prop) (g : Int -> Int -> V) : R2 := fun x y H Q => ∃ i j, x = .int i /\ y = .int j /\ C i j /\ Q (g i j) H
def rI0 (g : Int -> Int -> V) : R2 := fun x y H Q => ∃ i j, x = .int i /\ y = .int j /\ Q (g i j) H
section
variable {X : Cx} {a b c : Expr} {ta tb tc : TE} {pos : Pos}
theorem binT (ha : PE X a ta) (hb : PE X b tb) {pins : List (Addr × Obj)} {s : Shared} {σ : St} {H : Hp} {R : V -> V -> Hp -> Prop} (I : Inv X pins σ H s)
 (h : ta σ H fun x H1 => tb σ H1 fun y H2 => R x y H2) {Q : Value -> Shared -> Prop} {f : Value -> Value -> Sem Value}
 (hf : ∀ v u s2 x y H2, Inv X pins σ H2 s2 -> RelV x v -> RelV y u -> R x y H2 -> wpAny (model X.prog X.w) X.A (f v u) Q X.xe s2) :
 wpAny (model X.prog X.w) X.A (eval a X.env) (fun v s₁ => wpAny (model X.prog X.w) X.A (eval b X.env) (fun u s₂ => wpAny (model X.prog X.w) X.A (f v u) Q X.xe s₂) X.xe s₁) X.xe s := by
 refine thn (ha pins s σ H _ I h) fun v s1 ⟨x, H1, I1, r1, q1⟩ => ?_
 refine thn (hb pins s1 σ H1 _ I1 q1) fun u s2 ⟨y, H2, I2, r2, q2⟩ => ?_
 exact hf v u s2 x y H2 I2 r1 r2 q2
theorem pe_op {op : Operator} {r : R2} (ho : OpR X (binaryOp op) r) (ha : PE X a ta) (hb : PE X b tb) : PE X (.BinOp a op b pos) (tOp r ta tb) := by
 intro pins s σ H Q I h
 exact wpAny_BinOp (binT ha hb I h fun v u s2 x y H2 I2 rx ry q => ho pins s2 σ H2 x y v u Q I2 rx ry q)
theorem opI {f : Value -> Value -> Sem Value} {C : Int -> Int -> Prop} {g : Int -> Int -> Int}
 (rule : ∀ (i j : Int) (t u : Tok) (s : Shared) (Q : Value -> Shared -> Prop) (E : Value -> Shared -> Prop), C i j -> Q (.int (g i j) s.toks) { s with toks := s.toks + 1 } -> wpAny (model X.prog X.w) X.A (f (.int i t) (.int j u)) Q E s) :
 OpR X f (rI C fun i j => .int (g i j)) := by
 intro pins s σ H x y v u Q I rx ry h
 obtain ⟨i, j, rfl, rfl, hc, q⟩ := h
 obtain ⟨t, rfl⟩ := rx
 obtain ⟨t', rfl⟩ := ry
 exact rule i j t t' s _ _ hc ⟨.int (g i j), H, I.tok _, ⟨_, rfl⟩, q⟩
theorem opI0 {f : Value -> Value -> Sem Value} {g : Int -> Int -> Int}
 (rule : ∀ (i j : Int) (t u : Tok) (s : Shared) (Q : Value -> Shared -> Prop) (E : Value -> Shared -> Prop), Q (.int (g i j) s.toks) { s with toks := s.toks + 1 } -> wpAny (model X.prog X.w) X.A (f (.int i t) (.int j u)) Q E s) :
 OpR X f (rI0 fun i j => .int (g i j)) := by
 intro pins s σ H x y v u Q I rx ry h
 obtain ⟨i, j, rfl, rfl, q⟩ := h
 obtain ⟨t, rfl⟩ := rx
 obtain ⟨t', rfl⟩ := ry
 exact rule i j t t' s _ _ ⟨.int (g i j), H, I.tok _, ⟨_, rfl⟩, q⟩
theorem opB0 {f : Value -> Value -> Sem Value} {g : Int -> Int -> Bool}
 (rule : ∀ (i j : Int) (t u : Tok) (s : Shared) (Q : Value -> Shared -> Prop) (E : Value -> Shared -> Prop), Q (.bool (g i j)) s -> wpAny (model X.prog X.w) X.A (f (.int i t) (.int j u)) Q E s) :
 OpR X f (rI0 fun i j => .bl (g i j)) := by
 intro pins s σ H x y v u Q I rx ry h
 obtain ⟨i, j, rfl, rfl, q⟩ := h
 obtain ⟨t, rfl⟩ := rx
 obtain ⟨t', rfl⟩ := ry
 exact rule i j t t' s _ _ ⟨.bl (g i j), H, I, rfl, q⟩
def CDiv (i j : Int) : Prop := 0 < j /\ j < 1073741824
def CMul (i j : Int) : Prop := (-(2 ^ 64) < i /\ i < 2 ^ 64) \/ (-(2 ^ 64) < j /\ j < 2 ^ 64)
theorem CMul.ok {i j : Int} (h : CMul i j) : IntMulOk i j := by
 rcases h with ⟨h1, h2⟩ | ⟨h1, h2⟩
 . exact .of_left (intBits_le_64 h1 h2)
 . exact .of_right (intBits_le_64 h1 h2)
theorem op_add : OpR X (binaryOp .Add) (rI0 fun i j => .int (i + j)) := opI0 fun _ _ _ _ _ _ _ q => add_int q
theorem op_sub : OpR X (binaryOp .Sub) (rI0 fun i j => .int (i - j)) := opI0 fun _ _ _ _ _ _ _ q => sub_int q
theorem op_mul : OpR X (binaryOp .Mult) (rI CMul fun i j => .int (i * j)) := opI fun _ _ _ _ _ _ _ hc q => mul_int q hc.ok
theorem op_fdiv : OpR X (binaryOp .FloorDiv) (rI CDiv fun i j => .int (i / j)) := opI fun i j _ _ _ _ _ hc q => by
 have h1 : (0 : Int) < j := hc.1
 have h2 : j < 1073741824 := hc.2
 exact floordiv_int (by omega) (by rw [Int.fdiv_eq_ediv_of_nonneg i (by omega)]; exact q) (.inl (PyProof.noPylong_small (by omega)))
theorem op_mod : OpR X (binaryOp .Mod) (rI (fun _ j => 0 < j) fun i j => .int (i % j)) := opI fun i j _ _ _ _ _ hc q => by
 have h1 : (0 : Int) < j := hc
 exact mod_int' (by omega) (by rw [Int.fmod_eq_emod_of_nonneg i (by omega)]; exact q)
end
def scal : V -> V -> Bool
 | .non, .non => true | .non, .int _ => true | .int _, .non => true | .non, .bl _ => true | .bl _, .non => true | .non, .str _ => true | .str _, .non => true
 | .int _, .int _ => true | .bl _, .bl _ => true | .str _, .str _ => true | .byt _, .byt _ => true
 | .int _, .str _ => true | .str _, .int _ => true | .bl _, .str _ => true | .str _, .bl _ => true
 | _, _ => false
def rEq : R2 := fun x y H Q => scal x y = true /\ Q (.bl (decide (x = y))) H
def rNe : R2 := fun x y H Q => scal x y = true /\ Q (.bl (!decide (x = y))) H
theorem dec_int {i j : Int} : decide (V.int i = V.int j) = (i == j) := by
 rw [Bool.eq_iff_iff]
 simp
theorem dec_bl {i j : Bool} : decide (V.bl i = V.bl j) = (i == j) := by
 rw [Bool.eq_iff_iff]
 simp
theorem dec_str {i j : Str} : decide (V.str i = V.str j) = (i == j) := by
 rw [Bool.eq_iff_iff]
 simp
theorem dec_byt {i j : Array UInt8} : decide (V.byt i = V.byt j) = (i.toList == j.toList) := by
 rw [Bool.eq_iff_iff]
 cases i
 cases j
 simp
section
variable {X : Cx} {a b c : Expr} {ta tb tc : TE} {pos : Pos}
theorem fin_bl {pins : List (Addr × Obj)} {σ : St} {H : Hp} {s : Shared} {Q : VK} {k k' : Bool} (I : Inv X pins σ H s) (q : Q (.bl k) H) (e : k = k') : EP X pins σ Q (.bool k') s := by
 subst e
 exact ⟨.bl k, H, I, rfl, q⟩
theorem op_eq : OpR X (compareOp .Eq) rEq := by
 intro pins s σ H x y v u Q I rx ry h
 obtain ⟨hs, q⟩ := h
 cases x with
 | non =>
   cases rx
   cases y with
   | non => cases ry; exact PySem.EqNone.eq_none_none (fin_bl I q (by simp))
   | bl j => cases ry; exact PySem.EqNone.eq_none_bool (fin_bl I q (by simp))
   | int j => obtain ⟨t', rfl⟩ := ry; exact PySem.EqNone.eq_none_int (fin_bl I q (by simp))
   | str j => obtain ⟨t', rfl⟩ := ry; exact PySem.EqNone.eq_none_str (fin_bl I q (by simp))
   | _ => exact absurd (show false = true from hs) Bool.false_ne_true
 | bl i =>
   cases rx
   cases y with
   | non => cases ry; exact PySem.EqNone.eq_bool_none (fin_bl I q (by simp))
   | bl j => cases ry; exact eq_bool (fin_bl I q dec_bl)
   | str j => obtain ⟨t', rfl⟩ := ry; exact PySem.EqMixed.eq_bool_str (fin_bl I q (by simp))
   | _ => exact absurd (show false = true from hs) Bool.false_ne_true
 | int i =>
   obtain ⟨t, rfl⟩ := rx
   cases y with
   | non => cases ry; exact PySem.EqNone.eq_int_none (fin_bl I q (by simp))
   | int j => obtain ⟨t', rfl⟩ := ry; exact eq_int (fin_bl I q dec_int)
   | str j => obtain ⟨t', rfl⟩ := ry; exact PySem.EqMixed.eq_int_str (fin_bl I q (by simp))
   | _ => exact absurd (show false = true from hs) Bool.false_ne_true
 | str i =>
   obtain ⟨t, rfl⟩ := rx
   cases y with
   | non => cases ry; exact PySem.EqNone.eq_str_none (fin_bl I q (by simp))
   | bl j => cases ry; exact PySem.EqMixed.eq_str_bool (fin_bl I q (by simp))
   | int j => obtain ⟨t', rfl⟩ := ry; exact PySem.EqMixed.eq_str_int (fin_bl I q (by simp))
   | str j => obtain ⟨t', rfl⟩ := ry; exact eq_str (fin_bl I q dec_str)
   | _ => exact absurd (show false = true from hs) Bool.false_ne_true
 | byt i =>
   obtain ⟨t, rfl⟩ := rx
   cases y with
   | byt j => obtain ⟨t', rfl⟩ := ry; exact W.eq_bytes (fin_bl I q dec_byt)
   | _ => exact absurd (show false = true from hs) Bool.false_ne_true
 | _ => cases y <;> exact absurd (show false = true from hs) Bool.false_ne_true
theorem op_ne : OpR X (compareOp .NotEq) rNe := by
 intro pins s σ H x y v u Q I rx ry h
 obtain ⟨hs, q⟩ := h
 cases x with
 | non =>
   cases rx
   cases y with
   | non => cases ry; exact PySem.EqNone.ne_none_none (fin_bl I q (by simp))
   | bl j => cases ry; exact PySem.EqNone.ne_none_bool (fin_bl I q (by simp))
   | int j => obtain ⟨t', rfl⟩ := ry; exact PySem.EqNone.ne_none_int (fin_bl I q (by simp))
   | str j => obtain ⟨t', rfl⟩ := ry; exact PySem.EqNone.ne_none_str (fin_bl I q (by simp))
   | _ => exact absurd (show false = true from hs) Bool.false_ne_true
 | bl i =>
   cases rx
   cases y with
   | non => cases ry; exact PySem.EqNone.ne_bool_none (fin_bl I q (by simp))
   | bl j => cases ry; exact ne_bool (fin_bl I q (congrArg not dec_bl))
   | str j => obtain ⟨t', rfl⟩ := ry; exact PySem.EqMixed.ne_bool_str (fin_bl I q (by simp))
   | _ => exact absurd (show false = true from hs) Bool.false_ne_true
 | int i =>
   obtain ⟨t, rfl⟩ := rx
   cases y with
   | non => cases ry; exact PySem.EqNone.ne_int_none (fin_bl I q (by simp))
   | int j => obtain ⟨t', rfl⟩ := ry; exact ne_int (fin_bl I q (congrArg not dec_int))
   | str j => obtain ⟨t', rfl⟩ := ry; exact PySem.EqMixed.ne_int_str (fin_bl I q (by simp))
   | _ => exact absurd (show false = true from hs) Bool.false_ne_true
 | str i =>
   obtain ⟨t, rfl⟩ := rx
   cases y with
   | non => cases ry; exact PySem.EqNone.ne_str_none (fin_bl I q (by simp))
   | bl j => cases ry; exact PySem.EqMixed.ne_str_bool (fin_bl I q (by simp))
   | int j => obtain ⟨t', rfl⟩ := ry; exact PySem.EqMixed.ne_str_int (fin_bl I q (by simp))
   | str j => obtain ⟨t', rfl⟩ := ry; exact ne_str (fin_bl I q (congrArg not dec_str))
   | _ => exact absurd (show false = true from hs) Bool.false_ne_true
 | byt i =>
   obtain ⟨t, rfl⟩ := rx
   cases y with
   | byt j => obtain ⟨t', rfl⟩ := ry; exact W.ne_bytes (fin_bl I q (congrArg not dec_byt))
   | _ => exact absurd (show false = true from hs) Bool.false_ne_true
 | _ => cases y <;> exact absurd (show false = true from hs) Bool.false_ne_true
theorem op_lt : OpR X (compareOp .Lt) (rI0 fun i j => .bl (decide (i < j))) := opB0 fun _ _ _ _ _ _ _ q => lt_int q
theorem op_gt : OpR X (compareOp .Gt) (rI0 fun i j => .bl (decide (j < i))) := opB0 fun _ _ _ _ _ _ _ q => gt_int q
theorem op_ge : OpR X (compareOp .GtE) (rI0 fun i j => .bl (decide (j <= i))) := opB0 fun _ _ _ _ _ _ _ q => ge_int q
theorem op_in_str : OpR X (compareOp .In) (fun x y H Q => ∃ i j, x = .str i /\ y = .str j /\ Q (.bl (!(Builtin.Str.occurrences j i 0 j.length 1).isEmpty)) H) := by
 intro pins s σ H x y v u Q I rx ry h
 obtain ⟨i, j, rfl, rfl, q⟩ := h
 obtain ⟨t, rfl⟩ := rx
 obtain ⟨t', rfl⟩ := ry
 exact in_str (fin_bl I q rfl)
theorem op_isN : OpR X (compareOp .Is) (fun x y H Q => y = .non /\ Q (.bl (decide (x = .non))) H) := by
 intro pins s σ H x y v u Q I rx ry h
 obtain ⟨rfl, q⟩ := h
 cases ry
 refine is_none_gen (fin_bl I q ?_)
 cases x <;> first
  | (cases rx; rfl)
  | (obtain ⟨t, rfl⟩ := rx; rfl)
theorem op_notN : OpR X (compareOp .IsNot) (fun x y H Q => y = .non /\ Q (.bl (!decide (x = .non))) H) := by
 intro pins s σ H x y v u Q I rx ry h
 obtain ⟨rfl, q⟩ := h
 cases ry
 refine isnot_none_gen (fin_bl I q ?_)
 cases x <;> first
  | (cases rx; rfl)
  | (obtain ⟨t, rfl⟩ := rx; rfl)
def isObj : HO -> Bool
 | .lst _ => true
 | .ins _ _ _ => true
 | _ => false
theorem nomark (b : Expr) {op : CmpOp} (h : op ≠ .In := by decide) (h2 : op ≠ .NotIn := by decide) : behindInMarks op b = false := by
 have e1 : (op == CmpOp.In) = false := by cases op <;> first | rfl | exact absurd rfl h
 have e2 : (op == CmpOp.NotIn) = false := by cases op <;> first | rfl | exact absurd rfl h2
 cases b <;> simp [behindInMarks, e1, e2]
theorem pe_cmpR {op : CmpOp} {r : R2} (ho : OpR X (compareOp op) r) (ha : PE X a ta) (hb : PE X b tb) (hm : behindInMarks op b = false) : PE X (.Compare a [op] [b] pos) (tOp r ta tb) := by
 intro pins s σ H Q I h
 exact wpAny_Compare1 (binT ha hb I h fun v u s2 x y H2 I2 rx ry q => ho pins s2 σ H2 x y v u Q I2 rx ry q) hm
def tTest (t : TE) : TT := fun σ H Q => t σ H fun x H' => ∃ k, x = .bl k /\ Q k H'
theorem pt_cmpR {op : CmpOp} {r : R2} (ho : OpR X (compareOp op) r) (ha : PE X a ta) (hb : PE X b tb) (hm : behindInMarks op b = false) : PT X (.Compare a [op] [b] pos) (tTest (tOp r ta tb)) := by
 intro pins s σ H Q I h
 refine wpAny_isTrue_Compare1 (thn (ha pins s σ H _ I h) fun v s1 ⟨x, H1, I1, r1, q1⟩ => thn (hb pins s1 σ H1 _ I1 q1) fun u s2 ⟨y, H2, I2, r2, q2⟩ =>
  thn (ho pins s2 σ H2 x y v u _ I2 r1 r2 q2) fun c s3 ⟨z, H3, I3, r3, k, e, q3⟩ => ?_) hm
 subst e
 cases r3
 exact wpAny_truthy_bool ⟨H3, I3, q3⟩
theorem line63 : (sizeLine : Nat) < 2 ^ 63 := by rw [sizeLine_eq]; decide
theorem vals1 {x : V} {us : List Value} (r : Vals [x] us) : ∃ u, us = [u] /\ RelV x u := by
 cases r with
 | cons r1 r2 => cases r2; exact ⟨_, rfl, r1⟩
theorem vals2 {x y : V} {us : List Value} (r : Vals [x, y] us) : ∃ u w', us = [u, w'] /\ RelV x u /\ RelV y w' := by
 cases r with
 | cons r1 r2 =>
   cases r2 with
   | cons r3 r4 => cases r4; exact ⟨_, _, rfl, r1, r3⟩
end
end L2
namespace L2
open PySem PySem.Spec PyProof.Rows
structure ObjM (h : Heap) (x dx C : Addr) (mA : Str -> Option Value) : Prop where
 obj : h.get? x = some (W.instObj C dx)
 ns : h.Ns1 dx mA
 ne : dx ≠ x
theorem lookIn_ns {h : Heap} {dx : Addr} {mA : Str -> Option Value} (n : h.Ns1 dx mA) : ∃ od, h.get? dx = some od /\ ∀ name, W.lookIn name od = some (mA name) := by
 obtain ⟨o, es, ep, ho, hd, hk, _, hm⟩ := n
 refine ⟨o, ho, fun name => ?_⟩
 have e := hm name
 unfold nsFind findBy at e
 rw [<- Array.find?_toList] at e
 unfold W.lookIn
 rw [hd]
 dsimp only
 split
 . rename_i y q
   rw [q] at e
   exact congrArg some e
 . rename_i q
   rw [q] at e
   have a : es.toList.any (·.refKey) = false := by
    rw [List.any_eq_false]
    intro y hy
    obtain ⟨z, t, hkey⟩ := hk y (Array.mem_toList_iff.mp hy)
    simp [DictEntry.refKey, hkey]
   have a' : ¬ es.toList.any (·.refKey) = true := by rw [a]; exact Bool.false_ne_true
   rw [if_neg a']
   exact congrArg some e
theorem ObjM.look {h : Heap} {x dx C : Addr} {mA : Str -> Option Value} (I : ObjM h x dx C mA) : ∃ od, W.InstAt h x (W.instObj C dx) C (some od) /\ ∀ name, W.lookIn name od = some (mA name) :=
 let ⟨od, ho, hl⟩ := lookIn_ns I.ns
 ⟨od, ⟨I.obj, rfl, rfl, ho⟩, hl⟩
section
variable {prog : Program} {w : World} {A : Around} {E : Value -> Shared -> Prop} {s : Shared} {K : W.Frag} {x dx C f : Addr} {mA : Str -> Option Value} {name : Str} {v : Value}
theorem get_map {expr : Bool} {Q : Value -> Shared -> Prop} (X : K.In s.heap) (I : ObjM s.heap x dx C mA) (hg : W.plainGet K C name = true) (hh : W.hasDictIn K C = true)
 (ha : W.findIn K (.ref C) name = some none) (hv : mA name = some v) (hv' : W.handedIn v = true) (h : Q v { s with toks := s.toks + 1 }) :
 wpAny (model prog w) A (getAttr (.ref x) name expr) Q E s := by
 obtain ⟨od, J, hl⟩ := I.look
 exact W.get_value X J (W.plainGet_of hg).1 (W.findObj_own hh ha rfl (by rw [hl, hv])) hv' h
theorem get_meth {pl : Sem Bool} {Q : Value × List Value -> Shared -> Prop} (X : K.In s.heap) (I : ObjM s.heap x dx C mA) (hg : W.plainGet K C name = true)
 (hf : W.findIn K (.ref C) name = some (some (.ref f))) (ht : W.isFn K (.ref f) = true) (hv : mA name = none) (h : Q (.ref f, [.ref x]) s) :
 wpAny (model prog w) A (getMethod (.ref x) name pl) Q E s := by
 obtain ⟨od, J, hl⟩ := I.look
 exact W.method_fn X J (W.plainGet_of hg).1 (W.plainGet_of hg).2 hf (beq_iff_eq.mp ht) (by show (W.lookIn name od).map (·.isSome) = some false; rw [hl, hv]; rfl) h
theorem set_map {ns : List Str} {Q : Unit -> Shared -> Prop} (X : K.In s.heap) (I : ObjM s.heap x dx C mA)
 (hs : W.findIn K (.ref C) "__setattr__" = some (some (.builtin "object.__setattr__"))) (hp : W.plainOver K C = true) (ht : W.takerIn K C name = some none) (hh : W.hasDictIn K C = true)
 (hw : PySem.Within mA ns) (hsz : ns.length <= sizeLine)
 (h : ∀ h', ObjM h' x dx C (fun y => if y = name then some v else mA y) -> Heap.SameBut dx s.heap h' -> Q () { s with heap := h', toks := s.toks + 2 }) :
 wpAny (model prog w) A (setAttr (.ref x) name v) Q E s := by
 obtain ⟨od, J, hl⟩ := I.look
 refine W.set_plain X J hs (W.osa_open (s := { s with toks := s.toks + 1 }) (r := none) X J hp ht fun b => ?_)
 obtain ⟨cd, hc, hd'⟩ := W.any_some hh
 have hx : s.heap.get? x = some ⟨.ref C, some dx, .plain, #[]⟩ := I.obj
 refine wpAny_bind (wpAny_pure (wpAny_bind (wpAny_bind (wpAny_loadPart hx (wpAny_bind (W.Looks.here (s := { s with toks := s.toks + 1 }) (W.looks_clsIn X hc) ?_))))))
 rw [hd']
 refine wpAny_pure (a := some dx) (wpAny_bind (wpAny_pure (wpAny_bind ?_)))
 refine wpAny_nsSet1 (s := { s with toks := s.toks + 1 }) I.ns fun h' hn2 hs2 => ?_
 obtain ⟨oD, esD, epD, hoD, hdD, hcD⟩ := hn2.count (PySem.Within.cons name v hw)
 refine wpAny_bind (wpAny_lookBehind hoD (by rw [hdD]; exact pastItsLine_dict (Nat.le_trans hcD (by rw [List.length_cons]; omega))) ?_)
 exact wpAny_pure (h _ ⟨(hs2.2 _ (Ne.symm I.ne)).trans I.obj, hn2, I.ne⟩ hs2)
theorem make_map {R : Result -> Shared -> Prop} {vs : List Value} {kw : List (Str × Value)} (X : K.In s.heap) (hm : W.makesIn K C = true)
 (hi : W.findIn K (.ref C) "__init__" = some (some (.ref f))) (hf : W.typeIn K (.ref f) = some (.type "function"))
 (h : codeAny (model prog w) (A.under (.builtin "type.__call__" ⟨.ref C :: vs, kw⟩)) (.call (.ref f) ⟨.ref (s.heap.objs.size + 1) :: vs, kw⟩) (W.InitBack (s.heap.objs.size + 1) R)
  { s with heap := (s.heap.push W.emptyDict).push (W.instObj C s.heap.objs.size) }) :
 codeAny (model prog w) A (.call (.ref C) ⟨vs, kw⟩) R s := by
 obtain ⟨hh, g, d, t, os⟩ := s
 exact W.make_core (W.makes_of X hm) (W.looks_findIn X hi) (fun self => W.bind_fn X self hf) (.inl rfl) h
end
def putF (f : Str) (v : V) : List (Str × V) -> List (Str × V)
 | [] => [(f, v)]
 | (g, x) :: r => if g = f then (g, v) :: r else (g, x) :: putF f v r
theorem lookup_putF (f g : Str) (v : V) : ∀ fs : List (Str × V), (putF f v fs).lookup g = if g = f then some v else fs.lookup g
 | [] => by
   show List.lookup g [(f, v)] = _
   by_cases h : g = f
   . have hb : (g == f) = true := beq_iff_eq.mpr h
     simp only [List.lookup, hb, if_pos h]
   . have hb : (g == f) = false := beq_eq_false_iff_ne.mpr h
     simp only [List.lookup, hb, if_neg h]
 | (k, x) :: r => by
   have ih := lookup_putF f g v r
   rw [show putF f v ((k, x) :: r) = (if k = f then (k, v) :: r else (k, x) :: putF f v r) from rfl]
   by_cases hk : k = f
   . rw [if_pos hk]
     by_cases h : g = k
     . have hb : (g == k) = true := beq_iff_eq.mpr h
       simp only [List.lookup, hb, if_pos (h.trans hk)]
     . have hb : (g == k) = false := beq_eq_false_iff_ne.mpr h
       simp only [List.lookup, hb, if_neg (fun e : g = f => h (e.trans hk.symm))]
   . rw [if_neg hk]
     by_cases h : g = k
     . have hb : (g == k) = true := beq_iff_eq.mpr h
       simp only [List.lookup, hb, if_neg (fun e : g = f => hk (h.symm.trans e))]
     . have hb : (g == k) = false := beq_eq_false_iff_ne.mpr h
       simp only [List.lookup, hb]
       exact ih
theorem keys_putF (f : Str) (v : V) : ∀ fs : List (Str × V), f ∈ (putF f v fs).map (·.1) /\ ∀ g, g ∈ fs.map (·.1) -> g ∈ (putF f v fs).map (·.1)
 | [] => ⟨by simp [putF], fun g h => by simp at h⟩
 | (k, x) :: r => by
   obtain ⟨i1, i2⟩ := keys_putF f v r
   rw [show putF f v ((k, x) :: r) = (if k = f then (k, v) :: r else (k, x) :: putF f v r) from rfl]
   by_cases hk : k = f
   . rw [if_pos hk]
     subst hk
     exact ⟨by simp, fun g h => by simpa using h⟩
   . rw [if_neg hk]
     refine ⟨?_, fun g h => ?_⟩
     . rw [List.map_cons]
       exact List.mem_cons_of_mem _ i1
     . rw [List.map_cons] at h ⊢
       rcases List.mem_cons.mp h with e | e
       . exact List.mem_cons.mpr (.inl e)
       . exact List.mem_cons_of_mem _ (i2 g e)
theorem length_putF (f : Str) (v : V) : ∀ fs : List (Str × V), (putF f v fs).length <= fs.length + 1
 | [] => by simp [putF]
 | (k, x) :: r => by
   have ih := length_putF f v r
   rw [show putF f v ((k, x) :: r) = (if k = f then (k, v) :: r else (k, x) :: putF f v r) from rfl]
   by_cases hk : k = f
   . rw [if_pos hk, List.length_cons, List.length_cons]; omega
   . rw [if_neg hk, List.length_cons, List.length_cons]; omega
theorem RelO.some_of {v : V} {o : Option Value} (r : RelO (some v) o) : ∃ u, o = some u /\ RelV v u := by
 cases o with
 | none => exact (show False from r).elim
 | some u => exact ⟨u, rfl, r⟩
theorem RelO.none_of {o : Option Value} (r : RelO none o) : o = none := by
 cases o with
 | none => rfl
 | some u => exact (show False from r).elim
theorem handed_of {v : V} {u : Value} (r : RelV v u) : W.handedIn u = true := by
 cases v with
 | non => cases (show u = Value.none from r); rfl
 | bl b => cases (show u = Value.bool b from r); rfl
 | int i => obtain ⟨t, e⟩ := (show ∃ t, u = Value.int i t from r); cases e; rfl
 | str x => obtain ⟨t, e⟩ := (show ∃ t, u = Value.str x t from r); cases e; rfl
 | byt b => obtain ⟨t, e⟩ := (show ∃ t, u = Value.bytes b t from r); cases e; rfl
 | flt b => obtain ⟨t, e⟩ := (show ∃ t, u = Value.float b t from r); cases e; rfl
 | ref a => cases (show u = Value.ref a from r); rfl
 | ty n => cases (show u = Value.type n from r); rfl
section
variable {P : Program} {w : World} {H H' : Hp} {h h' : Heap} {a C dx : Addr} {fs fs' : List (Str × V)}
theorem ins_get (hok : HOk P w H h) (e : H a = some (.ins C dx fs)) : ∃ mA, ObjM h a dx C mA /\ (∀ f, RelO (fs.lookup f) (mA f)) /\ PySem.Within mA (fs.map (·.1)) /\ fs.length <= 1000 /\ H dx = some (.own a) := by
 obtain ⟨d, z, ne, ob, mA, n, r, q⟩ := (show ObjOk P w H h a (.ins C dx fs) from hok a _ e)
 exact ⟨mA, ⟨ob, n, ne⟩, r, q, z, d⟩
end
structure Cls (K : W.Frag) (C : Addr) : Prop where
 pg : W.plainGet K C Str.empty = true
 hd : W.hasDictIn K C = true
 po : W.plainOver K C = true
 sa : W.findIn K (.ref C) "__setattr__" = some (some (.builtin "object.__setattr__"))
theorem Cls.get {K : W.Frag} {C : Addr} (c : Cls K C) (f : Str) : W.plainGet K C f = true := c.pg
def NoAttr (K : W.Frag) (C : Addr) (f : Str) : Prop := W.findIn K (.ref C) f = some none
theorem NoAttr.taker {K : W.Frag} {C : Addr} {f : Str} (n : NoAttr K C f) : W.takerIn K C f = some none := by
 unfold W.takerIn
 rw [show W.findIn K (.ref C) f = some none from n]
 rfl
structure Meth (K : W.Frag) (C : Addr) (m : Str) (f : Addr) : Prop where
 at_ : W.findIn K (.ref C) m = some (some (.ref f))
 fn : W.isFn K (.ref f) = true
 kp : W.keepIn K (.ref f) = true
section
variable {X : Cx} {pins : List (Addr × Obj)} {σ : St} {H : Hp} {s : Shared} {a C dx : Addr} {fs : List (Str × V)} {f : Str} {v : V} {A : Around} {E : Value -> Shared -> Prop}
theorem getattr_ok {b : Bool} {Q : Value -> Shared -> Prop} (I : Inv X pins σ H s) (e : H a = some (.ins C dx fs)) (c : Cls X.K C) (n : NoAttr X.K C f) (l : fs.lookup f = some v)
 (h : ∀ u s', Inv X pins σ H s' -> RelV v u -> Q u s') : wpAny (model X.prog X.w) A (getAttr (.ref a) f b) Q E s := by
 obtain ⟨mA, O, r, _, _, _⟩ := ins_get I.hok e
 obtain ⟨u, hu, ru⟩ := RelO.some_of (v := v) (o := mA f) (by rw [<- l]; exact r f)
 exact get_map I.kIn O (c.get f) c.hd n hu (handed_of ru) (h u _ (I.tok _) ru)
theorem getmeth_ok {m : Str} {g : Addr} {pl : Sem Bool} {Q : Value × List Value -> Shared -> Prop} (I : Inv X pins σ H s) (e : H a = some (.ins C dx fs)) (c : Cls X.K C) (k : Meth X.K C m g) (l : fs.lookup m = none)
 (h : Q (.ref g, [.ref a]) s) : wpAny (model X.prog X.w) A (getMethod (.ref a) m pl) Q E s := by
 obtain ⟨mA, O, r, _, _, _⟩ := ins_get I.hok e
 have hn : mA m = none := RelO.none_of (by rw [<- l]; exact r m)
 exact get_meth I.kIn O (c.get m) k.at_ k.fn hn h
theorem setattr_ok {y : V} {u : Value} {Q : Unit -> Shared -> Prop} (I : Inv X pins σ H s) (e : H a = some (.ins C dx fs)) (c : Cls X.K C) (n : NoAttr X.K C f) (hl : fs.length < 1000) (ry : RelV y u)
 (h : ∀ s', Inv X pins σ (upd H a (.ins C dx (putF f y fs))) s' -> Q () s') : wpAny (model X.prog X.w) A (setAttr (.ref a) f u) Q E s := by
 obtain ⟨mA, O, r, wi, _, ho⟩ := ins_get I.hok e
 have hz : (fs.map (·.1)).length <= sizeLine := by rw [List.length_map, sizeLine_eq]; omega
 refine set_map I.kIn O c.sa c.po n.taker c.hd wi hz fun h' O' sb => h _ ?_
 have hd : ∃ o, h'.get? dx = some o := let ⟨o, _, _, e', _⟩ := O'.ns; ⟨o, e'⟩
 refine I.write (x := a) (e := dx) (by rw [e]; exact True.intro) (.inr ho) (fun b q hb z => (sb.2 b hb).trans z) hd ?_
 refine ⟨by rw [upd_ne O.ne]; exact ho, ?_, O.ne, O'.obj, _, O'.ns, fun g => ?_, fun g hg => ?_⟩
 . have := length_putF f y fs; omega
 . show RelO ((putF f y fs).lookup g) (if g = f then some u else mA g)
   rw [lookup_putF]
   by_cases q : g = f
   . rw [if_pos q, if_pos q]; exact ry
   . rw [if_neg q, if_neg q]; exact r g
 . by_cases q : g = f
   . rw [q]; exact (keys_putF f y fs).1
   . refine (keys_putF f y fs).2 g (wi g fun z => hg ?_)
     show (if g = f then some u else mA g) = none
     rw [if_neg q]; exact z
theorem Inv.made (I : Inv X pins σ H s) : Inv X pins σ (upd (upd H s.heap.objs.size (.own (s.heap.objs.size + 1))) (s.heap.objs.size + 1) (.ins C s.heap.objs.size []))
 { s with heap := (s.heap.push W.emptyDict).push (W.instObj C s.heap.objs.size) } := by
 have e1 : (s.heap.push W.emptyDict).get? s.heap.objs.size = some W.emptyDict := Heap.get?_push_size s.heap rfl
 have e2 : ((s.heap.push W.emptyDict).push (W.instObj C s.heap.objs.size)).get? (s.heap.objs.size + 1) = some (W.instObj C s.heap.objs.size) := by
  have := Heap.get?_push_size (s.heap.push W.emptyDict) (o := W.instObj C s.heap.objs.size) rfl
  rwa [Heap.size_push] at this
 have e3 : (s.heap.push W.emptyDict).Ns s.heap.objs.size (fun _ => none) := ⟨W.emptyDict, #[], _, e1, rfl, (fun e he => absurd he (by simp)), fun _ => rfl⟩
 have I1 := I.laid (a := s.heap.objs.size) (o := .own (s.heap.objs.size + 1)) (h' := s.heap.push W.emptyDict) (t' := s.toks) (fun b u q => Heap.get?_push_of_some _ q) (Nat.le_refl _) ⟨_, e1⟩
 refine I1.laid (a := s.heap.objs.size + 1) (o := .ins C s.heap.objs.size []) (t' := s.toks) (fun b u q => Heap.get?_push_of_some _ q) (Nat.le_of_eq (Heap.size_push _ _)) ?_
 have ne : s.heap.objs.size ≠ s.heap.objs.size + 1 := Nat.ne_of_lt (Nat.lt_succ_self _)
 refine ⟨by rw [upd_ne ne, upd_same], Nat.zero_le _, ne, e2, fun _ => none, (Heap.Ns1.of_empty e3).at fun o q => Heap.get?_push_of_some _ q, fun _ => True.intro, fun y hy => absurd rfl hy⟩
theorem attr_of {prog : Program} {w : World} {env : Env} {e : Expr} {f : Str} {pos : Pos} {s : Shared} {Q : Value -> Shared -> Prop} (hb : attributeBase e f env (eval e env) = eval e env)
 (h : wpAny (model prog w) A (eval e env) (fun o s₁ => wpAny (model prog w) A (getAttr o f true) Q E s₁) E s) : wpAny (model prog w) A (eval (.Attribute e f pos) env) Q E s :=
 Attribute_any_ h (by rw [arm_eval_Attribute, hb])
end
def tFld (K : W.Frag) (ta : TE) (f : Str) : TE := fun σ H Q => ta σ H fun x H1 => ∃ a C dx fs v, x = .ref a /\ H1 a = some (.ins C dx fs) /\ Cls K C /\ NoAttr K C f /\ fs.lookup f = some v /\ Q v H1
def sFld (K : W.Frag) (ta tv : TE) (f : Str) : TS := fun D σ H => tv σ H fun y H1 => ta σ H1 fun x H2 => ∃ a C dx fs, x = .ref a /\ H2 a = some (.ins C dx fs) /\ Cls K C /\ NoAttr K C f /\ fs.length < 1000 /\
 D.nx σ (upd H2 a (.ins C dx (putF f y fs)))
section
variable {X : Cx} {o e value : Expr} {f : Str} {pos pos' tpos : Pos} {ta tv : TE}
theorem pe_fld (he : PE X e ta) (hb : attributeBase e f X.env (eval e X.env) = eval e X.env) : PE X (.Attribute e f pos) (tFld X.K ta f) := by
 intro pins s σ H Q I h
 refine attr_of hb (thn (he pins s σ H _ I h) fun u s1 ⟨x, H1, I1, rx, a, C, dx, fs, v, ex, ea, c, n, l, q⟩ => ?_)
 subst ex
 obtain rfl : u = Value.ref a := rx
 exact getattr_ok I1 ea c n l fun u' s2 I2 ru => ⟨v, H1, I2, ru, q⟩
theorem ps_fld (ha : PE X o ta) (hv : PE X value tv) (hs : swapsWith value (some (.Attribute o f pos')) pos.line X.env = pure false) : PS X (.Assign [.Attribute o f pos'] value pos) (sFld X.K ta tv f) := by
 intro pins s σ H D I h
 refine plainObj_wpAny_Assign_Attribute (thn (hv pins s σ H _ I h) fun u s1 ⟨y, H1, I1, ry, q⟩ => thn (ha pins s1 σ H1 _ I1 q) fun ov s2 ⟨x, H2, I2, rx, a, C, dx, fs, ex, ea, c, n, l, q2⟩ => ?_) hs
 subst ex
 obtain rfl : ov = Value.ref a := rx
 exact setattr_ok I2 ea c n l ry fun s3 I3 => ⟨σ, _, I3, q2⟩
end
section
variable {X : Cx} {pins : List (Addr × Obj)} {σ : St} {H : Hp} {s : Shared} {A : Around} {E : Value -> Shared -> Prop} {Q : Value -> Shared -> Prop} {c : Value} {b : Bool}
inductive TyOf (K : W.Frag) (H : Hp) : V -> Value -> Prop where
 | non : TyOf K H .non (.type "NoneType")
 | bl (x : Bool) : TyOf K H (.bl x) (.type "bool")
 | int (i : Int) : TyOf K H (.int i) (.type "int")
 | str (x : Str) : TyOf K H (.str x) (.type "str")
 | flt (x : UInt64) : TyOf K H (.flt x) (.type "float")
 | lst {a : Addr} {xs : List V} (e : H a = some (.lst xs)) : TyOf K H (.ref a) (.type "list")
 | frz {a : Addr} {o : Obj} {xs : List V} (e : H a = some (.frz o (.lst xs))) : TyOf K H (.ref a) (.type "list")
 | tup {a : Addr} {xs : List V} (e : H a = some (.tup xs)) : TyOf K H (.ref a) (.type "tuple")
 | dK {a : Addr} {kvs : List (Key × V)} (e : H a = some (.dK kvs)) : TyOf K H (.ref a) (.type "dict")
 | dT {a : Addr} {kvs : List (List Key × V)} (e : H a = some (.dT kvs)) : TyOf K H (.ref a) (.type "dict")
 | ins {a C dx : Addr} {fs : List (Str × V)} (e : H a = some (.ins C dx fs)) (cl : Cls K C) (ha : W.findIn K (.ref C) "__class__" = some (some (.builtin "object.__class__")))
  (hn : W.specialIn K (.builtin "object.__class__") "__get__" = some (some (.builtin "getset_descriptor.__get__"))) (htk : W.takesIn K (.builtin "object.__class__") = some true)
  (hm : W.mroIn K C (.type "object") = some true) : TyOf K H (.ref a) (.ref C)
theorem isinst_ok {x : V} {u t : Value} (I : Inv X pins σ H s) (rx : RelV x u) (ty : TyOf X.K H x t) (e : W.kitOne X.K t c = some b) (h : ∀ tk, Q (.bool b) { s with toks := tk }) :
 wpAny (model X.prog X.w) A (call (.builtin "isinstance") [u, c]) Q E s := by
 cases ty with
 | non => cases (show u = Value.none from rx); exact W.kia_one W.kitx_none I.kIn True.intro e (fun z => nomatch z) h
 | bl y => cases (show u = Value.bool y from rx); exact W.kia_one W.kitx_bool I.kIn True.intro e (fun z => nomatch z) h
 | int i => obtain ⟨t, q⟩ := (show ∃ t, u = Value.int i t from rx); cases q; exact W.kia_one W.kitx_int I.kIn True.intro e (fun z => nomatch z) h
 | str y => obtain ⟨t, q⟩ := (show ∃ t, u = Value.str y t from rx); cases q; exact W.kia_one W.kitx_str I.kIn True.intro e (fun z => nomatch z) h
 | flt y => obtain ⟨t, q⟩ := (show ∃ t, u = Value.float y t from rx); cases q; exact W.kia_one W.kitx_float I.kIn True.intro e (fun z => nomatch z) h
 | @lst a xs ea =>
   cases (show u = Value.ref a from rx)
   obtain ⟨_, _, n, _, h1⟩ := (show ObjOk X.prog X.w H s.heap a (.lst xs) from I.hok a _ ea)
   exact W.kia_one W.kitx_list I.kIn ⟨_, h1, rfl⟩ e (fun z => nomatch z) h
 | @frz a ob xs ea =>
   cases (show u = Value.ref a from rx)
   obtain ⟨_, _, _, n, _, h1⟩ := (show ObjOk X.prog X.w H s.heap a (.frz ob (.lst xs)) from I.hok a _ ea)
   exact W.kia_one W.kitx_list I.kIn ⟨_, h1, rfl⟩ e (fun z => nomatch z) h
 | @tup a xs ea =>
   cases (show u = Value.ref a from rx)
   obtain ⟨_, _, _, p⟩ := (show ObjOk X.prog X.w H s.heap a (.tup xs) from I.hok a _ ea)
   obtain ⟨o, h1, h2, _⟩ := p
   exact W.kia_one W.kitx_tuple I.kIn ⟨o, h1, h2⟩ e (fun z => nomatch z) h
 | @dK a kvs ea =>
   cases (show u = Value.ref a from rx)
   obtain ⟨_, _, vs, _, p⟩ := (show ObjOk X.prog X.w H s.heap a (.dK kvs) from I.hok a _ ea)
   obtain ⟨o, es, ep, h1, h2, _⟩ := p
   exact W.kia_one W.kitx_dict I.kIn ⟨o, h1, h2.1⟩ e (fun z => nomatch z) h
 | @dT a kvs ea =>
   cases (show u = Value.ref a from rx)
   obtain ⟨_, _, xs, _, o, es, ep, h1, h2, _⟩ := (show ObjOk X.prog X.w H s.heap a (.dT kvs) from I.hok a _ ea)
   exact W.kia_one W.kitx_dict I.kIn ⟨o, h1, h2.1⟩ e (fun z => nomatch z) h
 | @ins a C dx fs ea cl ha hn htk hm =>
   cases (show u = Value.ref a from rx)
   obtain ⟨mA, O, _⟩ := ins_get I.hok ea
   obtain ⟨od, J, _⟩ := O.look
   exact W.kia_one (W.kitx_own (cl.get _) cl.hd ha hn htk hm) I.kIn J e (fun z => nomatch z) h
end
end L2
namespace L2
open PySem PySem.Spec PyProof.Rows
structure Room (k : Nat) (A : Around) : Prop where
 hd : A.handled = none
 dp : A.depth + 3 * k + 5 < recursionLimit
 un : A.units + 16 * k + 200 < cLine
 gd : A.guards = some []
theorem Room.mono {j k : Nat} {A : Around} (r : Room k A) (h : j <= k) : Room j A := ⟨r.hd, by have := r.dp; omega, by have := r.un; omega, by first | exact r.gd | simpa [Around.under, Around.deeper, Code.guards, Code.isGuard, guardIds, pushGuards] using r.gd⟩
theorem Room.deeper {k : Nat} {A : Around} (r : Room (k + 1) A) (env : Env) : Room k (A.deeper env) :=
 ⟨r.hd, by have := r.dp; show A.depth + 1 + 3 * k + 5 < _; omega, by have := r.un; show A.units + 3 + 16 * k + 200 < _; omega, by first | exact r.gd | simpa [Around.under, Around.deeper, Code.guards, Code.isGuard, guardIds, pushGuards] using r.gd⟩
theorem make_depth {A : Around} {C : Addr} {us : List Value} {kw : List (Str × Value)} : (A.under (.builtin "type.__call__" ⟨.ref C :: us, kw⟩)).depth = A.depth + 1 := by
 first | rfl | simp [Around.under, Code.weight, Code.isCreation, Code.isGuard, Code.isCaller, Code.frames, Code.isFrame, guardIds]
theorem make_units {A : Around} {C : Addr} {us : List Value} {kw : List (Str × Value)} : (A.under (.builtin "type.__call__" ⟨.ref C :: us, kw⟩)).units = A.units + 1 := by
 first | rfl | simp [Around.under, Code.cUnits, Code.frames, Code.isFrame]
theorem Room.make {k : Nat} {A : Around} (r : Room (k + 1) A) (C : Addr) (us : List Value) (kw : List (Str × Value)) : Room k (A.under (.builtin "type.__call__" ⟨.ref C :: us, kw⟩)) :=
 ⟨r.hd, by have := r.dp; rw [make_depth]; omega, by have := r.un; rw [make_units]; omega, by first | exact r.gd | simpa [Around.under, Around.deeper, Code.guards, Code.isGuard, guardIds, pushGuards] using r.gd⟩
theorem Room.depth {k : Nat} {A : Around} (r : Room k A) : A.depth < recursionLimit := by have := r.dp; omega
theorem Room.units {k : Nat} {A : Around} (r : Room k A) : A.units + 64 < cLine := by have := r.un; omega
theorem Room.units0 {k : Nat} {A : Around} (r : Room k A) : A.units < cLine := by have := r.un; omega
def tNil : TA := fun _ H Q => Q [] H
def tCons (ta : TE) (tr : TA) : TA := fun σ H Q => ta σ H fun x H1 => tr σ H1 fun xs H2 => Q (x :: xs) H2
section
variable {X : Cx} {e : Expr} {es : List Expr} {te : TE} {t : TA} {pos : Pos}
theorem pa_nil : PA X [] tNil := fun _ _ _ _ H Q I h => Calls.spliced_nil ⟨[], H, I, .nil, h⟩
theorem pa_cons (ha : PE X e te) (hr : PA X es t) (hs : starEach (e :: es) X.env = (false, eval e X.env) :: starEach es X.env := by rfl) : PA X (e :: es) (tCons te t) := by
 intro pos pins s σ H Q I h
 rw [hs]
 show wpAny _ _ (spliced ((false, eval e X.env) :: backTo pos (starEach es X.env))) _ _ s
 refine Calls.spliced_cons (thn (ha pins s σ H _ I h) fun u s1 ⟨x, H1, I1, r1, q1⟩ => ?_)
 exact thn (hr pos pins s1 σ H1 _ I1 q1) fun us s2 ⟨xs, H2, I2, r2, q2⟩ => ⟨x :: xs, H2, I2, .cons r1 r2, q2⟩
def tTup (t : TA) : TE := fun σ H Q => t σ H fun xs H1 => xs.length <= sizeLine /\ ∀ p, H1 p = none -> Q (.ref p) (upd H1 p (.tup xs))
def tLst (t : TA) : TE := fun σ H Q => t σ H fun xs H1 => xs.length <= sizeLine /\ ∀ p, H1 p = none -> Q (.ref p) (upd H1 p (.lst xs))
theorem pe_tup {x1} (h : PA X es t) : PE X (.Tuple es x1 pos) (tTup t) := by
 intro pins s σ H Q I hq
 refine wpAny_Tuple_spliced (thn (h pos pins s σ H _ I hq) fun us s1 ⟨xs, H1, I1, r, z, q⟩ => ⟨by rw [<- r.length]; exact z, ?_⟩)
 have hf : H1 s1.heap.objs.size = none := I1.hok.fresh (Nat.le_refl _)
 refine ⟨.ref s1.heap.objs.size, upd H1 s1.heap.objs.size (.tup xs), I1.laid (t' := s1.toks) (fun b u e => Heap.get?_push_of_some _ e) (Nat.le_refl _) ?_, rfl, q _ hf⟩
 exact ⟨z, us, r, ⟨_, Heap.get?_push_size _ rfl, rfl, _, rfl⟩⟩
theorem pe_lst (h : PA X es t) : PE X (.List es pos) (tLst t) := by
 intro pins s σ H Q I hq
 refine wpAny_List_spliced (thn (h pos pins s σ H _ I hq) fun us s1 ⟨xs, H1, I1, r, z, q⟩ => ⟨by rw [<- r.length]; exact z, ?_⟩)
 have hf : H1 s1.heap.objs.size = none := I1.hok.fresh (Nat.le_refl _)
 refine ⟨.ref s1.heap.objs.size, upd H1 s1.heap.objs.size (.lst xs), I1.laid (t' := s1.toks) (fun b u e => Heap.get?_push_of_some _ e) (Nat.le_refl _) ?_, rfl, q _ hf⟩
 exact ⟨z, us, 0, r, Heap.get?_push_size _ rfl⟩
end
abbrev Sp := List V -> Hp -> VK -> XK -> Prop
abbrev CXT := List Env -> Hp -> Shared -> XK -> Value -> Shared -> Prop
structure Env0 (P : Program) (w : World) (K : W.Frag) (mg : Str -> Option Value) (base : Heap) (A : Around) (outer : List Env) (s : Shared) (H : Hp) : Prop where
 frames : A.frames = some outer
 mod : Mod K mg base
 bs : ∀ b o, base.get? b = some o -> s.heap.get? b = some o /\ H b = none
 bsz : base.objs.size <= s.heap.objs.size
 funs : s.heap.FunFrames base outer
 frf : ∀ b ∈ frs outer, H b = none
 hok : HOk P w H s.heap
 bare : AllBare s.gens
def CE (outer : List Env) (P : Program) (w : World) (H : Hp) (s : Shared) (Q : VK) (u : Value) (s' : Shared) : Prop :=
 ∃ v H', s'.os = s.os /\ AllBare s'.gens /\ Un (frs outer) [] H H' s.heap s'.heap /\ HOk P w H' s'.heap /\ RelV v u /\ Q v H'
def CR (CX : CXT) (outer : List Env) (P : Program) (w : World) (H : Hp) (s : Shared) (Q : VK) (E : XK) (r : Result) (s' : Shared) : Prop :=
 match r with
 | .ok (.ret u) => CE outer P w H s Q u s'
 | .ok _ => False
 | .error e => CX outer H s E e s'
structure FnOk (P : Program) (w : World) (K : W.Frag) (mg : Str -> Option Value) (base : Heap) (CX : CXT) (k : Nat) (f : Addr) (fd : FuncData) (ps : List Str) (sp : Sp) : Prop where
 len : ∀ vs H Q E, sp vs H Q E -> vs.length = ps.length
 run : ∀ (A : Around) (outer : List Env) (s : Shared) (H : Hp) (args : Args) (us : List Value) (vs : List V) (Q : VK) (E : XK), Room k A -> Env0 P w K mg base A outer s H -> BindsTo s fd args (ps.zip us) -> Vals vs us -> sp vs H Q E ->
  codeAny (model P w) A (.call (.ref f) args) (CR CX outer P w H s Q E) s
theorem FnOk.imp {P : Program} {w : World} {K : W.Frag} {mg : Str -> Option Value} {base : Heap} {CX : CXT} {k : Nat} {f : Addr} {fd : FuncData} {ps : List Str} {sp sp' : Sp} (F : FnOk P w K mg base CX k f fd ps sp)
 (h : ∀ vs H Q E, sp' vs H Q E -> sp vs H Q E) : FnOk P w K mg base CX k f fd ps sp' :=
 ⟨fun vs H Q E q => F.len vs H Q E (h _ _ _ _ q), fun A outer s H args us vs Q E hr he hb hv hs => F.run A outer s H args us vs Q E hr he hb hv (h _ _ _ _ hs)⟩
theorem Env0.make {P : Program} {w : World} {K : W.Frag} {mg : Str -> Option Value} {base : Heap} {A : Around} {outer : List Env} {s : Shared} {H : Hp} (e : Env0 P w K mg base A outer s H) (C : Addr) (us : List Value) (kw : List (Str × Value)) :
 Env0 P w K mg base (A.under (.builtin "type.__call__" ⟨.ref C :: us, kw⟩)) outer s H := ⟨by first | exact e.frames | (simpa [Around.under, Code.envs, Code.isFrame, pushEnvs] using e.frames), e.mod, e.bs, e.bsz, e.funs, e.frf, e.hok, e.bare⟩
section
variable {X : Cx} {pins : List (Addr × Obj)} {σ : St} {H : Hp} {s s' : Shared}
theorem Inv.env0 (I : Inv X pins σ H s) : Env0 X.prog X.w X.K X.mg X.base X.A X.stack s H :=
 ⟨I.ok.frames, I.ok.mod, I.bs, Nat.le_trans I.ok.bsz I.sz, I.stack, I.stkFree, I.hok, I.bare⟩
theorem Inv.after {Q : VK} {u : Value} (I : Inv X pins σ H s) (h : CE X.stack X.prog X.w H s Q u s') : EP X pins σ Q u s' := by
 obtain ⟨v, H', os, bare, un, hok, r, q⟩ := h
 obtain ⟨hh, g, d, t, os'⟩ := s'
 obtain rfl : os' = s.os := os
 exact ⟨v, H', I.call (h' := hh) (g' := g) (d' := d) (t' := t) (ch := []) un hok bare (fun b z => absurd z (by simp)), r, q⟩
end
def tCall (sp : Sp) (dvs : List V) (E : XK) (t : TA) : TE := fun σ H Q => t σ H fun vs H1 => sp (vs ++ dvs) H1 Q E
def tMeth (C : Addr) (m : Str) (sp : Sp) (dvs : List V) (E : XK) (ta : TE) (t : TA) : TE := fun σ H Q => ta σ H fun x H1 => ∃ a dx fs, x = .ref a /\ H1 a = some (.ins C dx fs) /\ fs.lookup m = none /\
 t σ H1 fun vs H2 => sp (x :: (vs ++ dvs)) H2 Q E
def tMake (C : Addr) (sp : Sp) (dvs : List V) (E : XK) (t : TA) : TE := fun σ H Q => t σ H fun vs H1 => ∀ x dx, H1 x = none -> H1 dx = none -> dx ≠ x ->
 sp (.ref x :: (vs ++ dvs)) (upd (upd H1 dx (.own x)) x (.ins C dx [])) (fun v H2 => v = .non /\ Q (.ref x) H2) E
def Binds (K : W.Frag) (fd : FuncData) (ps : List Str) (ds : List Value) : Prop :=
 ∀ (s : Shared) (us : List Value), K.In s.heap -> (us ++ ds).length = ps.length -> BindsTo s fd ⟨us, []⟩ (ps.zip (us ++ ds))
theorem Binds.all {K : W.Frag} {fd : FuncData} {ps : List Str} (h : ∀ us : List Value, us.length = ps.length -> bindArgs fd ⟨us, []⟩ = pure (ps.zip us)) : Binds K fd ps [] := fun s us _ hl => by
 rw [List.append_nil] at hl ⊢
 exact .of_eq (h us hl)
def Passes (CX : CXT) (X : Cx) (E : XK) : Prop := ∀ (pins : List (Addr × Obj)) (σ : St) (H : Hp) (s : Shared) (e : Value) (s' : Shared), Inv X pins σ H s -> CX X.stack H s E e s' -> X.xe e s'
section
variable {X : Cx} {CX : CXT} {k : Nat} {f C : Addr} {fd : FuncData} {ps : List Str} {sp : Sp} {dvs : List V} {ds : List Value} {E : XK} {x m : Str} {p pos apos : Pos} {e o : Expr} {es : List Expr} {ta : TE} {t : TA}
theorem run_fn {pins : List (Addr × Obj)} {σ : St} {H : Hp} {s : Shared} {Q : VK} {us : List Value} {vs : List V} (F : FnOk X.prog X.w X.K X.mg X.base CX k f fd ps sp) (hr : Room k X.A) (hb : Binds X.K fd ps ds) (hd : Vals dvs ds) (hx : Passes CX X E)
 (I : Inv X pins σ H s) (r : Vals vs us) (h : sp (vs ++ dvs) H Q E) : wpAny (model X.prog X.w) X.A (call (.ref f) us) (EP X pins σ Q) X.xe s := by
 have r2 : Vals (vs ++ dvs) (us ++ ds) := r.append hd
 have hl : (us ++ ds).length = ps.length := by rw [<- r2.length]; exact F.len _ _ _ _ h
 refine wpAny_call (codeAny_mono (F.run X.A X.stack s H ⟨us, []⟩ (us ++ ds) (vs ++ dvs) Q E hr I.env0 (hb s us I.kIn hl) r2 h) fun r s' hq => ?_)
 cases r with
 | error e => exact hx pins σ H s e s' I hq
 | ok fl =>
   cases fl with
   | ret u => exact I.after hq
   | next => exact False.elim hq
   | brk => exact False.elim hq
   | cont => exact False.elim hq
theorem pe_call (F : FnOk X.prog X.w X.K X.mg X.base CX k f fd ps sp) (hr : Room k X.A) (hg : Gl X x) (hm : X.mg x = some (.ref f)) (hk : W.keepIn X.K (.ref f) = true) (hb : Binds X.K fd ps ds) (hd : Vals dvs ds) (hx : Passes CX X E)
 (ha : PA X (e :: es) t) (hdb : (x == ("__debug__" : Str)) = false := by decide) (he : starEach (e :: es) X.env = (false, eval e X.env) :: starEach es X.env := by rfl) (hpl : (backTo pos (starEach es X.env)).any (·.1) = false := by rfl) :
 PE X (.Call (.Name x p) (e :: es) [] pos) (tCall sp dvs E t) := by
 intro pins s σ H Q I h
 refine wpAny_Call_Name_kw (ld_glob I hg hm ?_ hdb)
 refine W.callWith_K (h₀ := X.base) I.ok.mod.kin hk (thn (ha pos pins s σ H _ I h) fun us s1 ⟨vs, H1, I1, r, q⟩ => ⟨I1.kIn, ?_⟩) he hpl
 exact run_fn F hr hb hd hx I1 r q
theorem pe_meth {pl : Sem Bool} (he : PE X o ta) (c : Cls X.K C) (hm : Meth X.K C m f) (F : FnOk X.prog X.w X.K X.mg X.base CX k f fd ps sp) (hr : Room k X.A) (hb : Binds X.K fd ps ds) (hd : Vals dvs ds) (hx : Passes CX X E) (ha : PA X (e :: es) t)
 (hst : starEach (e :: es) X.env = (false, eval e X.env) :: starEach es X.env := by rfl) (hpl : (backTo pos (starEach es X.env)).any (·.1) = false := by rfl)
 (ht : eval (.Call (.Attribute o m apos) (e :: es) [] pos) X.env = (do
  let ov <- eval o X.env
  standAt apos.atName
  let (f, first) <- holding [ov] (getMethod ov m pl)
  callWith pos f first (backTo pos (starEach (e :: es) X.env)) (backToKw pos (keywordEach [] X.env))) := by rfl) :
 PE X (.Call (.Attribute o m apos) (e :: es) [] pos) (tMeth C m sp dvs E ta t) := by
 intro pins s σ H Q I h
 refine W.methodCall_KW (pl := pl) (thn (he pins s σ H _ I h) fun u s1 ⟨x, H1, I1, rx, a, dx, fs, ex, ea, l, q⟩ => ?_) ht
 subst ex
 obtain rfl : u = Value.ref a := rx
 refine getmeth_ok I1 ea c hm l ?_
 refine W.callWith_K (first := [.ref a]) (h₀ := X.base) I.ok.mod.kin hm.kp (thn (ha pos pins s1 σ H1 _ I1 q) fun us s2 ⟨vs, H2, I2, r, q2⟩ => ⟨I2.kIn, ?_⟩) hst hpl
 exact run_fn (us := .ref a :: us) (vs := .ref a :: vs) F hr hb hd hx I2 (.cons rfl r) q2
structure Mk (K : W.Frag) (C f : Addr) : Prop where
 makes : W.makesIn K C = true
 init : W.findIn K (.ref C) "__init__" = some (some (.ref f))
 fn : W.isFn K (.ref f) = true
 kp : W.keepIn K (.ref C) = true
theorem run_make {pins : List (Addr × Obj)} {σ : St} {H : Hp} {s : Shared} {Q : VK} {us : List Value} {vs : List V} (M : Mk X.K C f) (F : FnOk X.prog X.w X.K X.mg X.base CX k f fd ps sp) (hr : Room (k + 1) X.A) (hb : Binds X.K fd ps ds) (hd : Vals dvs ds)
 (hx : Passes CX X E) (I : Inv X pins σ H s) (r : Vals vs us)
 (h : ∀ x dx, H x = none -> H dx = none -> dx ≠ x -> sp (.ref x :: (vs ++ dvs)) (upd (upd H dx (.own x)) x (.ins C dx [])) (fun v H2 => v = .non /\ Q (.ref x) H2) E) :
 wpAny (model X.prog X.w) X.A (call (.ref C) us) (EP X pins σ Q) X.xe s := by
 have hq := h (s.heap.objs.size + 1) s.heap.objs.size (I.hok.fresh (Nat.le_succ _)) (I.hok.fresh (Nat.le_refl _)) (Nat.ne_of_lt (Nat.lt_succ_self _))
 have I2 := Inv.made (C := C) I
 have r2 : Vals (V.ref (s.heap.objs.size + 1) :: (vs ++ dvs)) (Value.ref (s.heap.objs.size + 1) :: (us ++ ds)) := .cons rfl (r.append hd)
 have hl : (Value.ref (s.heap.objs.size + 1) :: us ++ ds).length = ps.length := by
  have e := r2.length
  rw [F.len _ _ _ _ hq] at e
  exact e.symm
 refine wpAny_call (make_map (f := f) I.kIn M.makes M.init (beq_iff_eq.mp M.fn) (codeAny_mono (F.run _ X.stack _ _ ⟨Value.ref (s.heap.objs.size + 1) :: us, []⟩ (Value.ref (s.heap.objs.size + 1) :: (us ++ ds)) _ _ E (hr.make C us [])
  (I2.env0.make C us []) (hb _ (Value.ref (s.heap.objs.size + 1) :: us) I2.kIn hl) r2 hq) fun r s' hq' => ?_))
 cases r with
 | error e => exact hx pins σ _ _ e s' I2 hq'
 | ok fl =>
   cases fl with
   | ret u =>
     obtain ⟨v, H', I3, rv, ev, q3⟩ := I2.after hq'
     subst ev
     exact ⟨rv, ⟨V.ref (s.heap.objs.size + 1), H', I3, rfl, q3⟩⟩
   | next => exact False.elim hq'
   | brk => exact False.elim hq'
   | cont => exact False.elim hq'
theorem pe_make (M : Mk X.K C f) (F : FnOk X.prog X.w X.K X.mg X.base CX k f fd ps sp) (hr : Room (k + 1) X.A) (hg : Gl X x) (hm : X.mg x = some (.ref C)) (hb : Binds X.K fd ps ds) (hd : Vals dvs ds) (hx : Passes CX X E)
 (ha : PA X (e :: es) t) (hdb : (x == ("__debug__" : Str)) = false := by decide) (he : starEach (e :: es) X.env = (false, eval e X.env) :: starEach es X.env := by rfl) (hpl : (backTo pos (starEach es X.env)).any (·.1) = false := by rfl) :
 PE X (.Call (.Name x p) (e :: es) [] pos) (tMake C sp dvs E t) := by
 intro pins s σ H Q I h
 refine wpAny_Call_Name_kw (ld_glob I hg hm ?_ hdb)
 refine W.callWith_K (h₀ := X.base) I.ok.mod.kin M.kp (thn (ha pos pins s σ H _ I h) fun us s1 ⟨vs, H1, I1, r, q⟩ => ⟨I1.kIn, ?_⟩) he hpl
 exact run_make M F hr hb hd hx I1 r q
theorem pe_make0 (M : Mk X.K C f) (F : FnOk X.prog X.w X.K X.mg X.base CX k f fd ps sp) (hr : Room (k + 1) X.A) (hg : Gl X x) (hm : X.mg x = some (.ref C)) (hb : Binds X.K fd ps ds) (hd : Vals dvs ds) (hx : Passes CX X E)
 (hdb : (x == ("__debug__" : Str)) = false := by decide) : PE X (.Call (.Name x p) [] [] pos) (tMake C sp dvs E tNil) := by
 intro pins s σ H Q I h
 refine wpAny_Call_Name_kw (ld_glob I hg hm ?_ hdb)
 exact W.callWith_K0 I.kIn M.kp (run_make (us := []) M F hr hb hd hx I .nil h)
end
section
variable {X : Cx} {CX : CXT} {k : Nat} {f C : Addr} {fd : FuncData} {ps ks : List Str} {sp : Sp} {E : XK} {x m : Str} {p pos apos kpos : Pos} {e o : Expr} {es : List Expr} {kws : List Keyword} {te ta : TE} {t tk : TA} {nm : Option Str}
variable {g : List Value -> List Value -> List Value} {gV : List V -> List V -> List V}
end
structure FnScope (N P : List Str) (sc : Scope) : Prop where
 kind : sc.kind = .function
 co : sc.isCoroutine = false
 gen : sc.isGenerator = false
 nd : N.Nodup
 pre : N.take P.length = P
 par : ∀ x ∈ P, sc.names.lookup x = some .local \/ sc.names.lookup x = some .cell
 nofree : ∀ y ∈ sc.names, y.2 ≠ .free
theorem bindL_out {kindOf : Str -> Option NameKind} {x : Str} : ∀ {binds : List (Str × Value)} {m : Str -> Option Value}, (∀ v, (x, v) ∉ binds) -> bindL kindOf binds m x = m x
 | [], _, _ => rfl
 | (n, v) :: r, m, h => by
   unfold bindL
   rw [bindL_out fun w hw => h w (List.mem_cons_of_mem _ hw)]
   split
   . have : x ≠ n := by rintro rfl; exact h v List.mem_cons_self
     simp [this]
   . rfl
theorem bindC_out {kindOf : Str -> Option NameKind} {x : Str} : ∀ {binds : List (Str × Value)} {m : Str -> Option Value}, (∀ v, (x, v) ∉ binds) -> bindC kindOf binds m x = m x
 | [], _, _ => rfl
 | (n, v) :: r, m, h => by
   unfold bindC
   rw [bindC_out fun w hw => h w (List.mem_cons_of_mem _ hw)]
   split
   . rfl
   . have : x ≠ n := by rintro rfl; exact h v List.mem_cons_self
     simp [this]
theorem bindL_get {kindOf : Str -> Option NameKind} {x : Str} {v : Value} : ∀ {P : List Str} {vs : List Value} {i : Nat} {m : Str -> Option Value}, P.Nodup -> P[i]? = some x -> vs[i]? = some v -> kindOf x = some .local ->
 bindL kindOf (P.zip vs) m x = some v
 | [], _, _, _, _, h, _, _ => by simp at h
 | _ :: _, [], _, _, _, _, h, _ => by simp at h
 | p :: P, w :: vs, 0, m, nd, h1, h2, hk => by
   simp at h1 h2; subst h1; subst h2
   show bindL kindOf ((p, w) :: P.zip vs) m p = _
   unfold bindL
   rw [bindL_out fun v hv => (List.nodup_cons.mp nd).1 (List.of_mem_zip hv).1, if_pos hk]
   simp
 | p :: P, w :: vs, i + 1, m, nd, h1, h2, hk => by
   show bindL kindOf ((p, w) :: P.zip vs) m x = _
   unfold bindL
   exact bindL_get (i := i) (List.nodup_cons.mp nd).2 (by simpa using h1) (by simpa using h2) hk
theorem bindC_get {kindOf : Str -> Option NameKind} {x : Str} {v : Value} : ∀ {P : List Str} {vs : List Value} {i : Nat} {m : Str -> Option Value}, P.Nodup -> P[i]? = some x -> vs[i]? = some v -> kindOf x ≠ some .local ->
 bindC kindOf (P.zip vs) m x = some v
 | [], _, _, _, _, h, _, _ => by simp at h
 | _ :: _, [], _, _, _, _, h, _ => by simp at h
 | p :: P, w :: vs, 0, m, nd, h1, h2, hk => by
   simp at h1 h2; subst h1; subst h2
   show bindC kindOf ((p, w) :: P.zip vs) m p = _
   unfold bindC
   rw [bindC_out fun v hv => (List.nodup_cons.mp nd).1 (List.of_mem_zip hv).1, if_neg hk]
   simp
 | p :: P, w :: vs, i + 1, m, nd, h1, h2, hk => by
   show bindC kindOf ((p, w) :: P.zip vs) m x = _
   unfold bindC
   exact bindC_get (i := i) (List.nodup_cons.mp nd).2 (by simpa using h1) (by simpa using h2) hk
def start (N : List Str) (vs : List V) : St := vs.map some ++ List.replicate (N.length - vs.length) none
def cxOf (CX : CXT) (P : Program) (w : World) (K : W.Frag) (mg : Str -> Option Value) (base : Heap) (N : List Str) (qual : Str) (scope : Scope) (f : Addr) (cd : Value) (A : Around) (outer : List Env) (s : Shared) (H : Hp) (E : XK) : Cx where
 prog := P
 w := w
 K := K
 mg := mg
 base := base
 A := A.deeper (envOfC qual scope s.heap.objs.size f cd)
 N := N
 s₀ := s
 H₀ := H
 env := envOfC qual scope s.heap.objs.size f cd
 outer := outer
 stack := envOfC qual scope s.heap.objs.size f cd :: outer
 ex := []
 calm := true
 fn := fun _ => true
 pn := []
 xe := fun e s' => wpAny (model P w) (A.deeper (envOfC qual scope s.heap.objs.size f cd)) (leaving (envOfC qual scope s.heap.objs.size f cd) e) (fun _ s'' => CX outer H s E e s'') (fun e' s'' => CX outer H s E e' s'') s'
theorem cell_has {sc : Scope} {n : Nat} {x : Str} (h : sc.names.lookup x = some .cell) : ∃ c, (cellsFrom n sc.names []).lookup x = some c := by
 have q := W.cellsFrom_some sc.names n [] (.inl h)
 exact Option.isSome_iff_exists.mp q
theorem inv_start {CX : CXT} {P : Program} {w : World} {K : W.Frag} {mg : Str -> Option Value} {base : Heap} {N ps : List Str} {qual : Str} {scope : Scope} {f : Addr} {cd : Value} {A : Around} {outer : List Env} {s s1 : Shared} {H : Hp} {E : XK} {us : List Value} {vs : List V}
 (S : FnScope N ps scope) (hd : A.handled = none) (e0 : Env0 P w K mg base A outer s H) (hl : vs.length = ps.length) (r : Vals vs us)
 (x : InCallC s s.heap.objs.size (bindL (envOfC qual scope s.heap.objs.size f cd).kindOf (ps.zip us) fun _ => none) (cellsFrom (s.heap.objs.size + 1) scope.names []) (bindC (envOfC qual scope s.heap.objs.size f cd).kindOf (ps.zip us) fun _ => none) s1) :
 Inv (cxOf CX P w K mg base N qual scope f cd A outer s H E) [] (start N vs) H s1 := by
 have hpl : ps.length <= N.length := by have := congrArg List.length S.pre; rw [List.length_take] at this; omega
 obtain ⟨h1, tk, rfl, hk⟩ := x.done
 have noA : ∀ b : Addr, b ∉ (cxOf CX P w K mg base N qual scope f cd A outer s H E).ex := fun b z => absurd (show b ∈ ([] : List Addr) from z) (by simp)
 refine ⟨⟨e0.mod, S.kind, rfl, rfl, Nat.le_refl _, fun y z c h1 h2 => ?_, fun y hy => ?_, fun y c _ h => ?_, fun _ => hd, Around.frames_deeper e0.frames, .inr ⟨rfl, rfl⟩, fun b z => absurd z (noA b), e0.bs, e0.bsz, fun b _ _ => noA b, fun b z => absurd z (noA b), e0.funs, e0.frf⟩,
  rfl, e0.bare, Un.kept hk, ⟨_, x.toInCall.ns, fun i y v h1 h2 h3 => ?_⟩, fun y c h => ⟨_, x.cell y c h⟩, e0.hok.fresh (Nat.le_refl _), fun y c h => ?_, fun p hp => absurd (show p ∈ ([] : List (Addr × Obj)) from hp) (by simp), e0.hok.kept hk, ?_⟩
 . exact name_of_addr x.apart (PySem.mem_of_lookup h1) (PySem.mem_of_lookup h2)
 . have hy : scope.names.lookup y = some .cell \/ scope.names.lookup y = some .free := hy
   rcases hy with hy | hy
   . exact cell_has hy
   . exact absurd rfl (S.nofree _ (PySem.mem_of_lookup hy))
 . exact Nat.le_of_lt (x.above y c (PySem.mem_of_lookup h))
 . have hi : i < vs.length := by
    unfold start at h2
    by_cases hi : i < vs.length
    . exact hi
    . rw [List.getElem?_append_right (by simpa using hi)] at h2
      rw [List.getElem?_replicate] at h2
      split at h2 <;> cases h2
   have ha : vs[i]? = some v := by
    unfold start at h2
    rw [List.getElem?_append_left (by simpa using hi), List.getElem?_map] at h2
    cases e : vs[i]? with
    | none => rw [e] at h2; cases h2
    | some a => rw [e] at h2; cases h2; rfl
   obtain ⟨u, hu, rv⟩ := r.get ha
   have hp : ps[i]? = some y := by
    rw [<- S.pre, List.getElem?_take_of_lt (by omega)]; exact h1
   have ndP : ps.Nodup := by rw [<- S.pre]; exact S.nd.sublist (List.take_sublist _ _)
   refine ⟨u, rv, ?_⟩
   rcases S.par y (List.mem_of_getElem? hp) with k | k
   . exact .inl ⟨k, bindL_get ndP hp hu k⟩
   . obtain ⟨c, e⟩ := cell_has (n := s.heap.objs.size + 1) k
     refine .inr ⟨.inl k, c, e, ?_⟩
     have q := x.cell y c e
     rw [bindC_get ndP hp hu (by show scope.names.lookup y ≠ _; rw [k]; decide)] at q
     exact q
 . exact e0.hok.fresh (Nat.le_of_lt (x.above y c (PySem.mem_of_lookup h)))
 . unfold start
   show _ = N.length
   rw [List.length_append, List.length_map, List.length_replicate]
   omega
theorem fn_of {CX : CXT} {P : Program} {w : World} {K : W.Frag} {mg : Str -> Option Value} {base : Heap} {k : Nat} {f : Addr} {name qual : Str} {params : Arguments} {body : List Stmt} {scope : Scope} {dV kV doc pm cdv ct oc : Value} {an od : Option Addr}
 {osl : Array (Option Value)} {N ps : List Str} {sp : Sp} (lk : K.lookup f = some ⟨oc, od, .func (W.fnOf name qual params body scope dV kV doc pm an cdv ct), osl⟩) (hcd : W.codeIn K cdv qual = true) (S : FnScope N ps scope)
 (len : ∀ vs H Q E, sp vs H Q E -> vs.length = ps.length)
 (hbody : ∀ (A : Around) (outer : List Env) (s : Shared) (H : Hp) (vs : List V) (Q : VK) (E : XK), Room k (A.deeper (envOfC qual scope s.heap.objs.size f cdv)) -> sp vs H Q E ->
  ∃ t, PSs (cxOf CX P w K mg base N qual scope f cdv A outer s H E) body t /\ t { nx := fun _ H' => Q .non H', rt := Q } (start N vs) H) :
 FnOk P w K mg base CX (k + 1) f (W.fnOf name qual params body scope dV kV doc pm an cdv ct) ps sp := by
 refine ⟨len, fun A outer s H args us vs Q E hr e0 hb r hsp => ?_⟩
 have hl := len _ _ _ _ hsp
 have KX : K.In s.heap := e0.mod.kin.keeps fun b o e => (e0.bs b o e).1
 have lim : s.heap.NoLimit := e0.mod.nolimit.keeps fun b o e => (e0.bs b o e).1
 have hkind : ∀ y ∈ ps.zip us, scope.names.lookup y.1 = some .local \/ (scope.names.lookup y.1 = some .cell /\ ((cellsFrom (s.heap.objs.size + 1) scope.names []).lookup y.1).isSome = true) := fun ⟨n, v⟩ hy => by
  rcases S.par n (List.of_mem_zip hy).1 with q | q
  . exact .inl q
  . exact .inr ⟨q, W.cellsFrom_some _ _ _ (.inl q)⟩
 refine codeAny_call_function hr.depth (KX _ _ lk) rfl S.co S.gen rfl (W.codeRec_of KX hcd) (hb _ _ _ _ ?_)
 refine wpAny_newFunctionEnv_cells S.kind hkind fun env he s1 x => ?_
 subst he
 refine ⟨lim.keeps x.toInCall.keep, codeAny_func ?_⟩
 obtain ⟨t, ht, hq⟩ := hbody A outer s H vs Q E (hr.deeper _) hsp
 have I : Inv (cxOf CX P w K mg base N qual scope f cdv A outer s H E) [] (start N vs) H s1 := inv_start S hr.hd e0 hl r x
 refine wpAny_mono (ht [] s1 (start N vs) H _ I hq) (fun fl s' hs => ?_) fun e s' hs => hs
 have fin : ∀ {σ' : St} {H' : Hp} {v : V} {u : Value}, Inv (cxOf CX P w K mg base N qual scope f cdv A outer s H E) [] σ' H' s' -> RelV v u -> Q v H' -> CE outer P w H s Q u s' :=
  fun {σ' H' v u} J rv q => ⟨v, H', J.os, J.bare, J.base, J.hok, rv, q⟩
 cases fl with
 | ret u =>
   obtain ⟨v, σ', H', J, rv, q⟩ := hs
   exact fin J rv q
 | next =>
   obtain ⟨σ', H', J, q⟩ := hs
   exact fin (v := V.non) (u := Value.none) J rfl q
 | brk =>
   obtain ⟨_, _, _, q⟩ := hs
   exact False.elim q
 | cont =>
   obtain ⟨_, _, _, q⟩ := hs
   exact False.elim q
end L2
namespace L2
open PySem PySem.Spec PyProof.Rows
section
variable {X : Cx} {x : Str} {p pos : Pos} {e : Expr} {es : List Expr} {t : TA} {id T : String} {r : List V -> Hp -> VK -> Prop}
def tCB (r : List V -> Hp -> VK -> Prop) (t : TA) : TE := fun σ H Q => t σ H fun vs H1 => r vs H1 Q
theorem pe_callB (hc : CallR X (.builtin id) r) (hg : Gl X x) (hm : X.mg x = none) (hv : bootBuiltins x = some (.builtin id)) (ha : PA X (e :: es) t) (hn : x ≠ "__name__" := by decide) (hdb : (x == ("__debug__" : Str)) = false := by decide)
 (he : starEach (e :: es) X.env = (false, eval e X.env) :: starEach es X.env := by rfl) (hpl : (backTo pos (starEach es X.env)).any (·.1) = false := by rfl) : PE X (.Call (.Name x p) (e :: es) [] pos) (tCB r t) := by
 intro pins s σ H Q I h
 refine wpAny_Call_Name_kw (ld_blt I hg hm hv ?_ hn hdb)
 exact PyProof.Rows.callWith_builtin1 (thn (ha pos pins s σ H _ I h) fun us s1 ⟨vs, H1, I1, r1, q1⟩ => hc pins s1 σ H1 vs us Q I1 r1 q1) he hpl
theorem pe_callTy (hc : CallR X (.type T) r) (hg : Gl X x) (hm : X.mg x = none) (hv : bootBuiltins x = some (.type T)) (ha : PA X (e :: es) t) (hn : x ≠ "__name__" := by decide) (hdb : (x == ("__debug__" : Str)) = false := by decide)
 (he : starEach (e :: es) X.env = (false, eval e X.env) :: starEach es X.env := by rfl) (hpl : (backTo pos (starEach es X.env)).any (·.1) = false := by rfl) : PE X (.Call (.Name x p) (e :: es) [] pos) (tCB r t) := by
 intro pins s σ H Q I h
 refine wpAny_Call_Name_kw (ld_blt I hg hm hv ?_ hn hdb)
 exact PyProof.Rows.callWith_type1 (thn (ha pos pins s σ H _ I h) fun us s1 ⟨vs, H1, I1, r1, q1⟩ => hc pins s1 σ H1 vs us Q I1 r1 q1) he hpl
end
end L2
namespace HT
open PySem PyProof.Rows
def lexLt : List Int -> List Int -> Bool
 | [], [] => false
 | [], _ :: _ => true
 | _ :: _, [] => false
 | x :: xs, y :: ys => if x = y then lexLt xs ys else decide (x < y)
theorem lexLt_cons (x y : Int) (xs ys : List Int) : lexLt (x :: xs) (y :: ys) = if x = y then lexLt xs ys else decide (x < y) := rfl
theorem lexLt_nil_nil : lexLt [] [] = false := rfl
theorem lexLt_nil_cons (y : Int) (ys : List Int) : lexLt [] (y :: ys) = true := rfl
theorem lexLt_cons_nil (x : Int) (xs : List Int) : lexLt (x :: xs) [] = false := rfl
section
open PySem.SeqAt
open PySem.AutoSeq1 (wpAny_loadPart')
open PySem.MeetsSeq PySem.MeetsSeq2 PySem.MeetsSeq3
end
section
variable {prog : Program} {w : World} {A : Around} {E : Value -> Shared -> Prop} {s : Shared}
def sIx (n d : Nat) : Option Int -> Nat
 | none => d
 | some v => if v < 0 then (v + (n : Int)).toNat else min v.toNat n
theorem sIx_none (n d : Nat) : sIx n d none = d := rfl
theorem sIx_le (n d : Nat) (hd : d <= n) (o : Option Int) : sIx n d o <= n := by
 cases o with
 | none => exact hd
 | some v =>
   show (if v < 0 then (v + (n : Int)).toNat else min v.toNat n) <= n
   by_cases hv : v < 0
   . rw [if_pos hv]; omega
   . rw [if_neg hv]; exact Nat.min_le_right _ _
theorem clip_eq (v : Int) (n d : Nat) : (if v < 0 then max (v + (n : Int)) 0 else min v (n : Int)) = ((sIx n d (some v) : Nat) : Int) := by
 show (if v < 0 then max (v + (n : Int)) 0 else min v (n : Int)) = (((if v < 0 then (v + (n : Int)).toNat else min v.toNat n) : Nat) : Int)
 by_cases hv : v < 0
 . simp only [if_pos hv]; omega
 . simp only [if_neg hv]; omega
theorem adjust_gen (lo hi : Option Int) (n : Nat) : Builtin.Slice.sliceAdjust lo hi 1 (n : Int) = (((sIx n 0 lo : Nat) : Int), ((sIx n n hi : Nat) : Int)) := by
 have h1 : ¬ ((1 : Int) < 0) := by omega
 unfold Builtin.Slice.sliceAdjust
 simp only [h1, if_false]
 refine Prod.ext ?_ ?_
 . cases lo with
   | none => rfl
   | some v => exact clip_eq v n 0
 . cases hi with
   | none => rfl
   | some v => exact clip_eq v n n
theorem places_gen (i j : Nat) : Builtin.Slice.slicePlaces (i : Int) (j : Int) 1 = j - i := by
 unfold Builtin.Slice.slicePlaces
 have h1 : (1 : Int) > 0 := by omega
 simp only [h1, if_true, Int.ediv_one]
 split <;> omega
theorem slicePart_ {v : Value} {o : Option Int} {Q : Option Int -> Shared -> Prop} (p : IsPart v o) (h : Q o s) : wpAny (model prog w) A (Builtin.Slice.slicePartIndex v) Q E s := by
 cases p with
 | none => exact slicePart_none h
 | int i t => exact slicePart_int h
theorem sliceApplied_gen {sl : Addr} {vl vu : Value} {lo hi : Option Int} {n : Nat} {Q : Int × Int × Nat -> Shared -> Prop} (hs : s.heap.IsSliceOf sl vl vu .none) (pl : IsPart vl lo) (pu : IsPart vu hi)
 (h : Q (((sIx n 0 lo : Nat) : Int), 1, sIx n n hi - sIx n 0 lo) s) : wpAny (model prog w) A (Builtin.Slice.sliceApplied (.ref sl) (pure (n : Int))) Q E s := by
 obtain ⟨os, hos, hcs, hds⟩ := id hs
 unfold Builtin.Slice.sliceApplied Builtin.Slice.sliceFields
 refine wpAny_bind (wpAny_bind (wpAny_field hos hds (x := vl) rfl (wpAny_bind (wpAny_field hos hds (x := vu) rfl (wpAny_bind (wpAny_field hos hds (x := .none) rfl (wpAny_pure ?_)))))))
 refine wpAny_bind (slicePart_none ?_)
 show wpAny _ _ (if ((1 : Int) == 0) = true then _ else _) _ _ s
 rw [if_neg (by decide)]
 refine wpAny_bind (slicePart_ pl (wpAny_bind (slicePart_ pu (wpAny_bind (wpAny_pure ?_)))))
 show wpAny _ _ (match Builtin.Slice.sliceAdjust lo hi 1 (n : Int) with | (lo, hi) => pure (lo, (1 : Int), Builtin.Slice.slicePlaces lo hi 1)) _ _ s
 rw [adjust_gen lo hi n]
 show wpAny _ _ (pure (((sIx n 0 lo : Nat) : Int), (1 : Int), Builtin.Slice.slicePlaces ((sIx n 0 lo : Nat) : Int) ((sIx n n hi : Nat) : Int) 1)) _ _ s
 rw [places_gen]
 exact wpAny_pure h
theorem pick_gen (xs : Array Value) (i k : Nat) : ((List.range k).filterMap fun (m : Nat) => xs[((i : Int) + (m : Int) * 1).toNat]?).toArray = ((xs.toList.drop i).take k).toArray := by
 have e : (fun (m : Nat) => xs[((i : Int) + (m : Int) * 1).toNat]?) = fun m => xs[i + m]? := by
  funext m
  have : ((i : Int) + (m : Int) * 1).toNat = i + m := by omega
  rw [this]
 rw [e]
 have := pick_run xs i k
 rw [List.filterMap_map] at this
 have e2 : ((fun x => xs[x]?) ∘ fun x => i + x) = fun m => xs[i + m]? := rfl
 rw [e2] at this
 rw [this]
theorem getItem_tuple_cut {t sl : Addr} {items : Array Value} {vl vu : Value} {lo hi : Option Int} {Q : Value -> Shared -> Prop} (ht : IsTup s.heap t items) (hs : s.heap.IsSliceOf sl vl vu .none) (pl : IsPart vl lo) (pu : IsPart vu hi)
 (hw : ¬ (sIx items.size 0 lo = 0 /\ sIx items.size items.size hi = items.size))
 (h : Q (.ref s.heap.objs.size) { s with heap := s.heap.push { cls := .type "tuple", data := .seq ((items.toList.drop (sIx items.size 0 lo)).take (sIx items.size items.size hi - sIx items.size 0 lo)).toArray } })
 (hsz : items.size <= sizeLine) : wpAny (model prog w) A (getItem (.ref t) (.ref sl)) Q E s := by
 have htake : sizeOk (.seq ((items.toList.drop (sIx items.size 0 lo)).take (sIx items.size items.size hi - sIx items.size 0 lo)).toArray) := by
  show ((items.toList.drop (sIx items.size 0 lo)).take (sIx items.size items.size hi - sIx items.size 0 lo)).toArray.size <= sizeLine
  rw [List.size_toArray, List.length_take, List.length_drop, Array.length_toList]
  omega
 have hj : sIx items.size items.size hi <= items.size := sIx_le _ _ (Nat.le_refl _) hi
 obtain ⟨os, hos, hcs, hds⟩ := id hs
 have hTs : s.TypeIs (.ref sl) "slice" := ⟨os, hos, hcs⟩
 unfold getItem
 try with_reducible refine wpAny_holding ?_
 first | refine wpAny_bind (wpAny_pure ?_) | skip
 refine wpAny_bind (wpAny_sequenceKey ht.typeIs (by decide) ?_)
 refine wpAny_bind (wpAny_callSpecial?_slot (name := Str.ofString "__getitem__") ht.typeIs PyProof.Rows.slot_tuple_getitem
  (wpAny_call_entry PyProof.Rows.slot_tuple_getitem ht.typeIs entry_tuple_getitem ?_ (args_tuple_getitem _ _)))
 show wpAny _ _ (Builtin.Tuple.tupleItemsOf (.ref t) >>= _) _ _ s
 refine wpAny_bind (tupleItemsOf_ ht ?_)
 refine wpAny_bind (wpAny_typeOf hTs ?_)
 rw [if_pos (by decide)]
 refine wpAny_bind (sliceApplied_gen hs pl pu ?_)
 have hno : ¬ ((((sIx items.size 0 lo : Nat) : Int) == 0 && (1 : Int) == 1 && (sIx items.size items.size hi - sIx items.size 0 lo) == items.size) = true) := by
  intro q
  rw [Bool.and_eq_true, Bool.and_eq_true] at q
  have q1 : ((sIx items.size 0 lo : Nat) : Int) = 0 := eq_of_beq q.1.1
  have q2 : sIx items.size items.size hi - sIx items.size 0 lo = items.size := eq_of_beq q.2
  exact hw ⟨by omega, by omega⟩
 show wpAny _ _ (if (((sIx items.size 0 lo : Nat) : Int) == 0 && (1 : Int) == 1 && (sIx items.size items.size hi - sIx items.size 0 lo) == items.size) = true then _ else _) _ _ s
 rw [if_neg hno, pick_gen]
 first
  | exact wpAny_bind (m := Builtin.Tuple.tupleExact _) (wpAny_newObj_type (wpAny_pure ⟨_, rfl, wpAny_pure h⟩) htake)
  | exact wpAny_bind (m := Builtin.Tuple.tupleExact _) (wpAny_newObj_type (wpAny_bind (wpAny_pure (wpAny_pure ⟨_, rfl, wpAny_pure h⟩))) htake)
  | exact wpAny_bind (wpAny_bind (m := Builtin.Tuple.tupleExact _) (wpAny_newObj_type (wpAny_pure (wpAny_pure ⟨_, rfl, wpAny_pure h⟩)) htake))
  | exact wpAny_bind (wpAny_bind (m := Builtin.Tuple.tupleExact _) (wpAny_newObj_type (wpAny_pure ⟨_, rfl, wpAny_pure h⟩) htake))
end
end HT
namespace L2
open PySem PySem.Spec PyProof.Rows
abbrev TO := St -> Hp -> (Option Int -> Hp -> Prop) -> Prop
def PO (X : Cx) (e : Option Expr) (t : TO) : Prop :=
 ∀ (pins : List (Addr × Obj)) (s : Shared) (σ : St) (H : Hp) (Q : Option Int -> Hp -> Prop), Inv X pins σ H s -> t σ H Q ->
   wpAny (model X.prog X.w) X.A (evalPart e X.env) (fun u s' => ∃ o H', Inv X pins σ H' s' /\ IsPart u o /\ Q o H') X.xe s
def tNoPart : TO := fun _ H Q => Q none H
def tPart (t : TE) : TO := fun σ H Q => t σ H fun x H1 => ∃ i, x = .int i /\ Q (some i) H1
theorem intsAre_of {ns : List Int} : ∀ {us : List Value}, Vals (ns.map V.int) us -> IntsAre us ns := by
 induction ns with
 | nil => intro us r; rw [List.map_nil] at r; cases r; exact .nil
 | cons n ns ih =>
   intro us r
   rw [List.map_cons] at r
   cases r with
   | cons r1 r2 =>
     obtain ⟨t, e⟩ := r1
     subst e
     exact .cons n t (ih r2)
section
variable {X : Cx} {e : Expr} {te : TE} {lo hi : Option Expr} {tl th : TO} {pos p2 : Pos}
theorem po_none : PO X none tNoPart := by
 intro pins s σ H Q I h
 rw [evalPart_none]
 exact wpAny_pure ⟨none, H, I, .none, h⟩
theorem po_some (h : PE X e te) : PO X (some e) (tPart te) := by
 intro pins s σ H Q I hw
 rw [evalPart_some]
 refine thn (h pins s σ H _ I hw) fun u s1 ⟨x, H1, I1, r1, q1⟩ => ?_
 obtain ⟨i, rfl, q⟩ := q1
 obtain ⟨t, rfl⟩ := r1
 exact ⟨some i, H1, I1, .int i t, q⟩
def SlR (X : Cx) (r : V -> Option Int -> Option Int -> Hp -> VK -> Prop) : Prop :=
 ∀ (pins : List (Addr × Obj)) (s : Shared) (σ : St) (H : Hp) (x : V) (v vl vu : Value) (lo hi : Option Int) (sl : Addr) (Q : VK), Inv X pins σ H s -> RelV x v -> s.heap.IsSliceOf sl vl vu .none -> IsPart vl lo -> IsPart vu hi -> r x lo hi H Q ->
   ∃ T id, typeLookup (.type T) "__getitem__" = pure (some (.builtin id)) /\ s.TypeIs v T /\ wpAny (model X.prog X.w) X.A (getItem v (.ref sl)) (EP X pins σ Q) X.xe s
theorem SlR.or {r r' : V -> Option Int -> Option Int -> Hp -> VK -> Prop} (h : SlR X r) (h' : SlR X r') : SlR X (fun x lo hi H Q => r x lo hi H Q \/ r' x lo hi H Q) := by
 intro pins s σ H x v vl vu lo hi sl Q I rx hs pl pu q
 rcases q with q | q
 . exact h pins s σ H x v vl vu lo hi sl Q I rx hs pl pu q
 . exact h' pins s σ H x v vl vu lo hi sl Q I rx hs pl pu q
def tSl (r : V -> Option Int -> Option Int -> Hp -> VK -> Prop) (te : TE) (tl th : TO) : TE := fun σ H Q => te σ H fun x H1 => tl σ H1 fun l H2 => th σ H2 fun u H3 => r x l u H3 Q
theorem pe_slice {r : V -> Option Int -> Option Int -> Hp -> VK -> Prop} (hr : SlR X r) (he : PE X e te) (hl : PO X lo tl) (hu : PO X hi th) : PE X (.Subscript e (.Slice lo hi none p2) pos) (tSl r te tl th) := by
 intro pins s σ H Q I h
 refine Subscript_ (thn (he pins s σ H _ I h) fun v s1 ⟨x, H1, I1, r1, q1⟩ => ?_)
 refine wpAny_Slice (thn (hl pins s1 σ H1 _ I1 q1) fun vl s2 ⟨l, H2, I2, pl, q2⟩ => thn (hu pins s2 σ H2 _ I2 q2) fun vu s3 ⟨u, H3, I3, pu, q3⟩ => ?_)
 rw [evalPart_none]
 refine wpAny_pure ?_
 have I4 : Inv X pins σ H3 { s3 with heap := s3.heap.push { cls := .type "slice", data := .fields #[vl, vu, .none] } } := I3.kept (t' := s3.toks) fun b ob q => Heap.get?_push_of_some _ q
 obtain ⟨T, id, hT, ht, hg⟩ := hr pins { s3 with heap := s3.heap.push { cls := .type "slice", data := .fields #[vl, vu, .none] } } σ H3 x v vl vu l u s3.heap.objs.size Q I4 r1 (Heap.IsSliceOf.new ..) pl pu q3
 show wpAny (model X.prog X.w) X.A (subscriptTail e (.Slice lo hi none p2) v (.ref s3.heap.objs.size)) (EP X pins σ Q) X.xe { s3 with heap := s3.heap.push { cls := .type "slice", data := .fields #[vl, vu, .none] } }
 exact tail_any (ops := [.ref s3.heap.objs.size, v]) ht hT hg (by with_unfolding_all rfl)
def cutV (xs : List V) (lo hi : Option Int) : List V := (xs.drop (HT.sIx xs.length 0 lo)).take (HT.sIx xs.length xs.length hi - HT.sIx xs.length 0 lo)
theorem cutV_length (xs : List V) (lo hi : Option Int) : (cutV xs lo hi).length <= xs.length := by
 unfold cutV
 rw [List.length_take, List.length_drop]
 omega
def rSlT (K : W.Frag) : V -> Option Int -> Option Int -> Hp -> VK -> Prop := fun x lo hi H Q => ∃ a xs, x = .ref a /\ SqT K H a xs /\
 ¬ (HT.sIx xs.length 0 lo = 0 /\ HT.sIx xs.length xs.length hi = xs.length) /\ ∀ p, H p = none -> Q (.ref p) (upd H p (.tup (cutV xs lo hi)))
theorem sl_tup : SlR X (rSlT X.K) := by
 intro pins s σ H x v vl vu lo hi sl Q I rx hs pl pu h
 obtain ⟨a, xs, rfl, hx, hw, q⟩ := h
 cases rx
 obtain ⟨its, r, ht, hz⟩ := I.tuple hx
 have hlen : its.toArray.size = xs.length := by rw [List.size_toArray]; exact r.length.symm
 refine ⟨"tuple", _, PyProof.Rows.slot_tuple_getitem.lookup, ht.typeIs, ?_⟩
 refine HT.getItem_tuple_cut ht hs pl pu (by rw [hlen]; exact hw) ?_ (by rw [hlen]; exact hz)
 rw [hlen]
 refine ⟨.ref s.heap.objs.size, _, I.laid (t' := s.toks) (o := .tup (cutV xs lo hi)) (fun b ob q => Heap.get?_push_of_some _ q) (Nat.le_refl _) ?_, rfl, q _ (I.hok.fresh (Nat.le_refl _))⟩
 exact ⟨Nat.le_trans (cutV_length xs lo hi) hz, _, (r.drop (HT.sIx xs.length 0 lo)).take (HT.sIx xs.length xs.length hi - HT.sIx xs.length 0 lo), IsTup.new _ _⟩
end
end L2
namespace L2
open PySem PySem.Spec PyProof.Rows
def ixN (n : Nat) (i : Int) : Option Nat := if 0 <= i then (if i < n then some i.toNat else none) else if -(n : Int) <= i then some (i + n).toNat else none
def atI {α : Type} (xs : List α) (i : Int) : Option α := (ixN xs.length i).bind fun j => xs[j]?
theorem ixN_seq {n : Nat} {i : Int} {j : Nat} (h : ixN n i = some j) : seqIndex? i n = some j /\ j < n /\ -(n : Int) <= i /\ i < n := by
 unfold ixN at h
 by_cases h0 : 0 <= i
 . rw [if_pos h0] at h
   by_cases h1 : i < n
   . rw [if_pos h1] at h
     have e : i.toNat = j := Option.some.inj h
     exact ⟨by rw [seqIndex_of h0 h1, e], by omega, by omega, h1⟩
   . rw [if_neg h1] at h; cases h
 . rw [if_neg h0] at h
   by_cases h1 : -(n : Int) <= i
   . rw [if_pos h1] at h
     have e : (i + n).toNat = j := Option.some.inj h
     exact ⟨by rw [seqIndex_neg (by omega) h1, e], by omega, h1, by omega⟩
   . rw [if_neg h1] at h; cases h
theorem atI_get {α : Type} {xs : List α} {i : Int} {v : α} (h : atI xs i = some v) : ∃ j, seqIndex? i xs.length = some j /\ xs[j]? = some v /\ j < xs.length /\ -(xs.length : Int) <= i /\ i < xs.length := by
 unfold atI at h
 cases e : ixN xs.length i with
 | none => rw [e] at h; cases h
 | some j =>
   rw [e] at h
   obtain ⟨h1, h2, h3, h4⟩ := ixN_seq e
   exact ⟨j, h1, h, h2, h3, h4⟩
theorem atI_nat {α : Type} {xs : List α} {j : Nat} {v : α} (h : xs[j]? = some v) : atI xs (j : Int) = some v := by
 have hj : j < xs.length := (List.getElem?_eq_some_iff.mp h).1
 have e : ixN xs.length (j : Int) = some j := by
  unfold ixN
  rw [if_pos (by omega), if_pos (by omega)]; simp
 unfold atI; rw [e]; exact h
def PlainIx (b : Expr) : Prop := ∀ o i, subscripted b false o i = operate [o, i] (getItem o i)
def IxR (X : Cx) (r : R2) : Prop :=
 ∀ (value slice : Expr) (pins : List (Addr × Obj)) (s : Shared) (σ : St) (H : Hp) (x y : V) (v u : Value) (Q : VK), Inv X pins σ H s -> RelV x v -> RelV y u -> r x y H Q ->
   subscripted slice false v u = operate [v, u] (getItem v u) -> wpAny (model X.prog X.w) X.A (subscriptTail value slice v u) (EP X pins σ Q) X.xe s
def MtR (X : Cx) (id : String) (r : V -> List V -> Hp -> VK -> Prop) : Prop :=
 ∀ (pins : List (Addr × Obj)) (s : Shared) (σ : St) (H : Hp) (x : V) (xs : List V) (v : Value) (us : List Value) (Q : VK), Inv X pins σ H s -> RelV x v -> Vals xs us -> r x xs H Q ->
   wpAny (model X.prog X.w) X.A (call (.builtin id) (v :: us)) (EP X pins σ Q) X.xe s
section
variable {X : Cx} {a b : Expr} {ta tb : TE} {pos : Pos}
theorem pe_ix {r : R2} (hr : IxR X r) (ha : PE X a ta) (hb : PE X b tb) (hs : PlainIx b) : PE X (.Subscript a b pos) (tOp r ta tb) := by
 intro pins s σ H Q I h
 exact Subscript_ (binT ha hb I h fun v u s2 x y H2 I2 rx ry q => hr a b pins s2 σ H2 x y v u Q I2 rx ry q (hs _ _))
def rIxL (K : W.Frag) : R2 := fun x y H Q => ∃ p xs i v, x = .ref p /\ y = .int i /\ SqL K H p xs /\ atI xs i = some v /\ Q v H
def rIxT (K : W.Frag) : R2 := fun x y H Q => ∃ p xs i v, x = .ref p /\ y = .int i /\ SqT K H p xs /\ atI xs i = some v /\ Q v H
theorem ix_list : IxR X (rIxL X.K) := by
 intro value slice pins s σ H x y v u Q I rx ry h hs
 obtain ⟨p, xs, i, z, rfl, rfl, hq, he, q⟩ := h
 cases rx
 obtain ⟨t, rfl⟩ := ry
 obtain ⟨its, r, pl, hz⟩ := I.list hq
 obtain ⟨j, h1, h2, h3, h4, h5⟩ := atI_get he
 obtain ⟨w, ew, rw'⟩ := r.get h2
 have hl := r.length
 have hn := line63
 have fin : EP X pins σ Q w s := ⟨z, H, I, rw', q⟩
 by_cases h0 : 0 <= i
 . have hj : i.toNat = j := by
    rw [seqIndex_of h0 h5] at h1
    exact Option.some.inj h1
   exact item_listR pl.isList h0 (by omega) (by rw [hj]; simpa using ew) fin hs
 . have hj : (i + (its.toArray.size : Int)).toNat = j := by
    rw [seqIndex_neg (by omega) h4] at h1
    rw [List.size_toArray, <- hl]
    exact Option.some.inj h1
   exact subscriptTail_builtinR (x := w) pl.isList.typeIs slot_list_getitem.lookup
    (wpAny_getItem_list_neg (Q := fun r s' => r = w /\ EP X pins σ Q r s') pl.isList (by omega) (by rw [List.size_toArray] <;> omega) (by omega) (by rw [hj]; simpa using ew) ⟨rfl, fin⟩) hs
theorem ix_tup : IxR X (rIxT X.K) := by
 intro value slice pins s σ H x y v u Q I rx ry h hs
 obtain ⟨p, xs, i, z, rfl, rfl, hq, he, q⟩ := h
 cases rx
 obtain ⟨t, rfl⟩ := ry
 obtain ⟨its, r, pl, hz⟩ := I.tuple hq
 obtain ⟨j, h1, h2, h3, h4, h5⟩ := atI_get he
 obtain ⟨w, ew, rw'⟩ := r.get h2
 have hl := r.length
 have hn := line63
 have fin : EP X pins σ Q w s := ⟨z, H, I, rw', q⟩
 exact subscriptTail_builtinR (x := w) pl.typeIs slot_tuple_getitem.lookup
  (getItem_tuple (j := j) (Q := fun r s' => r = w /\ EP X pins σ Q r s') pl (by omega) (by omega) (by rw [List.size_toArray, <- hl]; exact h1) (by simpa using ew) ⟨rfl, fin⟩) hs
theorem mapSeq_set (its : List Value) (n j : Nat) (u : Value) : Obj.mapSeq (·.setIfInBounds j u) { cls := .type "list", data := .seq its.toArray n } = { cls := .type "list", data := .seq (its.set j u).toArray n } := by
 simp [Obj.mapSeq]
theorem Inv.lst {pins : List (Addr × Obj)} {σ : St} {H : Hp} {s : Shared} {p : Addr} {xs : List V} (I : Inv X pins σ H s) (h : H p = some (.lst xs)) :
 ∃ (its : List Value) (n : Nat), Vals xs its /\ s.heap.get? p = some { cls := .type "list", data := .seq its.toArray n } /\ xs.length <= sizeLine := by
 obtain ⟨z, its, n, r, e⟩ := I.hok p _ h
 exact ⟨its, n, r, e, z⟩
theorem Inv.lstUpd {pins : List (Addr × Obj)} {σ : St} {H : Hp} {s : Shared} {p : Addr} {xs ys : List V} {its its' : List Value} {n n' : Nat} {f : Obj -> Obj} (I : Inv X pins σ H s) (h : H p = some (.lst xs))
 (ho : s.heap.get? p = some { cls := .type "list", data := .seq its.toArray n }) (hf : f { cls := .type "list", data := .seq its.toArray n } = { cls := .type "list", data := .seq its'.toArray n' }) (r : Vals ys its') (hz : ys.length <= sizeLine) (t : Nat) :
 Inv X pins σ (upd H p (.lst ys)) { s with heap := s.heap.update p f, toks := t } := by
 have e : (s.heap.update p f).get? p = some { cls := .type "list", data := .seq its'.toArray n' } := by
  rw [Heap.get?_update_self f ho (by rw [hf] <;> rfl), hf]
 refine I.write (x := p) (e := p) (by rw [h]; trivial) (.inl rfl) (fun b u hb q => (Heap.get?_update_other _ _ (Ne.symm hb)).trans q) ⟨_, e⟩ ?_
 exact ⟨hz, its', n', r, e⟩
def rSetL : V -> V -> V -> Hp -> (Hp -> Prop) -> Prop := fun o i v H Q => ∃ p xs k j, o = .ref p /\ i = .int k /\ H p = some (.lst xs) /\ ixN xs.length k = some j /\ Q (upd H p (.lst (xs.set j v)))
theorem set_list : PSet X rSetL := by
 intro pins s σ H o i v ov iv u Q I ro ri rv h
 obtain ⟨p, xs, k, j, rfl, rfl, hp, hj, q⟩ := h
 cases ro
 obtain ⟨t, rfl⟩ := ri
 obtain ⟨its, n, r, ho, hz⟩ := I.lst hp
 obtain ⟨h1, h2, h3, h4⟩ := ixN_seq hj
 have hl := r.length
 have hn := line63
 have I' : Inv X pins σ (upd H p (.lst (xs.set j v))) { s with heap := s.heap.update p (Obj.mapSeq (·.setIfInBounds j u)) } :=
  I.lstUpd hp ho (mapSeq_set its n j u) (r.set rv j) (by rw [List.length_set]; exact hz) s.toks
 by_cases h0 : 0 <= k
 . have hk : k.toNat = j := by
    rw [seqIndex_of h0 h4] at h1
    exact Option.some.inj h1
   exact W.ki_setAt ho h0 (by omega) (by rw [List.size_toArray, <- hl]; exact h4) (by rw [hk]; exact ⟨_, I', q⟩)
 . have hk : (k + (its.toArray.size : Int)).toNat = j := by
    rw [seqIndex_neg (by omega) h3] at h1
    rw [List.size_toArray, <- hl]
    exact Option.some.inj h1
   exact W.ki_setBack ho (by omega) (by rw [List.size_toArray, <- hl]; exact h3) (by omega) (by rw [hk]; exact ⟨_, I', q⟩)
theorem slice_bounds (lo hi : Option Int) (n : Nat) : (sliceBounds lo hi none n).1 = ((HT.sIx n 0 lo : Nat) : Int) /\ (sliceBounds lo hi none n).2.1 = ((HT.sIx n n hi : Nat) : Int) /\ (sliceBounds lo hi none n).2.2 = 1 := by
 refine ⟨?_, ?_, rfl⟩
 . cases lo with
   | none => simp [sliceBounds, HT.sIx]
   | some i =>
     simp only [sliceBounds, HT.sIx, Option.getD_none, show (1 : Int) > 0 by decide, if_true]
     by_cases h : i < 0
     . simp only [h, if_true] <;> omega
     . simp only [h, if_false] <;> omega
 . cases hi with
   | none => simp [sliceBounds, HT.sIx]
   | some i =>
     simp only [sliceBounds, HT.sIx, Option.getD_none, show (1 : Int) > 0 by decide, if_true]
     by_cases h : i < 0
     . simp only [h, if_true] <;> omega
     . simp only [h, if_false] <;> omega
theorem slicePick_cut (its : List Value) (lo hi : Option Int) : slicePick its.toArray lo hi none = ((its.drop (HT.sIx its.length 0 lo)).take (HT.sIx its.length its.length hi - HT.sIx its.length 0 lo)).toArray := by
 obtain ⟨h1, h2, h3⟩ := slice_bounds lo hi its.toArray.size
 unfold slicePick
 rw [h1, h2, h3]
 simp only [sliceRange_one, pick_run, List.size_toArray] <;> rfl
def rSlL (K : W.Frag) : V -> Option Int -> Option Int -> Hp -> VK -> Prop := fun x lo hi H Q => ∃ a xs, x = .ref a /\ SqL K H a xs /\ ∀ p, H p = none -> Q (.ref p) (upd H p (.lst (cutV xs lo hi)))
theorem sl_list : SlR X (rSlL X.K) := by
 intro pins s σ H x v vl vu lo hi sl Q I rx hs pl pu h
 obtain ⟨a, xs, rfl, hx, q⟩ := h
 cases rx
 obtain ⟨its, r, ht, hz⟩ := I.list hx
 have hlen := r.length
 refine ⟨"list", _, slot_list_getitem.lookup, ht.isList.typeIs, ?_⟩
 refine wpAny_getItem_list_slice ht.isList hs pl pu .none (by simp) ?_ (by rw [List.size_toArray] <;> omega)
 rw [slicePick_cut, <- hlen]
 refine ⟨.ref s.heap.objs.size, _, I.laid (t' := s.toks) (o := .lst (cutV xs lo hi)) (fun b ob q => Heap.get?_push_of_some _ q) (Nat.le_refl _) ?_, rfl, q _ (I.hok.fresh (Nat.le_refl _))⟩
 exact ⟨Nat.le_trans (cutV_length xs lo hi) hz, _, 0, (r.drop (HT.sIx xs.length 0 lo)).take (HT.sIx xs.length xs.length hi - HT.sIx xs.length 0 lo), Heap.get?_push_size _ rfl⟩
def flatV : V -> Bool
 | .non => true
 | .bl _ => true
 | .int _ => true
 | .str _ => true
 | _ => false
def eqV : V -> V -> Bool
 | .non, .non => true
 | .bl a, .bl b => a == b
 | .bl a, .int b => (if a then 1 else 0) == b
 | .int a, .bl b => a == (if b then 1 else 0)
 | .int a, .int b => a == b
 | .str a, .str b => a == b
 | _, _ => false
theorem eqAt_V {A : Around} {s : Shared} {y x : V} {u v : Value} (ry : RelV y u) (rx : RelV x v) (fy : flatV y = true) (fx : flatV x = true) : SeqAt.EqAt A s u v (eqV y x) := by
 cases y with
 | non =>
   cases ry
   cases x with
   | non => cases rx; exact SeqAt.EqAt.same _
   | bl b => cases rx; exact SeqAt.EqAt.none_bool b
   | int b => obtain ⟨t, rfl⟩ := rx; exact SeqAt.EqAt.none_int b t
   | str b => obtain ⟨t, rfl⟩ := rx; exact SeqAt.EqAt.none_str b t
   | _ => exact absurd (show false = true from fx) Bool.false_ne_true
 | bl a =>
   cases ry
   cases x with
   | non => cases rx; exact SeqAt.EqAt.bool_none a
   | bl b => cases rx; exact SeqAt.EqAt.bool_bool a b
   | int b => obtain ⟨t, rfl⟩ := rx; exact SeqAt.EqAt.bool_int a b t
   | str b => obtain ⟨t, rfl⟩ := rx; exact SeqAt.EqAt.bool_str a b t
   | _ => exact absurd (show false = true from fx) Bool.false_ne_true
 | int a =>
   obtain ⟨t', rfl⟩ := ry
   cases x with
   | non => cases rx; exact SeqAt.EqAt.int_none a t'
   | bl b => cases rx; exact SeqAt.EqAt.int_bool a t' b
   | int b => obtain ⟨t, rfl⟩ := rx; exact SeqAt.EqAt.int_int a t' b t
   | str b => obtain ⟨t, rfl⟩ := rx; exact SeqAt.EqAt.int_str a t' b t
   | _ => exact absurd (show false = true from fx) Bool.false_ne_true
 | str a =>
   obtain ⟨t', rfl⟩ := ry
   cases x with
   | non => cases rx; exact SeqAt.EqAt.str_none a t'
   | bl b => cases rx; exact SeqAt.EqAt.str_bool a t' b
   | int b => obtain ⟨t, rfl⟩ := rx; exact SeqAt.EqAt.str_int a t' b t
   | str b => obtain ⟨t, rfl⟩ := rx; exact SeqAt.EqAt.str_str a t' b t
   | _ => exact absurd (show false = true from fx) Bool.false_ne_true
 | _ => exact absurd (show false = true from fy) Bool.false_ne_true
def eqU (x : V) (u : Value) : Bool := match u with
 | .none => eqV .non x
 | .bool b => eqV (.bl b) x
 | .int i _ => eqV (.int i) x
 | .str z _ => eqV (.str z) x
 | _ => false
theorem eqU_of {x y : V} {u : Value} (r : RelV y u) (f : flatV y = true) : eqU x u = eqV y x := by
 cases y with
 | non => cases r; rfl
 | bl b => cases r; rfl
 | int i => obtain ⟨t, rfl⟩ := r; rfl
 | str z => obtain ⟨t, rfl⟩ := r; rfl
 | _ => exact absurd (show false = true from f) Bool.false_ne_true
theorem any_eqU {x : V} : ∀ {xs : List V} {us : List Value}, Vals xs us -> xs.all flatV = true -> us.any (eqU x) = xs.any fun y => eqV y x
 | _, _, .nil, _ => rfl
 | y :: xs, u :: us, .cons r t, f => by
   rw [List.all_cons, Bool.and_eq_true] at f
   rw [List.any_cons, List.any_cons, eqU_of r f.1, any_eqU t f.2]
theorem mem_eqAt {A : Around} {s : Shared} {x : V} {v : Value} (rx : RelV x v) (fx : flatV x = true) : ∀ {xs : List V} {us : List Value}, Vals xs us -> xs.all flatV = true -> ∀ u ∈ us, SeqAt.EqAt A s u v (eqU x u)
 | _, _, .nil, _ => fun u hu => by cases hu
 | y :: xs, u :: us, .cons r t, f => fun u' hu => by
   rw [List.all_cons, Bool.and_eq_true] at f
   rcases List.mem_cons.mp hu with rfl | hu
   . rw [eqU_of r f.1]; exact eqAt_V r rx f.1 fx
   . exact mem_eqAt rx fx t f.2 u' hu
def inV (x : V) (xs : List V) : Bool := xs.any fun y => eqV y x
def rIn (K : W.Frag) (neg : Bool) : R2 := fun x y H Q => ∃ p xs, y = .ref p /\ (SqL K H p xs \/ SqT K H p xs) /\ flatV x = true /\ xs.all flatV = true /\ Q (.bl (if neg then !inV x xs else inV x xs)) H
theorem op_in_seq : OpR X (compareOp .In) (rIn X.K false) := by
 intro pins s σ H x y v u Q I rx ry h
 obtain ⟨p, xs, rfl, hq, fx, fs, q⟩ := h
 cases ry
 rcases hq with hq | hq
 . obtain ⟨its, r, pl, hz⟩ := I.list hq
   refine SeqAt.in_listAt (eqU x) pl.isList (fun w hw => mem_eqAt rx fx r fs w (by simpa using hw)) ⟨.bl _, H, I, rfl, ?_⟩
   rw [show its.toArray.any (eqU x) = its.any (eqU x) by simp, any_eqU r fs]
   exact q
 . obtain ⟨its, r, pl, hz⟩ := I.tuple hq
   refine SeqAt.in_tupleAt (eqU x) pl (fun w hw => mem_eqAt rx fx r fs w (by simpa using hw)) ⟨.bl _, H, I, rfl, ?_⟩
   rw [show its.toArray.any (eqU x) = its.any (eqU x) by simp, any_eqU r fs]
   exact q
theorem op_notIn_seq : OpR X (compareOp .NotIn) (rIn X.K true) := by
 intro pins s σ H x y v u Q I rx ry h
 obtain ⟨p, xs, rfl, hq, fx, fs, q⟩ := h
 cases ry
 rcases hq with hq | hq
 . obtain ⟨its, r, pl, hz⟩ := I.list hq
   refine SeqAt.notIn_listAt (eqU x) pl.isList (fun w hw => mem_eqAt rx fx r fs w (by simpa using hw)) ⟨.bl _, H, I, rfl, ?_⟩
   rw [show its.toArray.any (eqU x) = its.any (eqU x) by simp, any_eqU r fs]
   exact q
 . obtain ⟨its, r, pl, hz⟩ := I.tuple hq
   refine SeqAt.notIn_tupleAt (eqU x) pl (fun w hw => mem_eqAt rx fx r fs w (by simpa using hw)) ⟨.bl _, H, I, rfl, ?_⟩
   rw [show its.toArray.any (eqU x) = its.any (eqU x) by simp, any_eqU r fs]
   exact q
theorem op_notIn_str : OpR X (compareOp .NotIn) (fun x y H Q => ∃ i j, x = .str i /\ y = .str j /\ Q (.bl (!(!(Builtin.Str.occurrences j i 0 j.length 1).isEmpty))) H) := by
 intro pins s σ H x y v u Q I rx ry h
 obtain ⟨i, j, rfl, rfl, q⟩ := h
 obtain ⟨t, rfl⟩ := rx
 obtain ⟨t', rfl⟩ := ry
 exact notIn_str ⟨.bl _, H, I, rfl, q⟩
theorem call_len_seq : CallR X (.builtin "len") (fun xs H Q => ∃ p ys, xs = [.ref p] /\ (SqL X.K H p ys \/ SqT X.K H p ys) /\ Q (.int ys.length) H) := by
 intro pins s σ H xs us Q I r h
 obtain ⟨p, ys, rfl, hq, q⟩ := h
 obtain ⟨u, rfl, rx⟩ := vals1 r
 cases rx
 have hn := line63
 rcases hq with hq | hq
 . obtain ⟨its, r', pl, hz⟩ := I.list hq
   have hlen := r'.length
   exact Calls.call_len_list pl.isList (by simp only [List.size_toArray] <;> omega) ⟨.int ys.length, H, I.tok _, ⟨s.toks + 1, by rw [List.size_toArray, hlen]⟩, q⟩
 . obtain ⟨its, r', pl, hz⟩ := I.tuple hq
   have hlen := r'.length
   exact len_tuple pl (by simp only [List.size_toArray] <;> omega) ⟨.int ys.length, H, I.tok _, ⟨s.toks + 1, by rw [List.size_toArray, hlen]⟩, q⟩
theorem call_len_str : CallR X (.builtin "len") (fun xs H Q => ∃ z, xs = [.str z] /\ z.length <= sizeLine /\ Q (.int z.length) H) := by
 intro pins s σ H xs us Q I r h
 obtain ⟨z, rfl, hz, q⟩ := h
 obtain ⟨u, rfl, t, rfl⟩ := vals1 r
 have hn := line63
 exact len_str (by omega) ⟨.int z.length, H, I.tok _, ⟨_, rfl⟩, q⟩
theorem call_list_of : CallR X (.type "list") (fun xs H Q => ∃ p ys, xs = [.ref p] /\ (SqL X.K H p ys \/ SqT X.K H p ys) /\ ∀ l, H l = none -> Q (.ref l) (upd H l (.lst ys))) := by
 intro pins s σ H xs us Q I r h
 obtain ⟨p, ys, rfl, hq, q⟩ := h
 obtain ⟨u, rfl, rx⟩ := vals1 r
 cases rx
 have fin : ∀ (its : List Value), Vals ys its -> ys.length <= sizeLine -> ∀ (h' : Heap) (c' : Nat), (∀ b o', s.heap.get? b = some o' -> h'.get? b = some o') ->
  h'.get? s.heap.objs.size = some { cls := .type "list", dict := none, data := .seq its.toArray c', slots := #[] } -> EP X pins σ Q (.ref s.heap.objs.size) { s with heap := h' } := fun its r' hz h' c' kp e =>
  ⟨.ref s.heap.objs.size, _, I.laid (t' := s.toks) kp (Nat.le_refl _) (show ObjOk X.prog X.w _ h' _ (.lst ys) from ⟨hz, its, c', r', e⟩), rfl, q _ (I.hok.fresh (Nat.le_refl _))⟩
 rcases hq with hq | hq
 . obtain ⟨its, r', pl, hz⟩ := I.list hq
   have hlen := r'.length
   obtain ⟨o, ho, hc, n, hd⟩ := pl.isList
   exact call_list_seq p (.inl rfl) ho hc hd (fun h' c' kp e => fin its r' hz h' c' kp e) (by simp only [List.size_toArray] <;> omega)
 . obtain ⟨its, r', pl, hz⟩ := I.tuple hq
   have hlen := r'.length
   obtain ⟨o, ho, hc, n, hd⟩ := pl
   exact call_list_seq p (.inr rfl) ho hc hd (fun h' c' kp e => fin its r' hz h' c' kp e) (by simp only [List.size_toArray] <;> omega)
def tyV (K : W.Frag) (T : String) (x : V) (H : Hp) : Prop := match x with
 | .str _ => T = "str"
 | .int _ => T = "int"
 | .ref p => (T = "list" /\ ∃ xs, SqL K H p xs) \/ (T = "tuple" /\ ∃ o, K.lookup p = some o /\ o.cls = .type "tuple" /\ o.dict = none) \/
  (T = "dict" /\ ((∃ kvs, H p = some (.dK kvs)) \/ ∃ kvs, H p = some (.dT kvs))) \/ (T = "set" /\ ∃ S n, H p = some (.set S n))
 | _ => False
theorem tyV_is {pins : List (Addr × Obj)} {σ : St} {H : Hp} {s : Shared} {T : String} {x : V} {v : Value} (I : Inv X pins σ H s) (r : RelV x v) (ty : tyV X.K T x H) :
 s.TypeIs v T /\ ∀ a, v = .ref a -> ∃ ob, s.heap.get? a = some ob /\ ob.dict = none := by
 cases x with
 | str z =>
   obtain ⟨t, rfl⟩ := r
   cases (show T = "str" from ty)
   exact ⟨typeIs_str s z t, fun _ e => nomatch e⟩
 | int i =>
   obtain ⟨t, rfl⟩ := r
   cases (show T = "int" from ty)
   exact ⟨typeIs_int s i t, fun _ e => nomatch e⟩
 | ref p =>
   cases r
   rcases ty with ⟨rfl, xs, hq⟩ | ⟨rfl, o, hk, hc, hd⟩ | ⟨rfl, hk⟩ | ⟨rfl, S, n, hk⟩
   . obtain ⟨its, _, pl, _⟩ := I.list hq
     refine ⟨pl.isList.typeIs, fun a e => ?_⟩
     cases e
     obtain ⟨o, n, e, c, hd, _⟩ := pl
     exact ⟨o, e, hd⟩
   . refine ⟨⟨o, I.kIn p o hk, hc⟩, fun a e => ?_⟩
     cases e
     exact ⟨o, I.kIn _ o hk, hd⟩
   . have z : ∃ o, s.heap.get? p = some o /\ o.ExactDict := by
      rcases hk with ⟨kvs, hk⟩ | ⟨kvs, hk⟩
      . obtain ⟨_, _, _, _, o, _, _, e, ex, _⟩ := I.hok p _ hk
        exact ⟨o, e, ex⟩
      . obtain ⟨_, _, _, _, o, _, _, e, ex, _⟩ := I.hok p _ hk
        exact ⟨o, e, ex⟩
     obtain ⟨o, e, ex⟩ := z
     refine ⟨⟨o, e, ex.1⟩, fun a e2 => ?_⟩
     cases e2
     exact ⟨o, e, ex.2.1⟩
   . obtain ⟨o, _, _, _, e, ex, _⟩ := I.hok p _ hk
     refine ⟨⟨o, e, ex.1⟩, fun a e2 => ?_⟩
     cases e2
     exact ⟨o, e, ex.2.1⟩
 | _ => exact False.elim ty
def tBM0 (K : W.Frag) (T : String) (r : V -> List V -> Hp -> VK -> Prop) (to : TE) : TE := fun σ H Q => to σ H fun x H1 => tyV K T x H1 /\ r x [] H1 Q
def tBM (K : W.Frag) (T : String) (r : V -> List V -> Hp -> VK -> Prop) (to : TE) (t : TA) : TE := fun σ H Q => to σ H fun x H1 => tyV K T x H1 /\ t σ H1 fun xs H2 => r x xs H2 Q
variable {o e : Expr} {es : List Expr} {to : TE} {t : TA} {name : Str} {apos cpos : Pos} {T id : String} {r : V -> List V -> Hp -> VK -> Prop}
theorem pe_bm0 (pa : PlainAttrs T) (slot : Slot T name id) (hty : typeOf (.builtin id) = pure (.type "method_descriptor")) (hm : MtR X id r) (ho : PE X o to)
 (hbase : attributeBase o name X.env (eval o X.env) = eval o X.env := by rfl) (hline : (apos.endLine == cpos.line) = true := by rfl) : PE X (.Call (.Attribute o name apos) [] [] cpos) (tBM0 X.K T r to) := by
 intro pins s σ H Q I h
 refine wpAny_Call_method0_late hbase hline (thn (ho pins s σ H _ I h) fun v s1 ⟨x, H1, I1, r1, ty, q1⟩ => ?_)
 obtain ⟨h1, h2⟩ := tyV_is I1 r1 ty
 exact ⟨T, id, pa, slot, hty, h1, h2, Calls.callWith_builtin rfl (PySem.evalArgs_none (hm pins s1 σ H1 x [] v [] Q I1 r1 .nil q1))⟩
theorem pe_bm (pa : PlainAttrs T) (slot : Slot T name id) (hty : typeOf (.builtin id) = pure (.type "method_descriptor")) (hm : MtR X id r) (ho : PE X o to) (ha : PA X (e :: es) t)
 (hbase : attributeBase o name X.env (eval o X.env) = eval o X.env := by rfl)
 (hfew : ((backTo cpos (starEach (e :: es) X.env)).all (fun x => !x.1) && (backToKw cpos (keywordEach [] X.env)).all (fun x => x.1.isSome)
  && decide ((e :: es).length + ([] : List Keyword).length + (if ([] : List Keyword).isEmpty then 0 else 1) < 30)) = true := by rfl)
 (hline : (apos.endLine == cpos.line) = true := by rfl) (hs : starEach (e :: es) X.env = (false, eval e X.env) :: starEach es X.env := by rfl) (hplain : (backTo cpos (starEach es X.env)).any (·.1) = false := by rfl) :
 PE X (.Call (.Attribute o name apos) (e :: es) [] cpos) (tBM X.K T r to t) := by
 intro pins s σ H Q I h
 refine wpAny_Call_method_late hbase hfew hline rfl (thn (ho pins s σ H _ I h) fun v s1 ⟨x, H1, I1, r1, ty, q1⟩ => ?_)
 obtain ⟨h1, h2⟩ := tyV_is I1 r1 ty
 refine ⟨T, id, pa, slot, hty, h1, h2, ?_⟩
 have hA := ha cpos pins s1 σ H1 _ I1 q1
 rw [hs] at hA ⊢
 refine Calls.callWith_builtin (by show (false || (backTo cpos (starEach es X.env)).any (·.1)) = false; rw [hplain] <;> rfl) (Calls.evalArgs_plain ?_)
 exact thn hA fun us s2 ⟨vs, H2, I2, r2, q2⟩ => hm pins s2 σ H2 x vs v us Q I2 r1 r2 q2
end
end L2
namespace L2
open PySem PySem.Spec PyProof.Rows
def MtM (X : Cx) (id : String) (r : V -> List V -> Hp -> VK -> Prop) : Prop :=
 ∀ (pins : List (Addr × Obj)) (s : Shared) (σ : St) (H : Hp) (x : V) (xs : List V) (v : Value) (us : List Value) (Q : VK), Inv X pins σ H s -> RelV x v -> Vals xs us -> r x xs H Q ->
   wpAny (model X.prog X.w) X.A (call (.builtin id) (v :: us)) (EP X pins σ Q) X.xe s
theorem Vals.one : ∀ {x : V} {us : List Value}, Vals [x] us -> ∃ u, us = [u] /\ RelV x u
 | _, _, .cons r .nil => ⟨_, rfl, r⟩
theorem Vals.zero : ∀ {us : List Value}, Vals [] us -> us = []
 | _, .nil => rfl
theorem Vals.dropLast {xs : List V} {us : List Value} (h : Vals xs us) : Vals xs.dropLast us.dropLast := by
 induction h with
 | nil => exact .nil
 | cons r t ih =>
   cases t with
   | nil => exact .nil
   | cons q t' => exact .cons r ih
theorem Vals.eraseIdx : ∀ {xs : List V} {us : List Value} (i : Nat), Vals xs us -> Vals (xs.eraseIdx i) (us.eraseIdx i)
 | _, _, _, .nil => .nil
 | _, _, 0, .cons _ t => t
 | _, _, i + 1, .cons r t => .cons r (Vals.eraseIdx i t)
theorem Vals.rep {xs : List V} {us : List Value} (h : Vals xs us) : ∀ k : Nat, Vals (List.replicate k xs).flatten (List.replicate k us).flatten
 | 0 => .nil
 | k + 1 => by
   rw [List.replicate_succ, List.replicate_succ, List.flatten_cons, List.flatten_cons]
   exact Vals.append h (Vals.rep h k)
theorem erase_last {α : Type} (l : List α) : l.eraseIdx (l.length - 1) = l.dropLast := by
 induction l with
 | nil => rfl
 | cons a r ih =>
   cases r with
   | nil => rfl
   | cons b r =>
     have e : (a :: b :: r).length - 1 = ((b :: r).length - 1) + 1 := by
      have h1 : (a :: b :: r).length = r.length + 2 := rfl
      have h2 : (b :: r).length = r.length + 1 := rfl
      omega
     rw [e, List.eraseIdx_cons_succ, ih]
     all_goals rfl
theorem len_erase {α : Type} : ∀ (l : List α) (i : Nat), (l.eraseIdx i).length <= l.length
 | [], _ => Nat.le_refl _
 | _ :: _, 0 => Nat.le_succ _
 | _ :: r, i + 1 => Nat.succ_le_succ (len_erase r i)
theorem foldl_rep (its : List Value) : ∀ (k : Nat) (acc : List Value),
 List.foldl (fun x1 x2 => x1 ++ x2) acc.toArray (List.replicate k its.toArray) = (acc ++ (List.replicate k its).flatten).toArray
 | 0, acc => by simp
 | k + 1, acc => by
   have e : acc.toArray ++ its.toArray = (acc ++ its).toArray := by simp
   have e2 : (acc ++ its) ++ (List.replicate k its).flatten = acc ++ (List.replicate (k + 1) its).flatten := by
    rw [List.replicate_succ, List.flatten_cons, List.append_assoc]
   rw [<- e2, <- foldl_rep its k (acc ++ its), <- e, List.replicate_succ, List.foldl_cons]
section
variable {X : Cx} {pins : List (Addr × Obj)} {σ : St} {H : Hp} {s : Shared} {l b : Addr} {xs ys zs : List V}
theorem Inv.lset {its its' : List Value} {n : Nat} {f : Array Value -> Array Value} {t' : Nat} (I : Inv X pins σ H s) (hH : H l = some (.lst xs))
 (e : s.heap.get? l = some { cls := .type "list", data := .seq its.toArray n }) (hf : f its.toArray = its'.toArray) (hv : Vals ys its') (hz : ys.length <= sizeLine) :
 Inv X pins σ (upd H l (.lst ys)) { s with heap := s.heap.update l (Obj.mapSeq f), toks := t' } := by
 have q := PySem.IsL.update e f
 rw [hf] at q
 refine I.write (x := l) (e := l) (by rw [hH]; exact trivial) (.inl rfl) (fun b' u hb hu => (Heap.get?_update_other s.heap (Obj.mapSeq f) (Ne.symm hb)).trans hu) ⟨_, q⟩ ?_
 exact ⟨hz, its', _, hv, q⟩
theorem Inv.lnew {its : List Value} {t' : Nat} (I : Inv X pins σ H s) (hv : Vals ys its) (hz : ys.length <= sizeLine) :
 Inv X pins σ (upd H s.heap.objs.size (.lst ys)) { s with heap := s.heap.push { cls := .type "list", data := .seq its.toArray }, toks := t' } :=
 I.laid (fun _ _ q => Heap.get?_push_of_some _ q) (Nat.le_refl _) ⟨hz, its, 0, hv, Heap.get?_push_size _ rfl⟩
theorem Inv.fresh (I : Inv X pins σ H s) : H s.heap.objs.size = none := I.hok.fresh (Nat.le_refl _)
theorem Inv.lstM (I : Inv X pins σ H s) (hH : H l = some (.lst xs)) : xs.length <= sizeLine /\ ∃ (its : List Value) (n : Nat), Vals xs its /\ xs.length = its.length /\ s.heap.get? l = some { cls := .type "list", data := .seq its.toArray n } := by
 obtain ⟨z, its, n, r, e⟩ := I.hok l _ hH
 exact ⟨z, its, n, r, r.length, e⟩
theorem notLongL {n : Nat} (h : n <= sizeLine) : Builtin.List.listTooLong n = false := by
 unfold Builtin.List.listTooLong
 exact decide_eq_false (by omega)
end
section
variable {X : Cx}
def rAppend : V -> List V -> Hp -> VK -> Prop := fun x vs H Q => ∃ l xs y, x = .ref l /\ vs = [y] /\ H l = some (.lst xs) /\ xs.length < sizeLine /\ Q .non (upd H l (.lst (xs ++ [y])))
theorem mt_append : MtM X "list.append" rAppend := by
 intro pins s σ H x vs v us Q I rx rv h
 obtain ⟨l, xs, y, rfl, rfl, hH, hz, q⟩ := h
 cases rx
 obtain ⟨u, rfl, ru⟩ := rv.one
 obtain ⟨z, its, n, r, hl, e⟩ := I.lstM hH
 refine call_meets F.slot_list_append ⟨_, e, rfl⟩ F.entry_list_append (F.args_list_append_2 _ _) (PySem.list_append l its.toArray n u (by rw [List.size_toArray]; omega)) ⟨e, ?_⟩
 refine ⟨.non, _, I.lset (its' := its ++ [u]) hH e (by simp) (r.append (.cons ru .nil)) ?_, rfl, q⟩
 rw [List.length_append, List.length_singleton]
 omega
def rExtend : V -> List V -> Hp -> VK -> Prop := fun x vs H Q => ∃ l b xs zs, x = .ref l /\ vs = [.ref b] /\ H l = some (.lst xs) /\ H b = some (.lst zs) /\ xs.length + zs.length <= sizeLine /\ Q .non (upd H l (.lst (xs ++ zs)))
theorem mt_extend : MtM X "list.extend" rExtend := by
 intro pins s σ H x vs v us Q I rx rv h
 obtain ⟨l, b, xs, zs, rfl, rfl, hH, hB, hz, q⟩ := h
 cases rx
 obtain ⟨u, rfl, ru⟩ := rv.one
 cases ru
 obtain ⟨z, its, n, r, hl, e⟩ := I.lstM hH
 obtain ⟨z2, its2, n2, r2, hl2, e2⟩ := I.lstM hB
 have hsz : its.toArray.size + its2.toArray.size <= sizeLine := by rw [List.size_toArray, List.size_toArray]; omega
 have hlong : ¬ (!its.toArray.isEmpty && Builtin.List.listTooLong (its.toArray.size + its2.toArray.size)) = true := by
  rw [notLongL hsz, Bool.and_false]
  exact Bool.false_ne_true
 refine call_meets F.slot_list_extend ⟨_, e, rfl⟩ F.entry_list_extend (F.args_list_extend_2 _ _)
  (AutoSeq1.list_extend_list_list_0 l its.toArray n b its2.toArray n2 hlong (by rw [List.size_toArray]; omega) (by omega)) ⟨e, e2, ?_⟩
 refine ⟨.non, _, I.lset (its' := its ++ its2) hH e (by simp) (r.append r2) ?_, rfl, q⟩
 rw [List.length_append]
 omega
def rPop : V -> List V -> Hp -> VK -> Prop := fun x vs H Q => ∃ l xs y, x = .ref l /\ vs = [] /\ H l = some (.lst xs) /\ xs[xs.length - 1]? = some y /\ Q y (upd H l (.lst xs.dropLast))
theorem mt_pop : MtM X "list.pop" rPop := by
 intro pins s σ H x vs v us Q I rx rv h
 obtain ⟨l, xs, y, rfl, rfl, hH, hy, q⟩ := h
 cases rx
 have hus := rv.zero
 subst hus
 obtain ⟨z, its, n, r, hl, e⟩ := I.lstM hH
 obtain ⟨u, hu, ru⟩ := r.get hy
 have hy' : its.toArray[its.toArray.size - 1]? = some u := by
  show its.toArray[its.length - 1]? = some u
  rw [<- Array.getElem?_toList, <- hl]
  exact hu
 refine call_meets F.slot_list_pop ⟨_, e, rfl⟩ F.entry_list_pop (F.args_list_pop_1 _) (MeetsSeq.list_pop_last l its.toArray n u hy' (by rw [List.size_toArray]; omega)) ⟨e, ?_⟩
 refine ⟨y, _, I.lset (its' := its.dropLast) hH e ?_ r.dropLast ?_, ru, q⟩
 . show its.toArray.eraseIdxIfInBounds (its.toArray.size - 1) = its.dropLast.toArray
   rw [List.size_toArray, List.eraseIdxIfInBounds_toArray, erase_last]
 . rw [List.length_dropLast]
   omega
def rPopAt : V -> List V -> Hp -> VK -> Prop := fun x vs H Q => ∃ l xs i k y, x = .ref l /\ vs = [.int i] /\ H l = some (.lst xs) /\ -(2 ^ 63) <= i /\ i < 2 ^ 63 /\ seqIndex? i xs.length = some k /\ xs[k]? = some y /\ Q y (upd H l (.lst (xs.eraseIdx k)))
theorem mt_popAt : MtM X "list.pop" rPopAt := by
 intro pins s σ H x vs v us Q I rx rv h
 obtain ⟨l, xs, i, k, y, rfl, rfl, hH, h1, h2, hk, hy, q⟩ := h
 cases rx
 obtain ⟨u, rfl, ru⟩ := rv.one
 obtain ⟨t, rfl⟩ := ru
 obtain ⟨z, its, n, r, hl, e⟩ := I.lstM hH
 obtain ⟨w, hw, rw'⟩ := r.get hy
 refine call_meets F.slot_list_pop ⟨_, e, rfl⟩ F.entry_list_pop (F.args_list_pop_2 _ _)
  (MeetsSeq.list_pop_at l its.toArray n i t k w (fitsIndex_both h1 h2) (by rw [List.size_toArray, <- hl]; exact hk) (by rw [<- Array.getElem?_toList]; exact hw) (by rw [List.size_toArray]; omega)) ⟨e, ?_⟩
 refine ⟨y, _, I.lset (its' := its.eraseIdx k) hH e ?_ (r.eraseIdx k) ?_, rw', q⟩
 . show its.toArray.eraseIdxIfInBounds k = (its.eraseIdx k).toArray
   rw [List.eraseIdxIfInBounds_toArray]
 . have := len_erase xs k
   omega
def rCat : R2 := fun x y H Q => ∃ l b xs zs, x = .ref l /\ y = .ref b /\ H l = some (.lst xs) /\ H b = some (.lst zs) /\ xs.length + zs.length <= sizeLine /\ ∀ p, H p = none -> Q (.ref p) (upd H p (.lst (xs ++ zs)))
theorem op_cat : OpR X (binaryOp .Add) rCat := by
 intro pins s σ H x y v u Q I rx ry h
 obtain ⟨l, b, xs, zs, rfl, rfl, hH, hB, hz, q⟩ := h
 cases rx
 cases ry
 obtain ⟨z, its, n, r, hl, e⟩ := I.lstM hH
 obtain ⟨z2, its2, n2, r2, hl2, e2⟩ := I.lstM hB
 refine PySem.P.add_list e e2 ?_ (by rw [List.size_toArray, List.size_toArray]; omega)
 have ea : its.toArray ++ its2.toArray = (its ++ its2).toArray := by simp
 rw [ea]
 exact ⟨.ref _, _, I.lnew (t' := s.toks) (r.append r2) (by rw [List.length_append]; omega), rfl, q _ I.fresh⟩
def rRep : R2 := fun x y H Q => ∃ l k xs, x = .ref l /\ y = .int k /\ H l = some (.lst xs) /\ -(2 ^ 63) <= k /\ k < 2 ^ 63 /\ xs.length * k.toNat <= sizeLine /\
 ∀ p, H p = none -> Q (.ref p) (upd H p (.lst (List.replicate k.toNat xs).flatten))
theorem len_rep {α : Type} (xs : List α) (k : Nat) : (List.replicate k xs).flatten.length = k * xs.length := by
 induction k with
 | zero => simp
 | succ k ih => rw [List.replicate_succ, List.flatten_cons, List.length_append, ih, Nat.succ_mul, Nat.add_comm]
theorem op_rep : OpR X (binaryOp .Mult) rRep := by
 intro pins s σ H x y v u Q I rx ry h
 obtain ⟨l, k, xs, rfl, rfl, hH, h1, h2, hz, q⟩ := h
 cases rx
 obtain ⟨t, rfl⟩ := ry
 obtain ⟨z, its, n, r, hl, e⟩ := I.lstM hH
 have hlen : its.toArray.size * k.toNat <= sizeLine := by rw [List.size_toArray, <- hl]; exact hz
 have hcap : ¬ its.toArray.size * k.toNat > (2 ^ 63 - 1) / 8 := by
  have : (sizeLine : Nat) <= (2 ^ 63 - 1) / 8 := by decide
  omega
 have hfit : ¬ (!Builtin.List.listFitsIndex k) = true := by
  rw [fitsIndex_both h1 h2]
  exact Bool.false_ne_true
 have hlong : ¬ Builtin.List.listTooLong (its.toArray.size * k.toNat) = true := by
  rw [notLongL hlen]
  exact Bool.false_ne_true
 have hnew : List.foldl (fun x1 x2 => x1 ++ x2) #[] (List.replicate (if its.toArray.isEmpty = true then 0 else k.toNat) its.toArray) = (List.replicate k.toNat its).flatten.toArray := by
  have f0 : ∀ m : Nat, List.foldl (fun x1 x2 => x1 ++ x2) #[] (List.replicate m its.toArray) = (List.replicate m its).flatten.toArray := fun m => by
   have := foldl_rep its m []
   rw [List.nil_append] at this
   exact this
  rw [f0]
  cases its with
  | nil => simp
  | cons a r' => rw [if_neg (by simp)]
 refine wpAny_binaryOp_repeat_ref (T := "list") (U := "int") (by decide) ⟨_, e, rfl⟩ (fun s' => typeIs_int s' k t) noFill_list_mul F.fills_int_mul F.slot_int_rmul repeat_list F.slot_int_index.lookup
  (call_meets F.slot_int_rmul (typeIs_int s k t) F.entry_int_rmul (F.args_int_rmul_2 _ _) (int___rmul___int_list k t l its.toArray n)
   ⟨e, rfl, ⟨_, e, rfl⟩, call_meets F.slot_list_mul ⟨_, e, rfl⟩ F.entry_list_mul (F.args_list_mul_2 _ _) (AutoListH.list___mul___list_int_3 l its.toArray n k t hfit hcap hlong) ⟨e, ?_⟩⟩)
 rw [hnew]
 exact ⟨.ref _, _, I.lnew (t' := s.toks) (r.rep k.toNat) (by rw [len_rep, Nat.mul_comm]; exact hz), rfl, q _ I.fresh⟩
end
section
variable {prog : Program} {w : World} {A : Around} {E : Value -> Shared -> Prop} {s : Shared}
end
section
variable {X : Cx}
end
end L2
namespace Att
open PySem PySem.W PySem.Calls PyProof.Rows
theorem ints_of_wellAll {P : Params} {h : Heap} : ∀ (ns : List Int) (vs : List Value), WellAll P h vs (ns.map WData.int) -> IntsAre vs ns := by
 intro ns
 induction ns with
 | nil =>
   intro vs w
   rw [List.map_nil] at w
   cases w
   exact .nil
 | cons n ns ih =>
   intro vs w
   rw [List.map_cons] at w
   cases w with
   | cons a b =>
     cases a
     exact .cons _ _ (ih _ b)
theorem script_of {l : OpenLaw} {n : Nat} (hn : l.most = some n) {P : Params} {h : Heap} {args : List WData} {vals : List Value}
 (hpre : l.row.toRowW.claim.pre args = true) (hwl : WellAll P h vals args) :
 ∃ a vs ns, vals = [Value.ref a] /\ args = [WData.list (ns.map WData.int)] /\ h.get? a = some { cls := .type "list", data := .seq vs.toArray } /\ IntsAre vs ns /\ ns.length <= n := by
 have hsh : WShape.hasAll [] args [.list .int] = true := (pre_splitW hpre).1
 have hc : l.pre.holds [] { args := args } = true := (pre_splitW hpre).2
 obtain ⟨d, r, rfl, h1, h2⟩ := hasAllW_cons hsh
 obtain rfl := hasAllW_nil h2
 obtain ⟨xs, rfl, h3⟩ := hasW_list h1
 obtain ⟨ns, rfl⟩ := items_int h3
 have hlen : ns.length <= n := by
  unfold OpenLaw.pre at hc
  have h4 : (WTm.not (.lt (.lit (.int (n : Int))) (.len (.arg 0)))).holds [] { args := [.list (ns.map .int)] } = true := by
   have h4 := (holds_andW hc).1
   rw [hn] at h4
   exact h4
  have h5 := condW_of h4 (w_not (w_lt w_lit (w_len_list (w_arg rfl))))
  rw [List.length_map] at h5
  refine Nat.le_of_not_lt fun q => ?_
  have q' : (n : Int) < ((ns.length : Nat) : Int) := by omega
  first
   | (rw [decide_eq_true q'] at h5; exact absurd h5 (by decide))
   | (simp at h5; omega)
 cases hwl with
 | cons w1 w2 =>
   cases w2
   cases w1 with
   | list ho hall => exact ⟨_, _, ns, rfl, rfl, ho, ints_of_wellAll ns _ hall, hlen⟩
theorem post_true (l : OpenLaw) (args : List WData) : l.row.toRowW.claim.post args (.bool true) args = true :=
 postW_of (r := l.row.toRowW) (X := (true == true))
  (show WShape.has [] (.bool true) .bool = true by first | rfl | decide | simp [WShape.has, WShape.arms, WShape.armsAll])
  (show (WTm.eq .res (.lit (.bool true))).value [] { args := args, res := some (.bool true), after := args } = some (.bool (true == true)) from w_eq_bool (w_res rfl) w_lit) rfl
theorem attach_call {l : OpenLaw} {n : Nat} {q : Program} {loose : List Str} {XP : (Str -> Option Value) -> Heap -> Prop} {YP : World -> Heap -> Prop} {d : DefRec}
 (hn : l.most = some n) (hdf : d.params.defaults = [])
 (call : ∀ (w : World) (s₀ s₁ : Shared) (mg mb : Str -> Option Value) (fa : Addr) (o : Obj) (pm cd doc : Value) (a : Addr) (vs : List Value) (ns : List Int),
  Ground q loose [] XP w s₀ mg mb s₁.heap -> YP w s₁.heap ->
  s₁.heap.get? fa = some o -> o.data = .func (docDef d.name d.params d.body d.scope pm cd doc) -> s₁.heap.CodeRec cd d.name -> mg d.name = some (.ref fa) ->
  s₁.heap.get? a = some { cls := .type "list", data := .seq vs.toArray } -> IntsAre vs ns -> ns.length <= n -> s₁.gens = #[] ->
  codeAny (model l.prog w) callerA (.call (.ref fa) ⟨[.ref a], []⟩) (fun r s' => r = .ok (.ret (.bool true)) /\ OldK s₁.heap s'.heap /\ s'.os = s₁.os /\ AllBare s'.gens) s₁) :
 WalkO q loose XP YP l.row.toRowW d [] (fun f vs => PySem.call f vs) := by
 intro w s₀ s₁ mg mb G Y fa o pm cd doc dV kV ho hd hcd hD hmg hg args vals as hpre hlay hrd hwl hlo
 obtain rfl : dV = .none := Dflts.none hD hdf
 obtain rfl : kV = .none := Dflts.noKw hD
 obtain ⟨a, vs, ns, rfl, rfl, hobj, hints, hlen⟩ := script_of hn hpre hwl
 refine enter_call (codeAny_mono (call w s₀ s₁ mg mb fa o pm cd doc a vs ns G Y ho (fd_plain hd) hcd hmg hobj hints hlen hg) fun r s' hq => ?_)
 obtain ⟨rfl, h2, h3, h4⟩ := hq
 exact ⟨.inl ⟨.bool true, .bool true, [], rfl, fun _ => rfl, .bool true, post_true l _, fun _ => ⟨List.Pairwise.nil, fun _ hm => (nomatch hm)⟩⟩, h2, h3, h4⟩
section
variable {prog : Program} {w : World} {A : Around} {E : Value -> Shared -> Prop} {s : Shared} {K : Frag}
def ledger (h : Heap) (L d : Addr) : List (Addr × Obj) := (List.range h.objs.size).filterMap fun a => if a = L \/ a = d then none else (h.get? a).map fun o => (a, o)
end
end Att
namespace L2
open PySem PySem.Spec PyProof.Rows
theorem vals_ints : ∀ {vs : List Value} {ns : List Int}, IntsAre vs ns -> Vals (ns.map V.int) vs
 | _, _, .nil => .nil
 | _, _, .cons n t h => .cons ⟨t, rfl⟩ (vals_ints h)
def Only (H : Hp) : Prop := ∀ b, H b = none \/ ∃ o xs, H b = some (.frz o (.lst xs))
theorem law_call {P : Program} {w : World} {K : W.Frag} {mg mb : Str -> Option Value} {CX : CXT} {k : Nat} {fa a : Addr} {fd : FuncData} {x : Str} {sp : Sp} {s₁ : Shared} {vs : List Value} {ns : List Int}
 (KX : K.In s₁.heap) (hns : s₁.heap.Ns mainGlobals mg) (hb : s₁.heap.Ns builtinsNs mb) (hbb : ∀ x : Str, x ≠ "__name__" -> mb x = bootBuiltins x) (hlim : s₁.heap.NoLimit) (hg : s₁.gens = #[])
 (ha : s₁.heap.get? a = some { cls := .type "list", data := .seq vs.toArray }) (hi : IntsAre vs ns) (hl : ns.length <= sizeLine) (hr : Room k callerA)
 (F : ∀ base : Heap, K.In base -> base.Ns mainGlobals mg -> FnOk P w K mg base CX k fa fd [x] sp) (hbind : ∀ (s : Shared) (u : Value), BindsTo s fd ⟨[u], []⟩ [(x, u)])
 (hsp : ∀ H : Hp, Only H -> SqL K H a (ns.map V.int) -> sp [.ref a] H (fun v _ => v = .bl true) fun _ _ _ => False)
 (hCX : ∀ H e s', CX [] H s₁ (fun _ _ _ => False) e s' -> False) :
 codeAny (model P w) callerA (.call (.ref fa) ⟨[.ref a], []⟩) (fun r s' => r = .ok (.ret (.bool true)) /\ OldK s₁.heap s'.heap /\ s'.os = s₁.os /\ AllBare s'.gens) s₁ := by
 have rv := vals_ints hi
 have lenV := hi.length
 have core : ∀ H : Hp, Only H -> SqL K H a (ns.map V.int) -> HOk P w H s₁.heap -> (∀ b, H b ≠ none -> b = a) -> (H a ≠ none -> K.lookup a = none) ->
  codeAny (model P w) callerA (.call (.ref fa) ⟨[.ref a], []⟩) (fun r s' => r = .ok (.ret (.bool true)) /\ OldK s₁.heap s'.heap /\ s'.os = s₁.os /\ AllBare s'.gens) s₁ := by
  intro H hO hS hok hA hK
  have base_of : ∀ {b : Addr} {o : Obj}, s₁.heap.get? b = some o -> H b = none -> (hidT s₁.heap H).get? b = some o := fun e n => hidT_get e n
  have noA : ∀ {b : Addr} {o : Obj} {es : Array DictEntry} {ep : Nat}, s₁.heap.get? b = some o -> o.data = .dict es ep -> H b = none := fun {b o es ep} e d => by
   cases q : H b with
   | none => rfl
   | some u =>
     have e' : b = a := hA b (by rw [q]; simp)
     subst e'
     rw [ha] at e; cases e
     have d' : Data.seq vs.toArray _ = Data.dict es ep := d
     cases d'
  have nsK : ∀ {b : Addr} {m : Str -> Option Value}, s₁.heap.Ns b m -> (hidT s₁.heap H).Ns b m := fun {b m} ⟨o, es, ep, e, d, r⟩ => ⟨o, es, ep, base_of e (noA e d), d, r⟩
  have hKb : K.In (hidT s₁.heap H) := fun b o e => base_of (KX b o e) (by
   cases q : H b with
   | none => rfl
   | some u =>
     have e' : b = a := hA b (by rw [q]; simp)
     subst e'
     rw [hK (by rw [q]; simp)] at e; cases e)
  have hM : Mod K mg (hidT s₁.heap H) := ⟨hKb, nsK hns, ⟨mb, nsK hb, hbb⟩, let ⟨mc, h1, h2⟩ := hlim; ⟨mc, nsK h1, h2⟩⟩
  have e0 : Env0 P w K mg (hidT s₁.heap H) callerA [] s₁ H := ⟨rfl, hM, fun b o e => of_hidT e, Nat.le_of_eq (hidT_size _ _), trivial, fun b hb => absurd (show b ∈ ([] : List Addr) from hb) (by simp), hok, .of_eq hg⟩
  refine codeAny_mono ((F _ hKb (nsK hns)).run callerA [] s₁ H ⟨[.ref a], []⟩ [.ref a] [.ref a] _ _ hr e0 (hbind s₁ (.ref a)) (.cons rfl .nil) (hsp H hO hS)) fun r s' h => ?_
  cases r with
  | error e => exact (hCX H e s' h).elim
  | ok fl =>
    cases fl with
    | next => exact False.elim h
    | brk => exact False.elim h
    | cont => exact False.elim h
    | ret u =>
      obtain ⟨v, H', os, bare, un, hok', r', q⟩ := h
      have q' : v = .bl true := q
      subst q'
      obtain rfl : u = Value.bool true := r'
      refine ⟨rfl, OldK.of_keep fun b o e => ?_, os, bare⟩
      cases q : H b with
      | none => exact un.keep b o e q (by intro z; exact absurd (show b ∈ ([] : List Addr) from z) (by simp)) (by simp)
      | some u =>
        rcases hO b with z | ⟨ob, xs, z⟩
        . rw [q] at z; cases z
        . have z2 := un.frzs b ob _ z
          obtain ⟨e1, _⟩ := hok b _ z
          obtain ⟨e2, _⟩ := hok' b _ z2
          rw [e] at e1; cases e1
          exact e2
 cases hk : K.lookup a with
 | some o =>
   have e := KX a o hk
   rw [ha] at e
   cases e
   refine core (fun _ => none) (fun _ => .inl rfl) (.inr ⟨_, vs.toArray, _, hk, rfl, rfl, rfl, by rw [List.size_toArray, lenV]; exact hl, by simpa using rv⟩) (fun b u z => by have z' : (none : Option HO) = some u := z; cases z') (fun b z => absurd rfl z) fun z => absurd rfl z
 | none =>
   refine core (fun b => if b = a then some (.frz { cls := .type "list", data := .seq vs.toArray } (.lst (ns.map V.int))) else none) (fun b => ?_) (.inl (.inr ⟨{ cls := .type "list", data := .seq vs.toArray }, if_pos rfl⟩)) (fun b u z => ?_) (fun b z => ?_) fun _ => hk
   . by_cases hb : b = a
     . exact .inr ⟨_, _, if_pos hb⟩
     . exact .inl (if_neg hb)
   . by_cases hb : b = a
     . have z' := (if_pos hb).symm.trans z
       cases z'
       subst hb
       exact ⟨ha, by rw [List.length_map]; exact hl, vs, _, rv, ha⟩
     . have z' := (if_neg hb).symm.trans z
       cases z'
   . by_cases hb : b = a
     . exact hb
     . exact absurd (if_neg hb) z
end L2
namespace L2
open PySem PySem.Spec PyProof.Rows
theorem walk_of {l : W.OpenLaw} {n k : Nat} {q : Program} {loose : List Str} {XP : (Str -> Option Value) -> Heap -> Prop} {YP : World -> Heap -> Prop} {d : DefRec} {K : Params -> W.Frag} {CX : World -> CXT} {sp : World -> Sp} {x : Str}
 (hn : l.most = some n) (hn2 : n <= sizeLine) (hdf : d.params.defaults = []) (hr : Room k callerA)
 (hY : ∀ (w : World) (h : Heap), YP w h -> (K w.params).In h)
 (F : ∀ (w : World) (mg : Str -> Option Value) (fa : Addr) (h : Heap), (K w.params).In h -> h.Ns mainGlobals mg -> mg d.name = some (.ref fa) ->
  ∃ fd : FuncData, (∀ (s : Shared) (u : Value), BindsTo s fd ⟨[u], []⟩ [(x, u)]) /\
    ∀ base : Heap, (K w.params).In base -> base.Ns mainGlobals mg -> FnOk l.prog w (K w.params) mg base (CX w) k fa fd [x] (sp w))
 (hsp : ∀ (w : World) (H : Hp) (a : Addr) (ns : List Int), ns.length <= n -> Only H -> SqL (K w.params) H a (ns.map V.int) -> sp w [.ref a] H (fun v _ => v = .bl true) fun _ _ _ => False)
 (hCX : ∀ (w : World) (H : Hp) (s : Shared) (e : Value) (s' : Shared), CX w [] H s (fun _ _ _ => False) e s' -> False) :
 W.WalkO q loose XP YP l.row.toRowW d [] (fun f vs => PySem.call f vs) := by
 refine Att.attach_call hn hdf fun w s₀ s₁ mg mb fa o pm cd doc a vs ns G Y ho hd hcd hmg hobj hints hlen hg => ?_
 have KX := hY w _ Y
 obtain ⟨fd, hb, hF⟩ := F w mg fa _ KX G.T.g hmg
 exact law_call KX G.T.g G.T.b G.T.builtins G.T.nolimit hg hobj hints (Nat.le_trans hlen hn2) hr hF hb (fun H hO hS => hsp w H a ns hlen hO hS) fun H e s' => hCX w H s₁ e s'
end L2
namespace L2
open PySem PySem.Spec PyProof.Rows
def inClass (s : Stmt) (j : Nat) : Stmt := match s with
 | .ClassDef _ _ _ body _ _ _ _ _ _ _ => body.getD j (.Pass ⟨0, 0, 0, 0⟩)
 | _ => .Pass ⟨0, 0, 0, 0⟩
def defArgs (s : Stmt) : Arguments := match s with
 | .FunctionDef _ a _ _ _ _ _ _ _ _ => a
 | _ => { posonlyargs := [], args := [], vararg := none, kwonlyargs := [], kw_defaults := [], kwarg := none, defaults := [] }
def defBody (s : Stmt) : List Stmt := match s with
 | .FunctionDef _ _ b _ _ _ _ _ _ _ => b
 | _ => []
def defScope (s : Stmt) : Scope := match s with
 | .FunctionDef _ _ _ _ _ _ sc _ _ _ => sc
 | _ => { kind := .function, names := [], isGenerator := false, isCoroutine := false }
abbrev E0 : XK := fun _ _ _ => False
structure Fun (K : W.Frag) (x qual : Str) (st : Stmt) (f : Addr) (fd : FuncData) : Prop where
 ex : ∃ (oc : Value) (od : Option Addr) (kV doc pm : Value) (an : Option Addr) (cdv ct : Value) (osl : Array (Option Value)),
  fd = W.fnOf x qual (defArgs st) (defBody st) (defScope st) .none kV doc pm an cdv ct /\ K.lookup f = some ⟨oc, od, .func fd, osl⟩ /\ W.codeIn K cdv qual = true
 kp : W.keepIn K (.ref f) = true
section
variable {P : Program} {w : World} {K : W.Frag} {mg : Str -> Option Value} {base : Heap}
theorem Fun.binds {x qual : Str} {st : Stmt} {f : Addr} {fd : FuncData} {ps : List Str} (F : Fun K x qual st f fd)
 (h : ∀ (kV doc pm : Value) (an : Option Addr) (cdv ct : Value) (us : List Value), us.length = ps.length -> bindArgs (W.fnOf x qual (defArgs st) (defBody st) (defScope st) .none kV doc pm an cdv ct) ⟨us, []⟩ = pure (ps.zip us)) : Binds K fd ps [] := by
 obtain ⟨oc, od, kV, doc, pm, an, cdv, ct, osl, rfl, lk, hcd⟩ := F.ex
 exact .all (h kV doc pm an cdv ct)
theorem fun_mk {x qual : Str} {st : Stmt} {f : Addr} {oc : Value} {od an : Option Addr} {osl : Array (Option Value)} {kV doc pm cdv ct : Value} (l : K.lookup f = some ⟨oc, od, .func (W.fnOf x qual (defArgs st) (defBody st) (defScope st) .none kV doc pm an cdv ct), osl⟩)
 (c : W.codeIn K cdv qual = true) (k : W.keepIn K (.ref f) = true) : Fun K x qual st f (W.fnOf x qual (defArgs st) (defBody st) (defScope st) .none kV doc pm an cdv ct) := ⟨⟨oc, od, kV, doc, pm, an, cdv, ct, osl, rfl, l, c⟩, k⟩
end
theorem hu_of {A : Around} {k : Nat} (hr : Room k A) : A.units + 1 < cLine := Nat.lt_of_le_of_lt (Nat.add_le_add_left (by decide : 1 <= 64) _) hr.units
section
variable {X : Cx}
theorem pv (i : Nat) {x : Str} {pos : Pos} (hN : X.N[i]? = some x := by rfl) (hv : Vis X.env.scope x := by first | exact Or.inl rfl | exact Or.inr (Or.inl rfl) | exact Or.inr (Or.inr rfl)) (hd : (x == ("__debug__" : Str)) = false := by decide)
 (hcd : (x == ("__classdict__" : Str)) = false := by decide) : PE X (.Name x pos) (tVar i) := pe_var hN hv hd hcd
end
theorem iteF {A B : Prop} (h : B) : if false = true then A else B := by
 rw [if_neg Bool.false_ne_true]
 exact h
theorem iteT {A B : Prop} (h : A) : if true = true then A else B := by
 rw [if_pos rfl]
 exact h
def Same (H H' : Hp) : Prop := ∀ b o, H b = some o -> H' b = some o
theorem Same.refl (H : Hp) : Same H H := fun _ _ h => h
theorem Same.trans {H H1 H2 : Hp} (a : Same H H1) (b : Same H1 H2) : Same H H2 := fun c o h => b c o (a c o h)
theorem Same.free {H H' : Hp} (e : Same H H') {l : Addr} (h : H' l = Option.none) : H l = Option.none := by
 cases q : H l with
 | none => rfl
 | some o =>
   rw [e l o q] at h
   cases h
theorem Same.seq {K : W.Frag} {H H' : Hp} {a : Addr} {xs : List V} (e : Same H H') (h : SqL K H a xs) : SqL K H' a xs := by
 rcases h with (h | ⟨o, h⟩) | h
 . exact .inl (.inl (e _ _ h))
 . exact .inl (.inr ⟨o, e _ _ h⟩)
 . exact .inr h
end L2
namespace L2
open PySem PySem.Spec PyProof.Rows
section
variable {κ : Type} [DecidableEq κ]
def valV (kvs : List (κ × V)) (k : κ) : Option V := (kvs.find? fun kv => decide (kv.1 = k)).map (·.2)
def putK (kvs : List (κ × V)) (k : κ) (v : V) : List (κ × V) :=
 if (kvs.any fun kv => decide (kv.1 = k)) = true then kvs.map (fun kv => if kv.1 = k then (kv.1, v) else kv) else kvs ++ [(k, v)]
theorem valV_nil {k : κ} : valV ([] : List (κ × V)) k = none := rfl
theorem valV_pos {p : κ × V} {r : List (κ × V)} {k : κ} (e : p.1 = k) : valV (p :: r) k = some p.2 := by simp [valV, List.find?_cons, e]
theorem valV_neg {p : κ × V} {r : List (κ × V)} {k : κ} (e : ¬ p.1 = k) : valV (p :: r) k = valV r k := by simp [valV, List.find?_cons, e]
theorem valV_any (k : κ) : ∀ kvs : List (κ × V), (kvs.any fun kv => decide (kv.1 = k)) = (valV kvs k).isSome
 | [] => rfl
 | p :: r => by
   rw [List.any_cons]
   by_cases e : p.1 = k
   . simp only [valV_pos e, decide_eq_true e, Bool.true_or, Option.isSome_some]
   . rw [valV_neg e, decide_eq_false e, Bool.false_or]; exact valV_any k r
theorem valV_map (k j : κ) (y : V) : ∀ kvs : List (κ × V), valV (kvs.map fun kv => if kv.1 = k then (kv.1, y) else kv) j = (valV kvs j).map fun x => if j = k then y else x
 | [] => rfl
 | p :: r => by
   have ih := valV_map k j y r
   rw [List.map_cons]
   by_cases h : p.1 = k
   . rw [if_pos h]
     by_cases e : p.1 = j
     . rw [valV_pos (p := (p.1, y)) e, valV_pos e, Option.map_some, if_pos (e.symm.trans h)]
     . rw [valV_neg (p := (p.1, y)) e, valV_neg e, ih]
   . rw [if_neg h]
     by_cases e : p.1 = j
     . rw [valV_pos (p := p) e, valV_pos e, Option.map_some, if_neg (fun z => h (e.trans z))]
     . rw [valV_neg (p := p) e, valV_neg e, ih]
theorem valV_snoc (k j : κ) (y : V) : ∀ kvs : List (κ × V), valV kvs k = none -> valV (kvs ++ [(k, y)]) j = if j = k then some y else valV kvs j
 | [], _ => by
   by_cases e : k = j
   . rw [if_pos e.symm]; exact valV_pos (p := (k, y)) e
   . rw [if_neg (fun z => e z.symm)]; exact valV_neg (p := (k, y)) e
 | p :: r, hn => by
   rw [List.cons_append]
   have hk : ¬ p.1 = k := fun z => by rw [valV_pos z] at hn; cases hn
   rw [valV_neg hk] at hn
   have ih := valV_snoc k j y r hn
   by_cases e : p.1 = j
   . rw [valV_pos e, valV_pos e, if_neg (fun z => hk (e.trans z))]
   . rw [valV_neg e, valV_neg e, ih]
theorem valV_put (kvs : List (κ × V)) (k j : κ) (y : V) : valV (putK kvs k y) j = if j = k then some y else valV kvs j := by
 unfold putK
 by_cases a : (kvs.any fun kv => decide (kv.1 = k)) = true
 . rw [if_pos a, valV_map]
   rw [valV_any] at a
   by_cases e : j = k
   . obtain ⟨x, hx⟩ := Option.isSome_iff_exists.mp a
     rw [if_pos e, e, hx, Option.map_some, if_pos rfl]
   . rw [if_neg e]
     cases valV kvs j with
     | none => rfl
     | some x => rw [Option.map_some, if_neg e]
 . rw [if_neg a]
   refine valV_snoc k j y kvs ?_
   rw [valV_any] at a
   cases q : valV kvs k with
   | none => rfl
   | some x => rw [q] at a; exact (a rfl).elim
theorem length_putK (kvs : List (κ × V)) (k : κ) (v : V) : (putK kvs k v).length <= kvs.length + 1 := by
 unfold putK
 split
 . rw [List.length_map]; omega
 . rw [List.length_append, List.length_cons, List.length_nil]; omega
theorem putK_new {kvs : List (κ × V)} {k : κ} (v : V) (h : valV kvs k = none) : putK kvs k v = kvs ++ [(k, v)] := by
 unfold putK
 rw [valV_any, h]
 exact if_neg (by decide)
theorem RelO.isSome_eq {o : Option V} {u : Option Value} (r : RelO o u) : o.isSome = u.isSome := by
 cases o with
 | none => cases u with
   | none => rfl
   | some _ => exact (show False from r).elim
 | some _ => cases u with
   | none => exact (show False from r).elim
   | some _ => rfl
theorem RelO.getD {o : Option V} {u : Option Value} {d : V} {d' : Value} (r : RelO o u) (rd : RelV d d') : RelV (o.getD d) (u.getD d') := by
 cases o with
 | none => cases u with
   | none => exact rd
   | some _ => exact (show False from r).elim
 | some _ => cases u with
   | none => exact (show False from r).elim
   | some _ => exact r
theorem KV.val {kvs : List (κ × V)} {vs : List (κ × Value)} (r : KV kvs vs) (k : κ) : RelO (valV kvs k) (valueAt vs k) := by
 unfold KV at r
 induction r with
 | nil => exact True.intro
 | @cons p q ps qs h t ih =>
   obtain ⟨h1, h2⟩ := h
   by_cases e : p.1 = k
   . have e' : q.1 = k := h1.symm.trans e
     have b : valueAt (q :: qs) k = some q.2 := by simp [valueAt, List.find?_cons, e']
     rw [valV_pos e, b]; exact h2
   . have e' : ¬ q.1 = k := fun z => e (h1.trans z)
     have b : valueAt (q :: qs) k = valueAt qs k := by simp [valueAt, List.find?_cons, e']
     rw [valV_neg e, b]; exact ih
theorem KV.any {kvs : List (κ × V)} {vs : List (κ × Value)} (r : KV kvs vs) (k : κ) : (kvs.any fun kv => decide (kv.1 = k)) = vs.any fun kv => decide (kv.1 = k) := by
 unfold KV at r
 induction r with
 | nil => rfl
 | cons h t ih => rw [List.any_cons, List.any_cons, ih, h.1]
theorem KV.repl {kvs : List (κ × V)} {vs : List (κ × Value)} (r : KV kvs vs) (k : κ) {y : V} {u : Value} (ry : RelV y u) :
 KV (kvs.map fun kv => if kv.1 = k then (kv.1, y) else kv) (vs.map fun kv => if kv.1 = k then (kv.1, u) else kv) := by
 unfold KV at r ⊢
 induction r with
 | nil => exact .nil
 | @cons p q ps qs h t ih =>
   rw [List.map_cons, List.map_cons]
   refine .cons ?_ ih
   obtain ⟨h1, h2⟩ := h
   by_cases e : p.1 = k
   . rw [if_pos e, if_pos (h1.symm.trans e)]; exact ⟨h1, ry⟩
   . rw [if_neg e, if_neg (fun z => e (h1.trans z))]; exact ⟨h1, h2⟩
theorem KV.put {kvs : List (κ × V)} {vs : List (κ × Value)} (r : KV kvs vs) (k : κ) {y : V} {u : Value} (ry : RelV y u) : KV (putK kvs k y) (stored vs k u) := by
 unfold putK stored
 rw [r.any k]
 by_cases e : (vs.any fun kv => decide (kv.1 = k)) = true
 . rw [if_pos e, if_pos e]; exact r.repl k ry
 . rw [if_neg e, if_neg e]; exact Paired.snoc r ⟨rfl, ry⟩
theorem KV.keys {kvs : List (κ × V)} {vs : List (κ × Value)} (r : KV kvs vs) : kvs.map (·.1) = vs.map (·.1) := by
 unfold KV at r
 induction r with
 | nil => rfl
 | cons h t ih => rw [List.map_cons, List.map_cons, ih, h.1]
theorem KV.length {kvs : List (κ × V)} {vs : List (κ × Value)} (r : KV kvs vs) : kvs.length = vs.length := Paired.length r
end
theorem kV_is {P : Program} {w : World} {k : Key} {u : Value} (r : RelV (kV k) u) : (mixKind P w).is k u = true := by
 cases k with
 | inl i => obtain ⟨t, e⟩ := (show ∃ t, u = Value.int i t from r); subst e; exact mixKind_int P w i t
 | inr x => obtain ⟨t, e⟩ := (show ∃ t, u = Value.str x t from r); subst e; exact mixKind_str P w x t
theorem items_are {P : Program} {w : World} : ∀ {ks : List Key} {us : List Value}, Vals (ks.map kV) us -> ItemsAre (mixKind P w) ks us
 | [], _, r => by rw [List.map_nil] at r; cases r; exact .nil
 | k :: ks, _, r => by
   rw [List.map_cons] at r
   cases r with
   | cons h t => exact .cons (kV_is h) (items_are t)
abbrev KT (H : Hp) : List (List Key × V) -> List (List Key × Addr × Value) -> Prop := Paired fun p q => p.1 = q.1 /\ H q.2.1 = some (.tup (p.1.map kV)) /\ RelV p.2 q.2.2
theorem KT.val {H : Hp} {kvs : List (List Key × V)} {xs : List (List Key × Addr × Value)} (r : KT H kvs xs) (k : List Key) : RelO (valV kvs k) ((atKey xs k).map (·.2)) := by
 induction r with
 | nil => exact True.intro
 | @cons p q ps qs h t ih =>
   obtain ⟨h1, _, h2⟩ := h
   by_cases e : p.1 = k
   . have e' : q.1 = k := h1.symm.trans e
     have b : atKey (q :: qs) k = some q.2 := by simp [atKey, List.find?_cons, e']
     rw [valV_pos e, b]; exact h2
   . have e' : ¬ q.1 = k := fun z => e (h1.trans z)
     have b : atKey (q :: qs) k = atKey qs k := by simp [atKey, List.find?_cons, e']
     rw [valV_neg e, b]; exact ih
theorem KT.repl {H : Hp} {kvs : List (List Key × V)} {xs : List (List Key × Addr × Value)} (r : KT H kvs xs) (k : List Key) {y : V} {u : Value} (ry : RelV y u) :
 KT H (kvs.map fun kv => if kv.1 = k then (kv.1, y) else kv) (xs.map (putAt k u)) := by
 induction r with
 | nil => exact .nil
 | @cons p q ps qs h t ih =>
   rw [List.map_cons, List.map_cons]
   refine .cons ?_ ih
   obtain ⟨h1, h2, h3⟩ := h
   unfold putAt
   by_cases e : p.1 = k
   . rw [if_pos e, if_pos (h1.symm.trans e)]; exact ⟨h1, h2, ry⟩
   . rw [if_neg e, if_neg (fun z => e (h1.trans z))]; exact ⟨h1, h2, h3⟩
theorem KT.put {H : Hp} {kvs : List (List Key × V)} {xs : List (List Key × Addr × Value)} (r : KT H kvs xs) (k : List Key) {b : Addr} {y : V} {u : Value} (hb : H b = some (.tup (k.map kV))) (ry : RelV y u) :
 KT H (putK kvs k y) (storedH xs k b u) := by
 have e : (kvs.any fun kv => decide (kv.1 = k)) = (atKey xs k).isSome := by
  rw [valV_any, (r.val k).isSome_eq, Option.isSome_map]
 unfold putK storedH
 rw [e]
 by_cases q : (atKey xs k).isSome = true
 . rw [if_pos q, if_pos q]; exact r.repl k ry
 . rw [if_neg q, if_neg q]; exact Paired.snoc r ⟨rfl, hb, ry⟩
theorem KT.keeps {H H' : Hp} {kvs : List (List Key × V)} {xs : List (List Key × Addr × Value)} (r : KT H kvs xs) (ht : ∀ b ys, H b = some (.tup ys) -> H' b = some (.tup ys)) : KT H' kvs xs :=
 Paired.mapP r fun _ _ z => ⟨z.1, ht _ _ z.2.1, z.2.2⟩
section
variable {P : Program} {w : World} {H : Hp} {h : Heap} {a : Addr}
theorem rd_of {u : HO} (ok : HOk P w H h) (e : Rd H a u) : ObjOk P w H h a u := e.ok ok
theorem dk_rd {kvs : List (Key × V)} (ok : HOk P w H h) (e : Rd H a (.dK kvs)) : kvs.length <= sizeLine /\ (a == sysModules) = false /\ ∃ vs, KV kvs vs /\ h.DictOf (mixKind P w) a vs :=
 show ObjOk P w H h a (.dK kvs) from rd_of ok e
theorem dk_of {kvs : List (Key × V)} (ok : HOk P w H h) (e : H a = some (.dK kvs)) : kvs.length <= sizeLine /\ (a == sysModules) = false /\ ∃ vs, KV kvs vs /\ h.DictOf (mixKind P w) a vs := dk_rd ok (.inl e)
theorem key_of {ks : List Key} (ok : HOk P w H h) (e : H a = some (.tup (ks.map kV))) : (tupleKind (mixKind P w)).is h ks a := by
 obtain ⟨_, its, r, o, h1, h2, n, h3⟩ := (show ObjOk P w H h a (.tup (ks.map kV)) from ok a _ e)
 exact ⟨o, its.toArray, n, h1, h2, h3, by simpa using items_are r⟩
theorem dt_rd {kvs : List (List Key × V)} (ok : HOk P w H h) (e : Rd H a (.dT kvs)) : kvs.length <= sizeLine /\ (a == sysModules) = false /\
 ∃ xs, KT H kvs xs /\ h.DictOfH (tupleKind (mixKind P w)) a xs := by
 obtain ⟨z, y, xs, r, o, es, ep, h1, h2, h3, h4, h5⟩ := (show ObjOk P w H h a (.dT kvs) from rd_of ok e)
 refine ⟨z, y, xs, r, o, es, ep, h1, h2, h3, h4, fun x hx => ?_, h5⟩
 have all : ∀ {l : List (List Key × V)} {m : List (List Key × Addr × Value)}, KT H l m -> ∀ x ∈ m, (tupleKind (mixKind P w)).is h x.1 x.2.1 := by
  intro l m q
  induction q with
  | nil => intro x hx; exact nomatch hx
  | @cons p q ps qs hq t ih =>
    intro x hx
    rcases List.mem_cons.mp hx with e | hx
    . subst e
      exact key_of ok (by rw [<- hq.1]; exact hq.2.1)
    . exact ih x hx
 exact all r x hx
theorem dt_of {kvs : List (List Key × V)} (ok : HOk P w H h) (e : H a = some (.dT kvs)) : kvs.length <= sizeLine /\ (a == sysModules) = false /\
 ∃ xs, KT H kvs xs /\ h.DictOfH (tupleKind (mixKind P w)) a xs := dt_rd ok (.inl e)
end
def DGet (H : Hp) (a : Addr) (y : V) (r : Option V) : Prop :=
 (∃ kvs k, Rd H a (.dK kvs) /\ y = kV k /\ r = valV kvs k) \/ ∃ kvs k b, Rd H a (.dT kvs) /\ y = .ref b /\ H b = some (.tup (k.map kV)) /\ r = valV kvs k
def DPut (H : Hp) (a : Addr) (y v : V) (H' : Hp) : Prop :=
 (∃ kvs k, H a = some (.dK kvs) /\ y = kV k /\ kvs.length < sizeLine /\ H' = upd H a (.dK (putK kvs k v))) \/
 ∃ kvs k b, H a = some (.dT kvs) /\ y = .ref b /\ H b = some (.tup (k.map kV)) /\ kvs.length < sizeLine /\ H' = upd H a (.dT (putK kvs k v))
theorem DGet.k {H : Hp} {a : Addr} {kvs : List (Key × V)} {k : Key} (e : H a = some (.dK kvs)) : DGet H a (kV k) (valV kvs k) := .inl ⟨kvs, k, .inl e, rfl, rfl⟩
theorem DPut.k {H : Hp} {a : Addr} {kvs : List (Key × V)} {k : Key} {v : V} (e : H a = some (.dK kvs)) (hl : kvs.length < sizeLine) : DPut H a (kV k) v (upd H a (.dK (putK kvs k v))) := .inl ⟨kvs, k, e, rfl, hl, rfl⟩
section
variable {X : Cx} {pins : List (Addr × Obj)} {σ : St} {H : Hp} {s : Shared} {a : Addr} {y v : V} {u r : Value} {o : Option V} {A : Around} {E : Value -> Shared -> Prop}
theorem Inv.big (I : Inv X pins σ H s) : sysModules < s.heap.objs.size := by
 have h : mainGlobals < s.heap.objs.size := (I.mod.glob.keeps I.bk).lt
 exact Nat.lt_trans (by decide) h
theorem d_getItem {Q : Value -> Shared -> Prop} (hu : A.units + 1 < cLine) (I : Inv X pins σ H s) (g : DGet H a y (some v)) (ry : RelV y u) (h : ∀ w' s', Inv X pins σ H s' -> RelV v w' -> Q w' s') :
 wpAny (model X.prog X.w) A (getItem (.ref a) u) Q E s := by
 rcases g with ⟨kvs, k, e, ey, l⟩ | ⟨kvs, k, b, e, ey, eb, l⟩
 . subst ey
   obtain ⟨z, hd, vs, rel, dd⟩ := dk_rd I.hok e
   obtain ⟨w', hw, rw'⟩ := RelO.some_of (v := v) (o := valueAt vs k) (by rw [l]; exact rel.val k)
   exact wpAny_getItem_of (kV_is ry) dd.mapOf hw (h w' _ (I.tok _) rw')
 . subst ey
   cases (show u = Value.ref b from ry)
   obtain ⟨z, hd, xs, rel, dd⟩ := dt_rd I.hok e
   obtain ⟨w', hw, rw'⟩ := RelO.some_of (v := v) (o := (atKey xs k).map (·.2)) (by rw [l]; exact rel.val k)
   obtain ⟨p, hp, hp2⟩ := Option.map_eq_some_iff.mp hw
   refine wpAny_getItem_heap (tupleKind_room_in1 hu) (key_of I.hok eb) dd hp ?_
   rw [hp2]
   exact h w' _ (I.tok _) rw'
theorem d_notIn {Q : Value -> Shared -> Prop} (hu : A.units + 1 < cLine) (I : Inv X pins σ H s) (g : DGet H a y o) (ry : RelV y u) (h : ∀ s', Inv X pins σ H s' -> Q (.bool (!o.isSome)) s') :
 wpAny (model X.prog X.w) A (compareOp .NotIn u (.ref a)) Q E s := by
 rcases g with ⟨kvs, k, e, ey, l⟩ | ⟨kvs, k, b, e, ey, eb, l⟩
 . subst ey
   obtain ⟨z, hd, vs, rel, dd⟩ := dk_rd I.hok e
   refine wpAny_notIn_of (kV_is ry) hd dd.mapOf ?_
   rw [<- (rel.val k).isSome_eq, <- l]
   exact h _ (I.tok _)
 . subst ey
   cases (show u = Value.ref b from ry)
   obtain ⟨z, hd, xs, rel, dd⟩ := dt_rd I.hok e
   refine wpAny_notIn_heap (tupleKind_room_in1 hu) (key_of I.hok eb) hd dd ?_
   have q := (rel.val k).isSome_eq
   rw [Option.isSome_map] at q
   rw [<- q, <- l]
   exact h _ (I.tok _)
theorem d_write {h' : Heap} {t' : Nat} {ob : HO} (I : Inv X pins σ H s) (mu : Mut (H a)) (hs : Heap.SameBut a s.heap h') (he : ∃ q, h'.get? a = some q) (new : ObjOk X.prog X.w (upd H a ob) h' a ob) :
 Inv X pins σ (upd H a ob) { s with heap := h', toks := t' } :=
 I.write (x := a) (e := a) mu (.inl rfl) (fun b q hb z => (hs.2 b hb).trans z) he new
theorem dk_new {P : Program} {w : World} {H' : Hp} {h' : Heap} {kvs : List (Key × V)} {vs : List (Key × Value)} (z : kvs.length <= sizeLine) (hd : (a == sysModules) = false) (rel : KV kvs vs) (dd : h'.DictOf (mixKind P w) a vs) :
 ObjOk P w H' h' a (.dK kvs) := ⟨z, hd, vs, rel, dd⟩
theorem d_setItem {H' : Hp} {Q : Unit -> Shared -> Prop} (hu : A.units + 1 < cLine) (I : Inv X pins σ H s) (g : DPut H a y v H') (ry : RelV y u) (rv : RelV v r) (h : ∀ s', Inv X pins σ H' s' -> Q () s') :
 wpAny (model X.prog X.w) A (setItem (.ref a) u r) Q E s := by
 rcases g with ⟨kvs, k, e, ey, l, eH⟩ | ⟨kvs, k, b, e, ey, eb, l, eH⟩
 . subst ey eH
   obtain ⟨z, hd, vs, rel, dd⟩ := dk_of I.hok e
   have hz : vs.length <= sizeLine := by rw [<- rel.length]; exact z
   have hl : (putK kvs k v).length <= sizeLine := by have := length_putK kvs k v; omega
   refine wpAny_setItem_pairs (hsz := hz) (kV_is ry) dd fun h' dd' hs => h _ ?_
   have he : ∃ q, h'.get? a = some q := let ⟨q, _, _, hq, _⟩ := dd'; ⟨q, hq⟩
   exact d_write I (by rw [e]; exact True.intro) hs he (dk_new hl hd (rel.put k rv) dd')
 . subst ey eH
   cases (show u = Value.ref b from ry)
   obtain ⟨z, hd, xs, rel, dd⟩ := dt_of I.hok e
   have hz : xs.length <= sizeLine := by rw [<- Paired.length rel]; exact z
   have hl : (putK kvs k v).length <= sizeLine := by have := length_putK kvs k v; omega
   refine wpAny_setItem_heap (hsz := hz) (tupleKind_room_in1 hu) (key_of I.hok eb) dd fun h' dd' hs => h _ ?_
   obtain ⟨q, es, ep, hq, h2, h3, h4, _, h5⟩ := dd'
   refine d_write I (by rw [e]; exact True.intro) hs ⟨q, hq⟩ ⟨hl, hd, _, (rel.put k eb rv).keeps fun c ys ec => ?_, q, es, ep, hq, h2, h3, h4, h5⟩
   rw [upd_ne (ne_of ec e (fun z => nomatch z))]
   exact ec
end
section
variable {X : Cx} {pins : List (Addr × Obj)} {σ : St} {H : Hp} {s : Shared} {a : Addr} {kvs : List (Key × V)} {k : Key} {u : Value} {A : Around} {E : Value -> Shared -> Prop}
end
def NoSl (i : Expr) : Prop := ∀ ov iv, subscripted i false ov iv = operate [ov, iv] (getItem ov iv)
theorem subD_of {prog : Program} {w : World} {A : Around} {E : Value -> Shared -> Prop} {s : Shared} {env : Env} {value slice : Expr} {pos : Pos} {T id : String} {Q : Value -> Shared -> Prop}
 (hl : typeLookup (.type T) "__getitem__" = pure (some (.builtin id))) (hs : NoSl slice)
 (h : wpAny (model prog w) A (eval value env) (fun o s₁ => wpAny (model prog w) A (eval slice env) (fun i s₂ => s₂.TypeIs o T /\ wpAny (model prog w) A (getItem o i) Q E s₂) E s₁) E s) :
 wpAny (model prog w) A (eval (.Subscript value slice pos) env) Q E s := by
 refine Subscript_ (wpAny_mono h (fun o s₁ h₁ => wpAny_mono h₁ (fun i s₂ h₂ => ?_) fun _ _ x => x) fun _ _ x => x)
 obtain ⟨hT, h₂⟩ := h₂
 unfold subscriptTail
 refine wpAny_bind ?_
 rw [getitemInPython_of_ne hT.not_modules]
 refine wpAny_bind (wpAny_specialOf hT hl ?_)
 have fin : wpAny (model prog w) A (subscripted slice false o i) (fun r s₃ => wpAny (model prog w) A (letTemporaryGo value o r >>= fun _ => pure r) Q E s₃) E s₂ := by
  rw [hs o i]
  exact wpAny_operating (wpAny_mono h₂ (fun r s₃ h₃ => wpAny_bind (wpAny_letTemporaryGo (wpAny_pure h₃))) fun _ _ x => x)
 first
  | exact wpAny_pure (wpAny_bind fin)
  | exact wpAny_bind (wpAny_pure (wpAny_bind fin))
  | exact wpAny_bind fin
theorem dict_typeIs {X : Cx} {pins : List (Addr × Obj)} {σ : St} {H : Hp} {s : Shared} {a : Addr} {y : V} {o : Option V} (I : Inv X pins σ H s) (g : DGet H a y o) : s.TypeIs (.ref a) "dict" := by
 rcases g with ⟨kvs, k, e, _, _⟩ | ⟨kvs, k, b, e, _, _, _⟩
 . obtain ⟨_, _, vs, _, dd⟩ := dk_rd I.hok e
   exact dd.typeIs
 . obtain ⟨_, _, xs, _, dd⟩ := dt_rd I.hok e
   exact dd.typeIs
def tDGet (td ty : TE) : TE := fun σ H Q => td σ H fun x H1 => ty σ H1 fun y H2 => ∃ a v, x = .ref a /\ DGet H2 a y (some v) /\ Q v H2
def tDNotIn (ty td : TE) : TE := fun σ H Q => ty σ H fun y H1 => td σ H1 fun x H2 => ∃ a o, x = .ref a /\ DGet H2 a y o /\ Q (.bl (!o.isSome)) H2
def sDPut (td ty tv : TE) : TS := fun D σ H => tv σ H fun v H1 => td σ H1 fun x H2 => ty σ H2 fun y H3 => ∃ a H4, x = .ref a /\ DPut H3 a y v H4 /\ D.nx σ H4
section
variable {X : Cx} {o i e value : Expr} {pos pos' tpos : Pos} {td ty tv : TE}
theorem pe_dget (hu : X.A.units + 1 < cLine) (ho : PE X o td) (hi : PE X i ty) (hs : NoSl i) : PE X (.Subscript o i pos) (tDGet td ty) := by
 intro pins s σ H Q I h
 refine subD_of PySem.F.slot_dict_getitem.lookup hs (thn (ho pins s σ H _ I h) fun u s1 ⟨x, H1, I1, rx, q1⟩ => thn (hi pins s1 σ H1 _ I1 q1) fun iv s2 ⟨y, H2, I2, ry, a, v, ex, g, q2⟩ => ?_)
 subst ex
 obtain rfl : u = Value.ref a := rx
 exact ⟨dict_typeIs I2 g, d_getItem hu I2 g ry fun w' s3 I3 rw' => ⟨v, H2, I3, rw', q2⟩⟩
theorem pc_dnotin (hu : X.A.units + 1 < cLine) (hi : PE X i ty) (ho : PE X o td) : PC X .NotIn i o (tDNotIn ty td) := by
 intro pins s σ H Q I h
 refine thn (hi pins s σ H _ I h) fun iv s1 ⟨y, H1, I1, ry, q1⟩ => thn (ho pins s1 σ H1 _ I1 q1) fun u s2 ⟨x, H2, I2, rx, a, ov, ex, g, q2⟩ => ?_
 subst ex
 obtain rfl : u = Value.ref a := rx
 exact d_notIn hu I2 g ry fun s3 I3 => ⟨.bl (!ov.isSome), H2, I3, rfl, q2⟩
theorem ps_dput (hu : X.A.units + 1 < cLine) (ho : PE X o td) (hi : PE X i ty) (hv : PE X value tv) (hs : swapsWith value (some (.Subscript o i pos')) pos.line X.env = pure false) :
 PS X (.Assign [.Subscript o i pos'] value pos) (sDPut td ty tv) := by
 intro pins s σ H D I h
 refine wpAny_Assign_Subscript (thn (hv pins s σ H _ I h) fun r s1 ⟨v, H1, I1, rv, q1⟩ => thn (ho pins s1 σ H1 _ I1 q1) fun u s2 ⟨x, H2, I2, rx, q2⟩ => thn (hi pins s2 σ H2 _ I2 q2) fun iv s3 ⟨y, H3, I3, ry, a, H4, ex, g, q3⟩ => ?_) hs
 subst ex
 obtain rfl : u = Value.ref a := rx
 exact d_setItem hu I3 g ry rv fun s4 I4 => ⟨σ, H4, I4, q3⟩
end
theorem dk_empty {P : Program} {w : World} {H : Hp} (h : Heap) (hb : sysModules < h.objs.size) : ObjOk P w H (h.push { cls := .type "dict", data := .dict #[] }) h.objs.size (.dK []) :=
 ⟨Nat.zero_le _, beq_eq_false_iff_ne.mpr (Ne.symm (Nat.ne_of_lt hb)), [], .nil, Heap.DictOf.new h⟩
def tDNewK : TE := fun _ H Q => ∀ p, H p = none -> Q (.ref p) (upd H p (.dK []))
section
variable {X : Cx} {pos : Pos}
theorem pe_dnewK : PE X (.Dict [] [] pos) tDNewK := fun pins s σ H Q I h =>
 wpAny_Dict_empty ⟨.ref s.heap.objs.size, _, I.laid (a := s.heap.objs.size) (o := .dK []) (t' := s.toks) (fun _ _ q => Heap.get?_push_of_some _ q) (Nat.le_refl _) (dk_empty s.heap I.big), rfl, h _ (I.hok.fresh (Nat.le_refl _))⟩
end
def tPairs : List (TE × TE) -> St -> Hp -> (List (V × V) -> Hp -> Prop) -> Prop
 | [], _, H, Q => Q [] H
 | (tk, tv) :: r, σ, H, Q => tk σ H fun x H1 => tv σ H1 fun y H2 => tPairs r σ H2 fun ps H3 => Q ((x, y) :: ps) H3
abbrev VV : List (V × V) -> List (Value × Value) -> Prop := Paired fun p q => RelV p.1 q.1 /\ RelV p.2 q.2
def PPs (X : Cx) (pos : Pos) (keys : List (Option Expr)) (values : List Expr) (trs : List (TE × TE)) : Prop :=
 ∀ (pins : List (Addr × Obj)) (s : Shared) (σ : St) (H : Hp) (Q : List (V × V) -> Hp -> Prop), Inv X pins σ H s -> tPairs trs σ H Q ->
   wpAny (model X.prog X.w) X.A (evalPairs (pairTrees keys values X.env pos)) (fun vs s' => ∃ ps H', Inv X pins σ H' s' /\ VV ps vs /\ Q ps H') X.xe s
theorem pps_nil {X : Cx} {pos : Pos} : PPs X pos [] [] [] := fun pins s σ H Q I h => pairTrees_nil_walk ⟨[], H, I, .nil, h⟩
theorem pps_cons {X : Cx} {pos : Pos} {k v : Expr} {ks : List (Option Expr)} {vs : List Expr} {tk tv : TE} {trs : List (TE × TE)} (hk : PE X k tk) (hv : PE X v tv) (hr : PPs X pos ks vs trs) :
 PPs X pos (some k :: ks) (v :: vs) ((tk, tv) :: trs) := fun pins s σ H Q I h =>
 pairTrees_cons_walk (thn (hk pins s σ H _ I h) fun u s1 ⟨x, H1, I1, rx, q1⟩ => thn (hv pins s1 σ H1 _ I1 q1) fun w2 s2 ⟨y, H2, I2, ry, q2⟩ =>
  thn (hr pins s2 σ H2 _ I2 q2) fun ws s3 ⟨ps, H3, I3, rel, q3⟩ => ⟨(x, y) :: ps, H3, I3, .cons ⟨rx, ry⟩ rel, q3⟩)
def mergeK (kvs more : List (Key × V)) : List (Key × V) := more.foldl (fun acc kv => putK acc kv.1 kv.2) kvs
theorem KV.merge : ∀ {more : List (Key × V)} {rs : List (Key × Value)} {kvs : List (Key × V)} {vs : List (Key × Value)}, KV more rs -> KV kvs vs -> KV (mergeK kvs more) (merged vs rs) := by
 intro more rs kvs vs r
 unfold KV at r
 induction r generalizing kvs vs with
 | nil => intro q; exact q
 | @cons p q ps qs h t ih =>
   intro r0
   have e : KV (putK kvs p.1 p.2) (stored vs q.1 q.2) := by
    have := r0.put p.1 h.2
    rw [<- h.1]; exact this
   exact ih e
theorem length_mergeK : ∀ (more kvs : List (Key × V)), (mergeK kvs more).length <= kvs.length + more.length
 | [], kvs => by show kvs.length <= kvs.length + 0; omega
 | p :: r, kvs => by
   have h1 := length_mergeK r (putK kvs p.1 p.2)
   have h2 := length_putK kvs p.1 p.2
   show (mergeK (putK kvs p.1 p.2) r).length <= _
   rw [List.length_cons]; omega
theorem carries_of {P : Program} {w : World} : ∀ {kvs : List (Key × V)} {ws : List (Value × Value)}, VV (kvs.map fun kv => (kV kv.1, kv.2)) ws -> ∃ rs, Carries (mixKind P w) ws rs /\ KV kvs rs
 | [], _, r => by rw [List.map_nil] at r; cases r; exact ⟨[], True.intro, .nil⟩
 | p :: kvs, _, r => by
   rw [List.map_cons] at r
   cases r with
   | @cons a b as bs h t =>
     obtain ⟨rs, c, q⟩ := carries_of (P := P) (w := w) t
     obtain ⟨b1, b2⟩ := b
     exact ⟨(p.1, b2) :: rs, ⟨kV_is h.1, rfl, c⟩, .cons ⟨rfl, h.2⟩ q⟩
def tDisp (trs : List (TE × TE)) : TE := fun σ H Q => ∀ p, H p = none -> tPairs trs σ (upd H p (.dK [])) fun ps H2 => H2 p = some (.dK []) /\ ∃ kvs : List (Key × V), ps = kvs.map (fun kv => (kV kv.1, kv.2)) /\ kvs.length <= 15 /\ Q (.ref p) (upd H2 p (.dK (mergeK [] kvs)))
theorem pe_disp {X : Cx} {pos : Pos} {keys : List (Option Expr)} {values : List Expr} {trs : List (TE × TE)} (h : PPs X pos keys values trs) (hall : keys.all (·.isSome) = true) (hl : keys.length = values.length) (h0 : keys ≠ [])
 (h15 : keys.length <= 15) : PE X (.Dict keys values pos) (tDisp trs) := by
 intro pins s σ H Q I q
 have hn := I.hok.fresh (Nat.le_refl s.heap.objs.size)
 have I1 := I.laid (a := s.heap.objs.size) (o := .dK []) (h' := s.heap.push { cls := .type "dict", data := .dict #[] }) (t' := s.toks) (fun _ _ q => Heap.get?_push_of_some _ q) (Nat.le_refl _) (dk_empty s.heap I.big)
 refine wpAny_Dict_walk (knd := mixKind X.prog X.w) hall hl h0 h15 (thn (h pins _ σ _ _ I1 (q _ hn)) fun ws s2 ⟨ps, H2, I2, rel, e, kvs, ep, lk, q2⟩ => ?_)
 subst ep
 obtain ⟨rs, c, rk⟩ := carries_of (P := X.prog) (w := X.w) rel
 obtain ⟨z, hd, vs0, r0, dd⟩ := dk_of I2.hok e
 cases r0
 refine ⟨rs, c, dd, fun h' dd' hs => ⟨.ref s.heap.objs.size, _, ?_, rfl, q2⟩⟩
 have hz : (mergeK [] kvs).length <= sizeLine := by
  have h1 := length_mergeK kvs []
  rw [List.length_nil] at h1
  rw [sizeLine_eq]; omega
 have he : ∃ q, h'.get? s.heap.objs.size = some q := let ⟨q, _, _, hq, _⟩ := dd'; ⟨q, hq⟩
 exact d_write I2 (by rw [e]; exact True.intro) hs he (dk_new hz hd (rk.merge .nil) dd')
structure M1 (X : Cx) (o : Expr) (m : Str) (apos : Pos) (e : Expr) (cpos : Pos) : Prop where
 base : attributeBase o m X.env (eval o X.env) = eval o X.env
 few : ((backTo cpos (starEach [e] X.env)).all (fun x => !x.1) && (backToKw cpos (keywordEach [] X.env)).all (fun x => x.1.isSome)
  && decide (([e] : List Expr).length + ([] : List Keyword).length + (if ([] : List Keyword).isEmpty then 0 else 1) < 30)) = true
 line : (apos.endLine == cpos.line) = true
 trees : backTo cpos (starEach [e] X.env) = [(false, eval e X.env)]
structure M2 (X : Cx) (o : Expr) (m : Str) (apos : Pos) (e f : Expr) (cpos : Pos) : Prop where
 base : attributeBase o m X.env (eval o X.env) = eval o X.env
 few : ((backTo cpos (starEach [e, f] X.env)).all (fun x => !x.1) && (backToKw cpos (keywordEach [] X.env)).all (fun x => x.1.isSome)
  && decide (([e, f] : List Expr).length + ([] : List Keyword).length + (if ([] : List Keyword).isEmpty then 0 else 1) < 30)) = true
 line : (apos.endLine == cpos.line) = true
 trees : backTo cpos (starEach [e, f] X.env) = [(false, eval e X.env), (false, eval f X.env)]
def IsD (H : Hp) (a : Addr) : Prop := (∃ kvs, Rd H a (.dK kvs)) \/ ∃ kvs, Rd H a (.dT kvs)
theorem isD_at {X : Cx} {pins : List (Addr × Obj)} {σ : St} {H : Hp} {s : Shared} {a : Addr} (I : Inv X pins σ H s) (d : IsD H a) :
 s.TypeIs (.ref a) "dict" /\ (∀ b, Value.ref a = .ref b -> ∃ ob, s.heap.get? b = some ob /\ ob.dict = none) /\ (a == sysModules) = false := by
 rcases d with ⟨kvs, e⟩ | ⟨kvs, e⟩
 . obtain ⟨_, hd, vs, _, dd⟩ := dk_rd I.hok e
   refine ⟨dd.typeIs, fun b q => ?_, hd⟩
   cases q
   obtain ⟨ob, _, _, h1, h2, _⟩ := dd
   exact ⟨ob, h1, h2.2.1⟩
 . obtain ⟨_, hd, xs, _, dd⟩ := dt_rd I.hok e
   refine ⟨dd.typeIs, fun b q => ?_, hd⟩
   cases q
   obtain ⟨ob, _, _, h1, h2, _⟩ := dd
   exact ⟨ob, h1, h2.2.1⟩
section
variable {X : Cx} {pins : List (Addr × Obj)} {σ : St} {H : Hp} {s : Shared} {a : Addr} {y d : V} {u r : Value} {o : Option V} {A : Around} {E : Value -> Shared -> Prop}
theorem d_get2 {Q : Value -> Shared -> Prop} (hu : A.units + 1 < cLine) (I : Inv X pins σ H s) (g : DGet H a y o) (ry : RelV y u) (rd : RelV d r) (h : ∀ w' s', Inv X pins σ H s' -> RelV (o.getD d) w' -> Q w' s') :
 wpAny (model X.prog X.w) A (call (.builtin "dict.get") [.ref a, u, r]) Q E s := by
 rcases g with ⟨kvs, k, e, ey, l⟩ | ⟨kvs, k, b, e, ey, eb, l⟩
 . subst ey
   obtain ⟨z, hd, vs, rel, dd⟩ := dk_rd I.hok e
   refine call_meetsIn PySem.F.slot_dict_get dd.typeIs PySem.F.entry_dict_get (PySem.F.args_dict_get_3 _ _ _) (meets_dict_get_default (mixKind X.prog X.w) a (kV_is ry) hd r) ⟨_, dd.mapOf, h _ _ (I.tok _) ?_⟩
   rw [l]
   exact (rel.val k).getD rd
 . subst ey
   cases (show u = Value.ref b from ry)
   obtain ⟨z, hd, xs, rel, dd⟩ := dt_rd I.hok e
   refine call_meetsIn PySem.F.slot_dict_get dd.typeIs PySem.F.entry_dict_get (PySem.F.args_dict_get_3 _ _ _) (meetsH_dict_get_default (tupleKind (mixKind X.prog X.w)) a b hd r) ⟨tupleKind_room_in1 hu, k, xs, key_of I.hok eb, dd, h _ _ (I.tok _) ?_⟩
   rw [l]
   exact (rel.val k).getD rd
end
def tDGet2 (td ty tx : TE) : TE := fun σ H Q => td σ H fun x H1 => ∃ a, x = .ref a /\ IsD H1 a /\ ty σ H1 fun y H2 => tx σ H2 fun z H3 => ∃ o, DGet H3 a y o /\ Q (o.getD z) H3
section
variable {X : Cx} {o e f : Expr} {apos cpos : Pos} {td ty tx : TE}
theorem pe_dget2 (hu : X.A.units + 1 < cLine) (ho : PE X o td) (he : PE X e ty) (hf : PE X f tx) (m : M2 X o "get" apos e f cpos) : PE X (.Call (.Attribute o "get" apos) [e, f] [] cpos) (tDGet2 td ty tx) := by
 intro pins s σ H Q I h
 refine wpAny_Call_method m.base m.few m.line PySem.F.plainAttrs_dict PySem.F.slot_dict_get PySem.F.type_dict_get (thn (ho pins s σ H _ I h) fun u s1 ⟨x, H1, I1, rx, a, ex, d, q1⟩ => ?_)
 subst ex
 obtain rfl : u = Value.ref a := rx
 obtain ⟨t1, t2, _⟩ := isD_at I1 d
 refine ⟨t1, t2, ?_⟩
 rw [m.trees]
 refine Calls.callWith_builtin rfl (Calls.evalArgs_plain (Calls.spliced_cons (thn (he pins s1 σ H1 _ I1 q1) fun iv s2 ⟨y, H2, I2, ry, q2⟩ =>
  Calls.spliced_cons (thn (hf pins s2 σ H2 _ I2 q2) fun fv s3 ⟨z, H3, I3, rz, ov, g, q3⟩ => Calls.spliced_nil ?_))))
 exact d_get2 hu I3 g ry rz fun w' s4 I4 rw' => ⟨_, H3, I4, rw', q3⟩
end
section
variable {X : Cx} {pins : List (Addr × Obj)} {σ : St} {H : Hp} {s : Shared} {a : Addr} {kvs : List (Key × V)} {A : Around} {E : Value -> Shared -> Prop}
end
section
variable {X : Cx} {pins : List (Addr × Obj)} {σ : St} {H : Hp} {s : Shared} {a : Addr} {y : V} {u : Value} {A : Around} {E : Value -> Shared -> Prop}
end
end L2
namespace L2
open PySem PySem.Spec PyProof.Rows
section
variable {κ : Type} [DecidableEq κ]
end
end L2
set_option maxHeartbeats 4000000
namespace Kin
def IsTurn (n : Nat) (w : List Nat) : Prop := w.Perm (List.range n)
theorem IsTurn.len {n : Nat} {w : List Nat} (h : IsTurn n w) : w.length = n := by rw [List.Perm.length_eq h, List.length_range]
theorem IsTurn.nodup {n : Nat} {w : List Nat} (h : IsTurn n w) : w.Nodup := (List.Perm.nodup_iff h).mpr List.nodup_range
theorem IsTurn.mem {n : Nat} {w : List Nat} (h : IsTurn n w) {c : Nat} : c ∈ w ↔ c < n := by rw [List.Perm.mem_iff h, List.mem_range]
def fw (w : List Nat) (c : Nat) : Nat := w.getD c 0
def bw (w : List Nat) (c : Nat) : Nat := w.idxOf c
def inv (w : List Nat) : List Nat := (List.range w.length).map (bw w)
section
variable {n : Nat} {w : List Nat} (h : IsTurn n w) {c : Nat} (hc : c < n)
include h hc
theorem fw_get : w[c]? = some (fw w c) := by
 have hl : c < w.length := by rw [h.len]; exact hc
 unfold fw
 rw [List.getD_eq_getElem?_getD, List.getElem?_eq_getElem hl]
 rfl
theorem fw_lt : fw w c < n := h.mem.mp (List.mem_of_getElem? (fw_get h hc))
theorem bw_lt : bw w c < n := by
 have : bw w c < w.length := List.idxOf_lt_length_iff.mpr (h.mem.mpr hc)
 rw [h.len] at this; exact this
theorem fw_bw : fw w (bw w c) = c := by
 have hl : w.idxOf c < w.length := List.idxOf_lt_length_iff.mpr (h.mem.mpr hc)
 have e := List.getElem_idxOf hl
 unfold fw bw
 rw [List.getD_eq_getElem?_getD, List.getElem?_eq_getElem hl]
 simpa using e
theorem bw_fw : bw w (fw w c) = c := by
 have h1 : fw w (bw w (fw w c)) = fw w c := fw_bw h (fw_lt h hc)
 have hb : bw w (fw w c) < n := bw_lt h (fw_lt h hc)
 have e1 := fw_get h hb
 have e2 := fw_get h hc
 rw [h1] at e1
 obtain ⟨l1, q1⟩ := List.getElem?_eq_some_iff.mp e1
 obtain ⟨l2, q2⟩ := List.getElem?_eq_some_iff.mp e2
 exact (List.getElem_inj h.nodup).mp (q1.trans q2.symm)
theorem inv_get : (inv w)[c]? = some (bw w c) := by
 unfold inv
 rw [List.getElem?_map, h.len, List.getElem?_range hc]
 rfl
end
def IsL (l : Nat) : Prop := l = 102 \/ l = 109 \/ l = 115 \/ l = 100 \/ l = 112 \/ l = 98 \/ l = 122
instance (l : Nat) : Decidable (IsL l) := by unfold IsL; infer_instance
def stS (m : Bool) (l : Nat) : Bool := if l = 112 then !m else (l == 102 || l == 115 || l == 98)
def stC (w h : List Nat) (m : Bool) (c : Nat) (l : Nat) : Nat :=
 if l = 102 then bw h c else if l = 109 then fw w (bw h c) else if l = 112 then (if m then fw w c else bw w c)
 else if l = 115 \/ l = 100 then fw h (if m then c else bw w c) else c
def step (w h : List Nat) (s : Bool × Nat) (l : Nat) : Bool × Nat := (stS s.1 l, stC w h s.1 s.2 l)
def led (w h : List Nat) (s : Bool × Nat) (ls : List Nat) : Bool × Nat := ls.foldl (step w h) s
def endS (m : Bool) (ls : List Nat) : Bool := ls.foldl stS m
theorem led_append (w h : List Nat) (s : Bool × Nat) (a b : List Nat) : led w h s (a ++ b) = led w h (led w h s a) b := List.foldl_append ..
section
variable {n : Nat} {w h : List Nat} (tw : IsTurn n w) (th : IsTurn n h)
include tw th
theorem stC_lt {m : Bool} {c l : Nat} (hc : c < n) : stC w h m c l < n := by
 unfold stC
 repeat' split
 . exact bw_lt th hc
 . exact fw_lt tw (bw_lt th hc)
 . exact fw_lt tw hc
 . exact bw_lt tw hc
 . exact fw_lt th hc
 . exact fw_lt th (bw_lt tw hc)
 . exact hc
theorem led_lt : ∀ (ls : List Nat) (s : Bool × Nat), s.2 < n -> (led w h s ls).2 < n
 | [], _, hc => hc
 | l :: r, s, hc => led_lt r (step w h s l) (stC_lt tw th hc)
def bkL (m : Bool) (l : Nat) : Nat :=
 if l = 102 \/ l = 109 then (if m then 115 else 100) else if l = 115 \/ l = 100 then (if m then 102 else 109) else if l = 112 then 112 else (if m then 98 else 122)
omit tw th in
def back (m : Bool) : List Nat -> List Nat
 | [] => []
 | l :: r => back (stS m l) r ++ [bkL m l]
omit tw th in
end
theorem erase_perm : ∀ (l : List Nat) (k x : Nat), l[k]? = some x -> (x :: l.eraseIdx k).Perm l
 | [], k, x, h => by simp at h
 | a :: r, 0, x, h => by simp at h; subst h; exact List.Perm.refl _
 | a :: r, k + 1, x, h => by
   have ih := erase_perm r k x (by simpa using h)
   rw [List.eraseIdx_cons_succ]
   exact (List.Perm.swap a x _).trans (List.Perm.cons a ih)
theorem perm_pick {rest out : List Nat} {n k x : Nat} (h : (rest ++ out).Perm (List.range n)) (hk : rest[k]? = some x) : (rest.eraseIdx k ++ (out ++ [x])).Perm (List.range n) := by
 refine List.Perm.trans ?_ h
 have e1 : (x :: rest.eraseIdx k).Perm rest := erase_perm rest k x hk
 have e2 : (rest.eraseIdx k ++ (out ++ [x])).Perm (rest.eraseIdx k ++ (x :: out)) := List.Perm.append_left _ (List.perm_append_singleton x out)
 refine e2.trans ?_
 have e3 : (rest.eraseIdx k ++ x :: out).Perm (x :: (rest.eraseIdx k ++ out)) := List.perm_middle
 refine e3.trans ?_
 exact List.Perm.append_right out e1
theorem sorted_unique : ∀ {a b : List Int}, a.Perm b -> a.Pairwise (· <= ·) -> b.Pairwise (· <= ·) -> a = b := fun {a b} h ha hb => by
 exact List.Perm.eq_of_pairwise (fun x y _ _ h1 h2 => Int.le_antisymm h1 h2) ha hb h
def intL (w : List Nat) : List Int := w.map fun (k : Nat) => (k : Int)
theorem intL_len (w : List Nat) : (intL w).length = w.length := by unfold intL; rw [List.length_map]
theorem range_sorted (n : Nat) : (intL (List.range n)).Pairwise (· <= ·) := by
 unfold intL
 refine List.pairwise_map.mpr ?_
 exact List.Pairwise.imp (fun {a b} (h : a < b) => by omega) List.pairwise_lt_range
end Kin
namespace Kin
theorem endS_cons (m : Bool) (a : Nat) (r : List Nat) : endS m (a :: r) = endS (stS m a) r := rfl
end Kin
namespace L2
open PySem PySem.Spec PyProof.Rows
abbrev blk (X : Cx) (N : List Str) (scope : Scope) (cl : List (Str × Addr)) (s₀ : Shared) (H₀ : Hp) (ex : List Addr) (E : Value -> Shared -> Prop) : Cx :=
 { X with N := N, s₀ := s₀, H₀ := H₀, env := compEnvC scope cl s₀.heap.objs.size X.env, outer := X.stack, stack := X.stack, ex := ex, fn := fun _ => false, pn := [], xe := E }
def FreeOk (X : Cx) (scope : Scope) (cl : List (Str × Addr)) : List (Str × Nat) -> Prop
 | [] => True
 | p :: r => (X.N[p.2]? = some p.1 /\ (X.env.kindOf p.1 = some .cell \/ X.env.kindOf p.1 = some .free) /\ ((relabel scope X.env).names.lookup p.1 = some .cell \/ (relabel scope X.env).names.lookup p.1 = some .free) /\ cl.lookup p.1 = X.env.cells.lookup p.1) /\ FreeOk X scope cl r
structure CompOk (X : Cx) (x : Str) (fv : List (Str × Nat)) (scope : Scope) (cl : List (Str × Addr)) : Prop where
 clos : closureFor scope X.env = pure cl
 nocell : ∀ y ∈ scope.names, y.2 ≠ .cell
 kind : scope.kind = .function
 names : ∀ y ∈ scope.names, y.2 = .local -> scope.names.lookup y.1 = some .local
 here : scope.names.lookup x = some .local
 nd : (x :: fv.map (·.1)).Nodup
 free : FreeOk X scope cl fv
 cls : cl.map (·.1) = (fv.map (·.1)).reverse
 fr : ((relabel scope X.env).names.filter fun p => p.2 == .cell || p.2 == .free).map (·.1) = fv.map (·.1)
section
variable {X : Cx} {x : Str} {fv : List (Str × Nat)} {scope : Scope} {cl : List (Str × Addr)}
theorem FreeOk.mem : ∀ {fv : List (Str × Nat)}, FreeOk X scope cl fv -> ∀ y, y ∈ fv.map (·.1) -> (X.env.kindOf y = some .cell \/ X.env.kindOf y = some .free) /\ cl.lookup y = X.env.cells.lookup y
 | [], _, y, h => by simp at h
 | p :: r, f, y, h => by
   rw [List.map_cons] at h
   rcases List.mem_cons.mp h with e | h
   . subst e; exact ⟨f.1.2.1, f.1.2.2.2⟩
   . exact FreeOk.mem f.2 y h
theorem FreeOk.at : ∀ {fv : List (Str × Nat)}, FreeOk X scope cl fv -> ∀ (i : Nat) y, (fv.map (·.1))[i]? = some y -> ∃ j, fv[i]? = some (y, j) /\ X.N[j]? = some y /\ (X.env.kindOf y = some .cell \/ X.env.kindOf y = some .free) /\
 ((relabel scope X.env).names.lookup y = some .cell \/ (relabel scope X.env).names.lookup y = some .free) /\ cl.lookup y = X.env.cells.lookup y
 | [], _, i, y, h => by simp at h
 | p :: r, f, 0, y, h => by
   simp at h; subst h
   exact ⟨p.2, rfl, f.1⟩
 | p :: r, f, i + 1, y, h => by
   obtain ⟨j, h1, h2⟩ := FreeOk.at f.2 i y (by simpa using h)
   exact ⟨j, by simpa using h1, h2⟩
theorem mem_of_lk : ∀ {l : List (Str × Addr)} {y : Str} {c : Addr}, l.lookup y = some c -> y ∈ l.map (·.1) := fun {l y c} h => List.mem_map.mpr ⟨(y, c), PySem.mem_of_lookup h, rfl⟩
theorem CompOk.sub (ok : CompOk X x fv scope cl) {y : Str} {c : Addr} (h : cl.lookup y = some c) : X.env.cells.lookup y = some c := by
 have m : y ∈ fv.map (·.1) := by
  have := mem_of_lk h
  rw [ok.cls] at this
  exact List.mem_reverse.mp this
 rw [<- (ok.free.mem y m).2]; exact h
theorem CompOk.has (ok : CompOk X x fv scope cl) (hx : X.Ok) {y : Str} (h : (relabel scope X.env).names.lookup y = some .cell \/ (relabel scope X.env).names.lookup y = some .free) : ∃ c, cl.lookup y = some c := by
 have m : y ∈ fv.map (·.1) := by
  rw [<- ok.fr]
  rcases h with h | h
  . exact List.mem_map.mpr ⟨(y, .cell), List.mem_filter.mpr ⟨PySem.mem_of_lookup h, rfl⟩, rfl⟩
  . exact List.mem_map.mpr ⟨(y, .free), List.mem_filter.mpr ⟨PySem.mem_of_lookup h, rfl⟩, rfl⟩
 obtain ⟨k, e⟩ := ok.free.mem y m
 rw [e]
 exact hx.has y k
variable {pins : List (Addr × Obj)} {σ : St} {H : Hp} {s : Shared} {fp : List Addr} {E : Value -> Shared -> Prop} {N : List Str}
theorem blk_ok (I : Inv X pins σ H s) (ok : CompOk X x fv scope cl) (hf : ∀ b ∈ fp, FpOk X pins H b) (ho : ∀ b ∈ fp, b < s.heap.objs.size) : (blk X N scope cl s H fp E).Ok where
 mod := I.ok.mod
 kind := ok.kind
 glob := I.ok.glob
 blt := I.ok.blt
 above := Nat.le_refl _
 inj := fun y z c h1 h2 => I.ok.inj y z c (ok.sub h1) (ok.sub h2)
 has := fun y hy => ok.has I.ok hy
 cab := fun _ _ h => by cases h
 hd := I.ok.hd
 frames := I.ok.frames
 stk := .inl rfl
 exf := fun b hb => ⟨Nat.ne_of_lt (ho b hb), fun y c h => (hf b hb).2.2.2.2.1 y c (ok.sub h)⟩
 bs := fun b o e => I.bs b o e
 bsz := Nat.le_trans I.ok.bsz I.sz
 noex := fun b o e hb => by
  rcases (hf b hb).2.2.2.1 with h4 | h4
  . exact I.ok.noex b o e h4
  . exact absurd (Nat.lt_of_lt_of_le (Heap.lt_size e) (Nat.le_trans I.ok.bsz h4)) (Nat.lt_irrefl _)
 exfs := fun b hb z => by
  rcases List.mem_cons.mp (I.stkSub b z) with e | e
  . exact (hf b hb).2.1 e
  . exact (hf b hb).2.2.1 e
 funs := I.stack
 frf := I.stkFree
def blkS (fv : List (Str × Nat)) (σ : St) (o : Option V) : St := o :: fv.map fun p => (σ[p.2]?).join
theorem blkS_set (fv : List (Str × Nat)) (σ : St) (o : Option V) (v : V) : (blkS fv σ o).set 0 (some v) = blkS fv σ (some v) := rfl
theorem blk_start (I : Inv X pins σ H s) (ok : CompOk X x fv scope cl) (hf : ∀ b ∈ fp, FpOk X pins H b) (ho : ∀ b ∈ fp, b < s.heap.objs.size) {h₁ : Heap} {m₁ : Str -> Option Value} (hn : h₁.Ns s.heap.objs.size m₁)
 (hk : ∀ b o, s.heap.get? b = some o -> h₁.get? b = some o) (tk : Nat) : Inv (blk X (x :: fv.map (·.1)) scope cl s H fp E) [] (blkS fv σ none) H { s with heap := h₁, toks := tk } := by
 refine ⟨blk_ok I ok hf ho, rfl, I.bare, Un.kept hk, ⟨m₁, hn, fun i y v h1 h2 h3 => ?_⟩, fun y c h => ?_, I.hok.fresh (Nat.le_refl _), fun y c h => I.freeC y c (ok.sub h), fun p hp => ?_, I.hok.kept hk, ?_⟩
 . cases i with
   | zero =>
     have h2' : (none : Option V) = some v := by simpa [blkS] using h2
     cases h2'
   | succ i =>
     have h1' : (fv.map (·.1))[i]? = some y := by simpa using h1
     obtain ⟨j, e1, e2, k1, k2, e3⟩ := ok.free.at i y h1'
     have h2' : (σ[j]?).join = some v := by
      have q : (fv.map fun p => (σ[p.2]?).join)[i]? = some (some v) := by simpa [blkS] using h2
      rw [List.getElem?_map, e1] at q
      exact Option.some.inj q
     have h2'' : σ[j]? = some (some v) := by
      cases e : σ[j]? with
      | none => rw [e] at h2'; cases h2'
      | some o => rw [e] at h2'; exact congrArg some h2'
     obtain ⟨m, _, hl⟩ := I.loc
     obtain ⟨u, r, l⟩ := hl j y v e2 h2'' (by
      rcases k1 with k | k
      . exact .inr (.inl k)
      . exact .inr (.inr k))
     refine ⟨u, r, .inr ⟨k2, ?_⟩⟩
     rcases l with ⟨k, _⟩ | ⟨_, c, ec, o, z1, z2⟩
     . rcases k1 with k' | k' <;> (rw [k] at k'; cases k')
     . exact ⟨c, e3.trans ec, o, hk _ _ z1, z2⟩
 . obtain ⟨v, o, z1, z2⟩ := I.cell y c (ok.sub h)
   exact ⟨v, o, hk _ _ z1, z2⟩
 . exact absurd (show p ∈ ([] : List (Addr × Obj)) from hp) (by simp)
 . show (blkS fv σ none).length = _
   simp [blkS]
end
section
variable {prog : Program} {w : World} {A : Around} {R : Result -> Shared -> Prop} {s : Shared}
theorem codeAny_compLoop_L {elt target iter : Expr} {scope : Scope} {pos : Pos} {it acc : Value} {env : Env} (I : Nat -> Shared -> Prop)
 (turn : ∀ n s, I n s -> wpAny (model prog w) A (pyNext it) (fun r s₁ => match r with
  | none => R (.ok .next) s₁
  | some v => wpAny (model prog w) A (letOwnedTupleGo target it v) (fun _ s₂ => wpAny (model prog w) A (assign target env v) (fun _ s₂ => wpAny (model prog w) A (eval elt env) (fun x s₃ =>
   wpAny (model prog w) A (call (.builtin "list.append") [acc, x]) (fun _ s₄ => ∃ m, m < n /\ I m s₄) (notedBy (model prog w) A env fun e s' => R (.error e) s') s₃)
   (notedBy (model prog w) A env fun e s' => R (.error e) s') s₂) (notedBy (model prog w) A env fun e s' => R (.error e) s') s₂) (notedBy (model prog w) A env fun e s' => R (.error e) s') s₁) (notedBy (model prog w) A env fun e s' => R (.error e) s') s)
 (n : Nat) (h : I n s) :
 codeAny (model prog w) A (.compLoop (.ListComp elt [⟨target, iter, [], 0⟩] scope pos) 0 it acc env) R s := by
 refine codeAny_loop rfl I (fun n s hI => ?_) n h
 show wpAny _ _ ((compTurn (.ListComp elt [⟨target, iter, [], 0⟩] scope pos) 0 it acc env).onRaise (fun x => do noteFrame x env; theTreesLotGoes x)) _ _ s
 refine wpAny_noted ?_
 rw [compTurn_list1]
 refine wpAny_bind (wpAny_standAt (wpAny_bind (wpAny_mono (turn n s hI) (fun r s₁ h₁ => ?_) fun _ _ h' => h')))
 cases r with
 | none => exact wpAny_pure h₁
 | some v =>
   refine wpAny_bind (wpAny_mono h₁ (fun _ s₂ h₂ => ?_) fun _ _ h' => h')
   exact wpAny_bind (wpAny_mono h₂ (fun _ s₂ h₂ => wpAny_bind (wpAny_bind (wpAny_mono h₂ (fun x s₃ h₃ => wpAny_bind (wpAny_mono h₃
    (fun _ s₄ h₄ => wpAny_pure (wpAny_pure ⟨rfl, h₄⟩)) fun _ _ h' => h')) fun _ _ h' => h'))) fun _ _ h' => h')
end
abbrev TEB := Shared -> Hp -> List Addr -> TE
def tCompJ (fv : List (Str × Nat)) (te : TEB) (σ : St) (J : It) (H1 : Hp) (Q : VK) : Prop :=
 ∀ D, H1 D = none -> ∃ W : Nat -> Nat -> List V -> Hp -> Prop, (∃ m, W 0 m [] (upd H1 D (.lst []))) /\
   ∀ i m ys H, W i m ys H -> H D = some (.lst ys) /\ ((J.stop i H /\ Q (.ref D) H) \/ (J.go i H /\ ys.length < sizeLine /\ ∀ x H', J.yld i H x H' ->
     ∀ s₀ H₀ ex, te s₀ H₀ ex (blkS fv σ (some x)) H' fun v H2 => H2 D = some (.lst ys) /\ ∃ m', m' < m /\ W (i + 1) m' (ys ++ [v]) (upd H2 D (.lst (ys ++ [v])))))
def tComp (wi : TI) (fv : List (Str × Nat)) (te : TEB) : TE := fun σ H Q => wi σ H fun J H1 => tCompJ fv te σ J H1 Q
section
variable {X : Cx} {x : Str} {fv : List (Str × Nat)} {scope : Scope} {cl : List (Str × Addr)} {pins : List (Addr × Obj)} {σ : St} {px pos : Pos} {iter elt : Expr} {te : TEB}
abbrev NoX : Value -> Shared -> Prop := fun _ _ => False
theorem comp_block {s2 : Shared} {H2 : Hp} {it : Addr} {fp : List Addr} {tn : Nat -> Heap -> Prop} {J : It} (ok : CompOk X x fv scope cl) (hc : X.calm = true)
 (he : ∀ s₀ H₀ ex, PE (blk X (x :: fv.map (·.1)) scope cl s₀ H₀ ex NoX) elt (te s₀ H₀ ex)) (I2 : Inv X pins σ H2 s2) (T : Turn X.prog X.w X.K (.Name x px) J fp it tn) (st2 : tn 0 s2.heap) (f2 : ∀ b ∈ fp, FpOk X pins H2 b)
 {Qv : VK} (hQ : tCompJ fv te σ J H2 Qv) {RR : Value -> Addr -> Result -> Shared -> Prop}
 (hRR : ∀ D C m' H' s', Inv X pins σ H' s' -> s'.heap.Ns C m' -> FpOk X pins H' C -> Qv (.ref D) H' -> RR (.ref D) C (.ok .next) s') :
 wpAny (model X.prog X.w) X.A (newList []) (fun acc s₃ => wpAny (model X.prog X.w) X.A (newFunctionEnv scope X.env.globals cl [] X.env.qual none .none (some X.env)) (fun cenv s₄ =>
  codeAny (model X.prog X.w) X.A (.compStart (.ListComp elt [⟨.Name x px, iter, [], 0⟩] scope pos) 0 (.ref it) acc { cenv with scope := relabel scope X.env }) (RR acc cenv.locals) s₄) X.xe s₃) X.xe s2 := by
 refine wpAny_newObj_type (wpAny_newFunctionEnv ok.nocell (by intro y hy; simp at hy) (fun h₁ hns₁ hsb₁ => ?_) ok.kind)
 dsimp only at hns₁ hsb₁ ⊢
 have I3 : Inv X pins σ (upd H2 s2.heap.objs.size (.lst [])) { s2 with heap := s2.heap.push { cls := .type "list", dict := none, data := .seq ([] : List Value).toArray } } :=
  I2.laid (t' := s2.toks) (fun b o e => Heap.get?_push_of_some _ e) (Nat.le_refl _) ⟨Nat.zero_le _, [], 0, .nil, Heap.get?_push_size _ rfl⟩
 have hD : H2 s2.heap.objs.size = none := I2.hok.fresh (Nat.le_refl _)
 generalize hs3 : ({ s2 with heap := s2.heap.push { cls := .type "list", dict := none, data := .seq ([] : List Value).toArray } } : Shared) = s3 at I3
 have eh : s2.heap.push { cls := .type "list", dict := none, data := .seq ([] : List Value).toArray } = s3.heap := by rw [<- hs3]
 rw [eh] at hns₁ hsb₁ ⊢
 have fl : ∀ b ∈ fp, b < s2.heap.objs.size := fun b hb => by
  obtain ⟨o, e, _⟩ := T.obj _ _ st2 b hb
  exact Heap.lt_size e
 have sz3 : s3.heap.objs.size = s2.heap.objs.size + 1 := by rw [<- eh, Heap.size_push]
 have f3 : ∀ b ∈ fp, FpOk X pins (upd H2 s2.heap.objs.size (.lst [])) b := fun b hb => ⟨by rw [upd_ne (Nat.ne_of_lt (fl b hb))]; exact (f2 b hb).1, (f2 b hb).2⟩
 have fl3 : ∀ b ∈ fp, b < s3.heap.objs.size := fun b hb => by rw [sz3]; exact Nat.lt_succ_of_lt (fl b hb)
 have old3 : ∀ b o, s3.heap.get? b = some o -> h₁.get? b = some o := fun b o e => hsb₁.extBut b o (Nat.ne_of_lt (Heap.lt_size e)) (Heap.get?_push_of_some _ e)
 have old2 : ∀ b o, s2.heap.get? b = some o -> h₁.get? b = some o := fun b o e => old3 b o (by rw [<- eh]; exact Heap.get?_push_of_some _ e)
 have st1 : tn 0 h₁ := T.keep _ _ _ st2 fun b _ o e => old2 b o e
 have IY := blk_start (E := NoX) I3 ok f3 fl3 hns₁ old3 (s3.toks + ([] : List (Str × Value)).length)
 obtain ⟨W, ⟨m0, w0⟩, turn⟩ := hQ s2.heap.objs.size hD
 have loop : ∀ s4 : Shared, s4 = { s3 with heap := h₁, toks := s3.toks + ([] : List (Str × Value)).length } ->
  codeAny (model X.prog X.w) X.A (.compLoop (.ListComp elt [⟨.Name x px, iter, [], 0⟩] scope pos) 0 (.ref it) (.ref s2.heap.objs.size) (compEnvC scope cl s3.heap.objs.size X.env)) (RR (.ref s2.heap.objs.size) s3.heap.objs.size) s4 := by
  rintro s4 rfl
  have stat : ∀ {H' : Hp}, (∀ b ∈ fp, H' b = none) -> ∀ b ∈ fp, FpOk (blk X (x :: fv.map (·.1)) scope cl s3 (upd H2 s2.heap.objs.size (.lst [])) fp NoX) [] H' b := fun hn b hb =>
   ⟨hn b hb, Nat.ne_of_lt (fl3 b hb), fun z => by
    rcases List.mem_cons.mp (I3.stkSub b z) with e | e
    . exact (f2 b hb).2.1 e
    . exact (f2 b hb).2.2.1 e, .inl hb, fun y c h => (f2 b hb).2.2.2.2.1 y c (ok.sub h), fun p hp => absurd (show p ∈ ([] : List (Addr × Obj)) from hp) (by simp)⟩
  refine codeAny_compLoop_L (fun n s' => ∃ i o H' ys, Inv (blk X (x :: fv.map (·.1)) scope cl s3 (upd H2 s2.heap.objs.size (.lst [])) fp NoX) [] (blkS fv σ o) H' s' /\ tn i s'.heap /\ (∀ b ∈ fp, H' b = none) /\ W i n ys H') ?_ m0
   ⟨0, none, _, [], IY, st1, fun b hb => (f3 b hb).1, w0⟩
  rintro n s5 ⟨i, o, H5, ys, I5, st5, fr5, w5⟩
  obtain ⟨hD5, w5⟩ := turn i n ys H5 w5
  rcases w5 with ⟨stop, qn⟩ | ⟨go, hsz, step⟩
  . refine wpAny_mono (T.done (blk X (x :: fv.map (·.1)) scope cl s3 (upd H2 s2.heap.objs.size (.lst [])) fp NoX) rfl rfl rfl hc i [] s5 _ H5 NoX I5 (stat fr5) st5 stop) (fun r s6 ⟨hr, I6⟩ => ?_) fun _ _ z => z.elim
    subst hr
    obtain ⟨m', hm', _⟩ := I6.loc
    have I7 : Inv X pins σ H5 s6 := I3.call' (ch := fp) (by rw [I6.os]) I6.base I6.hok I6.bare fun b hb => ⟨(f2 b hb).2.2.2.1, (f2 b hb).2.1, (f2 b hb).2.2.2.2.1, (f2 b hb).2.2.2.2.2⟩
    exact hRR _ _ m' H5 s6 I7 hm' (I3.fpOk (Nat.le_refl _) I6.free) qn
  . refine wpAny_mono (T.item (blk X (x :: fv.map (·.1)) scope cl s3 (upd H2 s2.heap.objs.size (.lst [])) fp NoX) rfl rfl rfl hc i [] s5 _ H5 NoX I5 (stat fr5) st5 go) (fun r s6 ⟨u, hr, h6⟩ => ?_) fun _ _ z => z.elim
    subst hr
    refine wpAny_mono h6 (fun _ s7 ⟨v, H7, I7, r7, y7, st7, fr7⟩ => ?_) fun _ _ z => z.elim
    have I7' := I7.pinned (stat fr7) (T.obj _ _ st7)
    have hx : Loc (blk X (x :: fv.map (·.1)) scope cl s3 (upd H2 s2.heap.objs.size (.lst [])) fp NoX).env.scope x := .inl (lookup_relabel_local ok.here)
    refine wpAny_assign_Name (store_ok (X := blk X (x :: fv.map (·.1)) scope cl s3 (upd H2 s2.heap.objs.size (.lst [])) fp NoX) (i := 0) I7' ok.nd rfl hx r7 (fun s8 I8 => ?_) (.inr (lookup_relabel_local ok.here)))
    refine wpAny_mono (he s3 _ fp _ s8 (blkS fv σ (some v)) H7 _ I8 (step v H7 y7 _ _ _)) (fun u9 s9 ⟨v9, H9, I9, r9, hD9, m', hm', w9⟩ => ?_) fun _ _ z => z.elim
    refine wpAny_mono (mt_append (X := blk X (x :: fv.map (·.1)) scope cl s3 (upd H2 s2.heap.objs.size (.lst [])) fp NoX) _ s9 _ H9 (.ref s2.heap.objs.size) [v9] (.ref s2.heap.objs.size) [u9]
     (fun _ H10 => H10 = upd H9 s2.heap.objs.size (.lst (ys ++ [v9]))) I9 rfl (.cons r9 .nil) ⟨_, ys, v9, rfl, rfl, hD9, hsz, rfl⟩) (fun _ s10 ⟨_, H10, I10, _, e10⟩ => ?_) fun _ _ z => z.elim
    subst e10
    refine ⟨m', hm', i + 1, some v, _, ys ++ [v9], I10.unpinned, T.keep _ _ _ st7 fun b hb o e => (I10.pin (b, o) (List.mem_append_right _ (List.mem_append_right _ (mem_pinsAt hb e)))).1, fun b hb => ?_, w9⟩
    obtain ⟨o, e, d⟩ := T.obj _ _ st7 b hb
    exact (I10.pin (b, o) (List.mem_append_right _ (List.mem_append_right _ (mem_pinsAt hb e)))).2.1
 exact codeAny_compStart_list (loop _ (by rw [<- hs3])) (T.self _ 0 _ _ _ st1 (loop _ (by rw [<- hs3])))
theorem pe_comp {wi : TI} (ok : CompOk X x fv scope cl) (hc : X.calm = true) (hi : PI X (.Name x px) iter wi) (he : ∀ s₀ H₀ ex, PE (blk X (x :: fv.map (·.1)) scope cl s₀ H₀ ex NoX) elt (te s₀ H₀ ex))
 (hs : ∀ v, foldedSetIterable iter X.env v = pure v := by intro _; rfl) : PE X (.ListComp elt [⟨.Name x px, iter, [], 0⟩] scope pos) (tComp wi fv te) := by
 intro pins s σ H Q I h
 rw [eval_ListComp]
 refine wpAny_comprehension_free (use := none) rfl hs ok.clos ok.kind ok.names (thn (hi pins s σ H _ I h) fun v s1 h1 => thn h1 fun itv s2 h2 => ?_)
 obtain ⟨it, fp, tn, J, H2, rfl, I2, T, st2, f2, hQ⟩ := h2
 refine comp_block (RR := fun acc C => compPost (model X.prog X.w) X.A X.xe none (EP X pins σ Q) acc C) ok hc he I2 T st2 f2 hQ ?_
 intro D C m' H' s' I' hn fC q
 exact ⟨m', hn, fun h' hs' => ⟨.ref D, H', I'.turned (t' := s'.toks) (fun b o hb e => hs'.extBut b o hb e) fC.1 fC.2.1 fC.2.2.2.1 fC.2.2.2.2.1 fC.2.2.2.2.2, rfl, q⟩⟩
theorem ps_setComp {wi : TI} {i : Nat} {y : Str} {py spos : Pos} (hN : X.N.Nodup) (hiy : X.N[i]? = some y) (hy : Loc X.env.scope y) (ok : CompOk X x fv scope cl) (hc : X.calm = true) (hi : PI X (.Name x px) iter wi) (he : ∀ s₀ H₀ ex, PE (blk X (x :: fv.map (·.1)) scope cl s₀ H₀ ex NoX) elt (te s₀ H₀ ex))
 (hsw : swapsWith (.ListComp elt [⟨.Name x px, iter, [], 0⟩] scope pos) (some (.Name y py)) spos.line X.env = pure true := by rfl)
 (hs : ∀ v, foldedSetIterable iter X.env v = pure v := by intro _; rfl) (hf : X.fn y = true \/ X.env.scope.names.lookup y = some .local := by first | exact .inl rfl | exact .inr rfl | assumption) :
 PS X (.Assign [.Name y py] (.ListComp elt [⟨.Name x px, iter, [], 0⟩] scope pos) spos) (tAsg (tComp wi fv te) (gName i)) := by
 intro pins s σ H D I h
 rw [exec_Assign_Name_used _ _ _ _ hsw]
 refine wpAny_bind (wpAny_standAt (wpAny_bind ?_))
 show wpAny _ _ (do let _ <- comprehension (.ListComp elt [⟨.Name x px, iter, [], 0⟩] scope pos) scope X.env _ (newList []) false (eval iter X.env) (some (assign (.Name y py) X.env))) _ _ s
 refine wpAny_bind (wpAny_mono (wpAny_comprehension_free (use := some (assign (.Name y py) X.env)) (Q := fun _ s' => SP X pins D .next s') rfl hs ok.clos ok.kind ok.names
  (thn (hi pins s σ H _ I h) fun v s1 h1 => thn h1 fun itv s2 h2 => ?_)) (fun _ s' hq => wpAny_pure (wpAny_pure hq)) fun _ _ e => e)
 obtain ⟨it, fp, tn, J, H2, rfl, I2, T, st2, f2, hQ⟩ := h2
 refine comp_block (RR := fun acc C => compPost (model X.prog X.w) X.A X.xe (some (assign (.Name y py) X.env)) (fun _ s' => SP X pins D .next s') acc C) ok hc he I2 T st2 f2 hQ ?_
 intro D' C m' H' s' I' hn fC q
 show wpAny _ _ (assign (.Name y py) X.env (.ref D')) _ _ _
 refine wpAny_assign_Name (store_ok2 (v := .ref D') I' hN hiy hy rfl (fun s'' I'' hab => ?_) hf)
 obtain ⟨a, hsb, ha⟩ := hab
 have haC : C ≠ a := by
  rcases ha with e | e
  . rw [e]; exact fC.2.1
  . exact (fC.2.2.2.2.1 y a e).symm
 exact ⟨m', hn.sameBut hsb haC, fun h' hs' => ⟨_, H', I''.turned (t' := s''.toks) (fun b o hb e => hs'.extBut b o hb e) fC.1 fC.2.1 fC.2.2.2.1 fC.2.2.2.2.1 fC.2.2.2.2.2, q⟩⟩
theorem comp_range {lo : Int} {n : Nat} {H1 : Hp} {Q : VK} (f : Nat -> V) (hn : n <= sizeLine)
 (el : ∀ (i : Nat) (H' : Hp) (R : VK), i < n -> Same H1 H' -> (∀ H2, Same H' H2 -> R (f i) H2) -> ∀ s₀ H₀ ex, te s₀ H₀ ex (blkS fv σ (some (.int (lo + i)))) H' R)
 (fin : ∀ D H2, H1 D = none -> Same H1 H2 -> H2 D = some (.lst ((List.range n).map f)) -> Q (.ref D) H2) : tCompJ fv te σ (Itr lo n) H1 Q := by
 intro D hD
 have sd : ∀ {H2 : Hp} {o : HO}, Same H1 H2 -> Same H1 (upd H2 D o) := fun {H2 o} s b u e => by
  rw [upd_ne (ne_of_none e hD)]; exact s b u e
 refine ⟨fun i m ys H => m = n - i /\ i <= n /\ ys = (List.range i).map f /\ Same H1 H /\ H D = some (.lst ys), ⟨n, by simp, Nat.zero_le _, rfl, sd (Same.refl H1), upd_same⟩, ?_⟩
 rintro i m ys H ⟨rfl, hi, rfl, sm, hDi⟩
 refine ⟨hDi, ?_⟩
 by_cases hlt : i < n
 . refine .inr ⟨hlt, by simpa using Nat.lt_of_lt_of_le hlt hn, fun x H' y => ?_⟩
   obtain ⟨e, y⟩ := y
   subst e y
   refine fun s₀ H₀ ex => el i _ _ hlt sm (fun H2 s2 => ⟨s2 D _ hDi, n - (i + 1), by omega, rfl, hlt, ?_, sd (sm.trans s2), upd_same⟩) s₀ H₀ ex
   rw [List.range_succ, List.map_append]
   rfl
 . have e : i = n := by omega
   subst e
   exact .inl ⟨Nat.le_refl _, fin D H hD sm hDi⟩
end
end L2
namespace L2
open PySem PySem.Spec PyProof.Rows
theorem vals_of_get : ∀ {xs : List V} {us : List Value}, xs.length = us.length -> (∀ (i : Nat) x u, xs[i]? = some x -> us[i]? = some u -> RelV x u) -> Vals xs us
 | [], [], _, _ => .nil
 | [], _ :: _, h, _ => by simp at h
 | _ :: _, [], h, _ => by simp at h
 | x :: xs, u :: us, h, f => .cons (f 0 x u rfl rfl) (vals_of_get (by simpa using h) fun i y v h1 h2 => f (i + 1) y v (by simpa using h1) (by simpa using h2))
section
variable {X : Cx} {pos p : Pos} {a b c : Expr} {ta : TA}
theorem call_sorted : CallR X (.builtin "sorted") (fun xs H Q => ∃ (p : Addr) (ns : List Int), xs = [.ref p] /\ SqL X.K H p (ns.map V.int) /\ ns.length < 64 /\ ∀ (l : Addr) (ns' : List Int), H l = none -> ns'.Perm ns -> ns'.Pairwise (· <= ·) -> Q (.ref l) (upd H l (.lst (ns'.map V.int)))) := by
 intro pins s σ H xs us Q I r h
 obtain ⟨p, ns, rfl, hq, hl, q⟩ := h
 obtain ⟨u, rfl, rx⟩ := vals1 r
 cases rx
 obtain ⟨its, r', pl, hz⟩ := I.list hq
 have hi : IntsAre its ns := intsAre_of r'
 have hlen := r'.length
 rw [List.length_map] at hlen hz
 refine sorted_ints pl.isList hi (by omega) fun out ns' a1 a2 a3 => ?_
 obtain ⟨e, he⟩ := sortedAll_at s.heap its out
 have fresh : H (s.heap.objs.size + 1) = none := I.hok.fresh (Nat.le_succ _)
 refine ⟨.ref (s.heap.objs.size + 1), _, I.laid (t' := s.toks) (o := .lst (ns'.map V.int)) (fun b o e => sortedAll_old e) (Nat.le_succ _) ?_, rfl, q _ ns' fresh a2 a3⟩
 exact ⟨by rw [List.length_map, a2.length_eq]; exact hz, out.toList, e, vals_ints a1, by simpa using he⟩
def tRng1 (ta : TA) : TE := fun σ H Q => ta σ H fun vs H1 => ∃ j : Int, vs = [.int j] /\ ∀ p, H1 p = none -> Q (.ref p) (upd H1 p (.rng 0 j))
theorem pe_rng1 (hg : Gl X "range") (hm : X.mg "range" = none) (ha : PA X [a] ta) (hs : starEach [a] X.env = [(false, eval a X.env)] := by rfl) : PE X (.Call (.Name "range" p) [a] [] pos) (tRng1 ta) := by
 intro pins s σ H Q I h
 refine Call_ (ld_blt I hg hm boot_range (PyProof.Rows.callWith_type1 (thn (ha pos pins s σ H _ I h) fun us s1 ⟨vs, H1, I1, r1, q1⟩ => ?_) hs rfl))
 obtain ⟨j, e, q⟩ := q1
 subst e
 cases r1 with
 | cons r rr =>
   cases rr
   obtain ⟨t, rfl⟩ := r
   exact call_range_1 ⟨.ref s1.heap.objs.size, _, I1.laid (o := .rng 0 j) (fun b o e => Heap.get?_push_of_some _ e) (Nat.le_refl _) ⟨_, _, _, Heap.get?_push_size _ rfl⟩, rfl, q _ (I1.hok.fresh (Nat.le_refl _))⟩
def rngV (lo hi : Int) : List V := (List.range (hi - lo).toNat).map fun i => V.int (lo + (i : Nat))
theorem call_list_rng (hc : X.calm = true) : CallR X (.type "list") (fun xs H Q => ∃ p lo hi, xs = [.ref p] /\ H p = some (.rng lo hi) /\ -(2 ^ 62) <= lo /\ lo < 2 ^ 62 /\ -(2 ^ 62) <= hi /\ hi < 2 ^ 62 /\ (hi - lo).toNat <= 1000 /\ ∀ l, H l = none -> Q (.ref l) (upd H l (.lst (rngV lo hi)))) := by
 intro pins s σ H xs us Q I r h
 obtain ⟨p, lo, hi, rfl, hp, h1, h2, h3, h4, h5, q⟩ := h
 obtain ⟨u, rfl, rx⟩ := vals1 r
 cases rx
 obtain ⟨t, u, v, e⟩ := I.hok p _ hp
 have hn : Builtin.Range.rangeSize lo hi 1 = (((hi - lo).toNat : Nat) : Int) := by rw [rangeSize_one]; split <;> omega
 refine call_list_range (I.ok.hd hc) e (small_one h1 h2 h3 h4) hn (Nat.le_trans h5 (by decide)) fun h' tk acc' c' hk hS' hacc => ?_
 refine ⟨.ref s.heap.objs.size, _, I.laid (t' := tk) (o := .lst (rngV lo hi)) hk (Nat.le_refl _) ?_, rfl, q _ (I.hok.fresh (Nat.le_refl _))⟩
 have hlen : (rngV lo hi).length = (hi - lo).toNat := by unfold rngV; rw [List.length_map, List.length_range]
 refine ⟨by rw [hlen]; exact Nat.le_trans h5 (by decide), acc'.toList, c', vals_of_get (by rw [hlen, Array.length_toList]; exact hacc.1.symm) fun i x w e1 e2 => ?_, by simpa using hS'⟩
 obtain ⟨tk', ew⟩ := hacc.2 i w (by simpa using e2)
 have hi' : i < (hi - lo).toNat := by rw [<- hlen]; exact (List.getElem?_eq_some_iff.mp e1).1
 have ex : x = V.int (lo + (i : Nat)) := by
  unfold rngV at e1
  rw [List.getElem?_map, List.getElem?_range hi'] at e1
  exact (Option.some.inj e1).symm
 subst ex
 exact ⟨tk', by rw [ew, Int.mul_one]⟩
def rIndex (K : W.Frag) : V -> List V -> Hp -> VK -> Prop := fun x vs H Q => ∃ (l : Addr) (ns : List Int) (k : Int), x = .ref l /\ vs = [.int k] /\ SqL K H l (ns.map V.int) /\ k ∈ ns /\ Q (.int (ns.idxOf k : Nat)) H
theorem mt_index : MtR X "list.index" (rIndex X.K) := by
 intro pins s σ H x vs v us Q I rx rv h
 obtain ⟨l, ns, k, rfl, rfl, hq, hk, q⟩ := h
 cases rx
 obtain ⟨u, rfl, t, rfl⟩ := rv.one
 obtain ⟨its, r', pl, hz⟩ := I.list hq
 have hi : IntsAre its ns := intsAre_of r'
 have hlen := r'.length
 rw [List.length_map] at hlen hz
 have hn := line63
 have hl := pl.isList
 obtain ⟨⟨cls, dd, data, sl⟩, ho, hc, n, hd⟩ := id hl
 simp only at hc hd
 subst hc hd
 have hj : ns.idxOf k < ns.length := List.idxOf_lt_length_iff.mpr hk
 refine call_meets PySem.F.slot_list_index ⟨_, ho, rfl⟩ PySem.F.entry_list_index (PySem.F.args_list_index_2 _ _)
  (SeqAt.list_indexAt l its.toArray n dd sl (.int k t) (isInt k) (ns.idxOf k) (by rw [List.size_toArray, <- hlen]; exact hj) (by omega) ?_ ?_) ⟨ho, fun y hy => (eq_isInt k t hi y (by simpa using hy)).at _ _, ⟨.int (ns.idxOf k : Nat), H, I.tok _, ⟨_, rfl⟩, q⟩⟩
 . show isInt k its[ns.idxOf k] = true
   rw [isInt_at k hi _ (by omega) hj]
   simpa using List.getElem_idxOf hj
 . intro j hjs hlt
   show isInt k its[j] = false
   rw [isInt_at k hi j (by simpa using hjs) (by rw [hlen]; simpa using hjs)]
   exact ne_of_lt_idxOf hlt _
theorem call_isinst : CallR X (.builtin "isinstance") (fun xs H Q => ∃ x T t b, xs = [x, .ty T] /\ TyOf X.K H x t /\ W.kitOne X.K t (.type T) = some b /\ Q (.bl b) H) := by
 intro pins s σ H xs us Q I r h
 obtain ⟨x, T, t, b, rfl, ty, e, q⟩ := h
 obtain ⟨u, w', rfl, r1, r2⟩ := vals2 r
 cases (show w' = Value.type T from r2)
 exact isinst_ok I r1 ty e fun tk => ⟨.bl b, H, I.tok tk, rfl, q⟩
end
def eqVs : List V -> List V -> Bool
 | [], [] => true
 | x :: xs, y :: ys => eqV x y && eqVs xs ys
 | _, _ => false
def eAt (xs ys : List V) (j : Nat) : Bool := match xs[j]?, ys[j]? with
 | some x, some y => eqV x y
 | _, _ => false
theorem eAt_all : ∀ {xs ys : List V}, xs.length = ys.length -> (List.range xs.length).all (eAt xs ys) = eqVs xs ys
 | [], [], _ => rfl
 | [], _ :: _, h => by simp at h
 | _ :: _, [], h => by simp at h
 | x :: xs, y :: ys, h => by
   have h' : xs.length = ys.length := by simpa using h
   rw [List.length_cons, List.range_succ_eq_map, List.all_cons, List.all_map]
   show (eqV x y && (List.range xs.length).all (eAt xs ys)) = _
   rw [eAt_all h']
   rfl
theorem eqVs_len : ∀ {xs ys : List V}, xs.length ≠ ys.length -> eqVs xs ys = false
 | [], [], h => absurd rfl h
 | [], _ :: _, _ => rfl
 | _ :: _, [], _ => rfl
 | x :: xs, y :: ys, h => by
   show (eqV x y && eqVs xs ys) = false
   rw [eqVs_len (xs := xs) (ys := ys) (by simpa using h), Bool.and_false]
theorem eqVs_intL : ∀ (a b : List Int), eqVs (a.map V.int) (b.map V.int) = decide (a = b)
 | [], [] => rfl
 | [], _ :: _ => rfl
 | _ :: _, [] => rfl
 | x :: a, y :: b => by
   show ((x == y) && eqVs (a.map V.int) (b.map V.int)) = _
   rw [eqVs_intL a b]
   by_cases h1 : x = y <;> by_cases h2 : a = b <;> simp [h1, h2]
theorem all_get {p : V -> Bool} {xs : List V} {i : Nat} {x : V} (h : xs.all p = true) (e : xs[i]? = some x) : p x = true := List.all_eq_true.mp h x (List.mem_of_getElem? e)
theorem eAt_at {A : Around} {s : Shared} {xs ys : List V} {us ws : List Value} (r1 : Vals xs us) (r2 : Vals ys ws) (f1 : xs.all flatV = true) (f2 : ys.all flatV = true) (j : Nat) (h1 : j < us.toArray.size) (h2 : j < ws.toArray.size) :
 SeqAt.EqAt A s us.toArray[j] ws.toArray[j] (eAt xs ys j) := by
 have l1 := r1.length
 have l2 := r2.length
 rw [List.size_toArray] at h1 h2
 have e1 : xs[j]? = some xs[j] := by simp
 have e2 : ys[j]? = some ys[j] := by simp
 obtain ⟨u, eu, ru⟩ := r1.get e1
 obtain ⟨w, ew, rw'⟩ := r2.get e2
 have q1 : us.toArray[j] = u := by
  have : us[j] = u := by rw [List.getElem?_eq_getElem h1] at eu; exact Option.some.inj eu
  simpa using this
 have q2 : ws.toArray[j] = w := by
  have : ws[j] = w := by rw [List.getElem?_eq_getElem h2] at ew; exact Option.some.inj ew
  simpa using this
 have q3 : eAt xs ys j = eqV xs[j] ys[j] := by unfold eAt; rw [e1, e2]
 rw [q1, q2, q3]
 exact eqAt_V ru rw' (all_get f1 e1) (all_get f2 e2)
section
variable {X : Cx}
def rEqL (K : W.Frag) (neg : Bool) : R2 := fun x y H Q => ∃ a b xs ys, x = .ref a /\ y = .ref b /\ SqL K H a xs /\ SqL K H b ys /\ xs.all flatV = true /\ ys.all flatV = true /\ Q (.bl (if neg then !eqVs xs ys else eqVs xs ys)) H
def rEqT (K : W.Frag) (neg : Bool) : R2 := fun x y H Q => ∃ a b xs ys, x = .ref a /\ y = .ref b /\ SqT K H a xs /\ SqT K H b ys /\ xs.all flatV = true /\ ys.all flatV = true /\ Q (.bl (if neg then !eqVs xs ys else eqVs xs ys)) H
theorem op_eqL (hu : X.A.units < cLine) : OpR X (compareOp .Eq) (rEqL X.K false) := by
 intro pins s σ H x y v u Q I rx ry h
 obtain ⟨a, b, xs, ys, rfl, rfl, h1, h2, f1, f2, q⟩ := h
 cases rx
 cases ry
 obtain ⟨us, r1, p1, _⟩ := I.list h1
 obtain ⟨ws, r2, p2, _⟩ := I.list h2
 have l1 := r1.length
 have l2 := r2.length
 by_cases e : xs.length = ys.length
 . refine SeqAt.eq_listAt (e := eAt xs ys) p1.isList p2.isList (by simp only [List.size_toArray] <;> omega) hu (fun j k1 k2 => eAt_at r1 r2 f1 f2 j k1 k2) ⟨.bl _, H, I, ?_, q⟩
   rw [List.size_toArray, <- l1, eAt_all e]
   rfl
 . refine SeqAt.eq_list_lengthsAt p1.isList p2.isList (by simp only [List.size_toArray, bne_iff_ne, ne_eq] <;> omega) hu ⟨.bl _, H, I, ?_, q⟩
   rw [eqVs_len e]
   rfl
theorem eAt_allT {xs ys : List V} : ((List.range (min xs.length ys.length)).all (eAt xs ys) && (xs.length == ys.length)) = eqVs xs ys := by
 by_cases e : xs.length = ys.length
 . rw [<- e, Nat.min_self, eAt_all e, beq_self_eq_true, Bool.and_true]
 . rw [eqVs_len e, beq_false_of_ne e, Bool.and_false]
theorem op_eqT (hu : X.A.units < cLine) : OpR X (compareOp .Eq) (rEqT X.K false) := by
 intro pins s σ H x y v u Q I rx ry h
 obtain ⟨a, b, xs, ys, rfl, rfl, h1, h2, f1, f2, q⟩ := h
 cases rx
 cases ry
 obtain ⟨us, r1, p1, _⟩ := I.tuple h1
 obtain ⟨ws, r2, p2, _⟩ := I.tuple h2
 have l1 := r1.length
 have l2 := r2.length
 refine SeqAt.eq_tupleAt (e := eAt xs ys) p1 p2 hu (fun j k1 k2 => eAt_at r1 r2 f1 f2 j k1 k2) ⟨.bl _, H, I, ?_, q⟩
 rw [List.size_toArray, List.size_toArray, <- l1, <- l2, eAt_allT]
 rfl
end
def Its (x : Str) : It := ⟨fun i _ => i < x.cps.size, fun i H v H' => H' = H /\ ∃ c, x.cps[i]? = some c /\ v = .str ⟨#[c]⟩, fun i _ => i = x.cps.size⟩
theorem turn_strA {P : Program} {w : World} {K : W.Frag} {tg : Expr} (x : Str) (t : Tok) (it : Addr) : Turn P w K tg (Its x) [it] it (fun i h => h.IsStrIter it "str_ascii_iterator" x t i) where
 mem := by simp
 obj := fun i h st b hb => by
  have e : b = it := by simpa using hb
  subst e
  obtain ⟨o, ho, hc, hd⟩ := st
  exact ⟨o, ho, fun v z => by rw [hd] at z; cases z⟩
 keep := fun i h h' st k => let ⟨o, ho, r⟩ := st; ⟨o, k it (by simp) o ho, r⟩
 item := by
  intro X hP hw hK hc i pins s σ H E I hf st hg
  subst hP hw hK
  obtain ⟨f0, f1, f2, f3, f4, f5⟩ := hf it (by simp)
  refine (Walks.strAscii (prog := X.prog) (w := X.w) (I.ok.hd hc) it x t).item i s _ _ hg st fun v h' tk hv st' kk => ?_
  obtain ⟨c, u, hcx, rfl⟩ := hv
  have I1 : Inv X pins σ H { s with heap := h', toks := tk } := I.turned (fun b o hb e => kk b o (by simpa using hb) e) f0 f1 f3 f4 f5
  obtain ⟨o, ho, hcl, hd⟩ := id st'
  exact ⟨_, rfl, go_of (s := { s with heap := h', toks := tk }) (n := "str_ascii_iterator") ho hcl hd (by decide) ⟨.str ⟨#[c]⟩, H, I1, ⟨u, rfl⟩, ⟨rfl, c, hcx, rfl⟩, st', fun b hb => (hf b hb).1⟩⟩
 done := by
  intro X hP hw hK hc i pins s σ H E I hf st hg
  subst hP hw hK
  obtain ⟨f0, f1, f2, f3, f4, f5⟩ := hf it (by simp)
  have hg' : i = x.cps.size := hg
  subst hg'
  exact (Walks.strAscii (prog := X.prog) (w := X.w) (I.ok.hd hc) it x t).done s _ _ st fun h' tk kk => ⟨rfl, I.turned (t' := tk) (fun b o hb e => kk b o (by simpa using hb) e) f0 f1 f3 f4 f5⟩
 self := fun _ _ _ _ _ st h => wpAny_pyIter_striter_ascii st h
theorem turn_strW {P : Program} {w : World} {K : W.Frag} {tg : Expr} (x : Str) (t : Tok) (it : Addr) : Turn P w K tg (Its x) [it] it (fun i h => h.IsStrIter it "str_iterator" x t i) where
 mem := by simp
 obj := fun i h st b hb => by
  have e : b = it := by simpa using hb
  subst e
  obtain ⟨o, ho, hc, hd⟩ := st
  exact ⟨o, ho, fun v z => by rw [hd] at z; cases z⟩
 keep := fun i h h' st k => let ⟨o, ho, r⟩ := st; ⟨o, k it (by simp) o ho, r⟩
 item := by
  intro X hP hw hK hc i pins s σ H E I hf st hg
  subst hP hw hK
  obtain ⟨f0, f1, f2, f3, f4, f5⟩ := hf it (by simp)
  refine (Walks.strWide (prog := X.prog) (w := X.w) (I.ok.hd hc) it x t).item i s _ _ hg st fun v h' tk hv st' kk => ?_
  obtain ⟨c, u, hcx, rfl⟩ := hv
  have I1 : Inv X pins σ H { s with heap := h', toks := tk } := I.turned (fun b o hb e => kk b o (by simpa using hb) e) f0 f1 f3 f4 f5
  obtain ⟨o, ho, hcl, hd⟩ := id st'
  exact ⟨_, rfl, go_of (s := { s with heap := h', toks := tk }) (n := "str_iterator") ho hcl hd (by decide) ⟨.str ⟨#[c]⟩, H, I1, ⟨u, rfl⟩, ⟨rfl, c, hcx, rfl⟩, st', fun b hb => (hf b hb).1⟩⟩
 done := by
  intro X hP hw hK hc i pins s σ H E I hf st hg
  subst hP hw hK
  obtain ⟨f0, f1, f2, f3, f4, f5⟩ := hf it (by simp)
  have hg' : i = x.cps.size := hg
  subst hg'
  exact (Walks.strWide (prog := X.prog) (w := X.w) (I.ok.hd hc) it x t).done s _ _ st fun h' tk kk => ⟨rfl, I.turned (t' := tk) (fun b o hb e => kk b o (by simpa using hb) e) f0 f1 f3 f4 f5⟩
 self := fun _ _ _ _ _ st h => wpAny_pyIter_striter_wide st h
section
variable {X : Cx} {tg : Expr}
def iStr (tl : TE) : TI := fun σ H R => tl σ H fun v H1 => ∃ x, v = .str x /\ R (Its x) H1
theorem pi_str {l : Expr} {tl : TE} (hl : PE X l tl) : PI X tg l (iStr tl) := by
 intro pins s σ H R I h
 refine thn (hl pins s σ H _ I h) fun v s1 ⟨x, H1, I1, r1, q1⟩ => ?_
 obtain ⟨z, e, q⟩ := q1
 subst e
 obtain ⟨t, rfl⟩ := r1
 have fp : ∀ b ∈ [s1.heap.objs.size], FpOk X pins H1 b := fun b hb => by
  have e : b = s1.heap.objs.size := by simpa using hb
  subst e
  exact I1.fpOk (Nat.le_refl _) (I1.hok.fresh (Nat.le_refl _))
 cases ha : z.cps.all (· < 128)
 . refine wpAny_pyIter_wide ha ?_
   exact ⟨s1.heap.objs.size, [s1.heap.objs.size], _, _, H1, rfl, I1.kept (t' := s1.toks) fun b o e => Heap.get?_push_of_some _ e, turn_strW z t _, ⟨_, Heap.get?_push_size _ rfl, rfl, rfl⟩, fp, q⟩
 . refine wpAny_pyIter_ascii ha ?_
   exact ⟨s1.heap.objs.size, [s1.heap.objs.size], _, _, H1, rfl, I1.kept (t' := s1.toks) fun b o e => Heap.get?_push_of_some _ e, turn_strA z t _, ⟨_, Heap.get?_push_size _ rfl, rfl, rfl⟩, fp, q⟩
end
abbrev txt (l : List Nat) : Str := ⟨l.toArray⟩
abbrev sgn (c : Nat) : V := .str ⟨#[c]⟩
theorem for_str {l : List Nat} {g : TG} {tb : TS} {D : Ends} {σ : St} {H : Hp} (Pv : Nat -> St -> Hp -> Prop) (h0 : Pv 0 σ H)
 (hs : ∀ i c σ H, l[i]? = some c -> Pv i σ H -> g (sgn c) σ H fun σ2 H2 => tb { D with nx := Pv (i + 1), ct := Pv (i + 1), bk := D.nx } σ2 H2) (hd : ∀ σ H, Pv l.length σ H -> D.nx σ H) :
 ∃ W : Nat -> Nat -> St -> Hp -> Prop, (∃ m, W 0 m σ H) /\ ∀ i m σ H, W i m σ H ->
   ((Its (txt l)).stop i H /\ D.nx σ H) \/ ((Its (txt l)).go i H /\ ∃ N : St -> Hp -> Prop, (∀ σ' H', N σ' H' -> ∃ m', m' < m /\ W (i + 1) m' σ' H') /\ ∀ x H', (Its (txt l)).yld i H x H' -> g x σ H' fun σ2 H2 => tb { D with nx := N, ct := N, bk := D.nx } σ2 H2) := by
 refine ⟨fun i m σ H => m = l.length - i /\ i <= l.length /\ Pv i σ H, ⟨l.length, by simp, Nat.zero_le _, h0⟩, ?_⟩
 rintro i m σ H ⟨rfl, hi, p⟩
 by_cases hlt : i < l.length
 . refine .inr ⟨by show i < l.toArray.size; simpa using hlt, Pv (i + 1), fun σ' H' p' => ⟨l.length - (i + 1), by omega, rfl, hlt, p'⟩, fun x H' y => ?_⟩
   obtain ⟨e, c, hc, y⟩ := y
   subst e y
   exact hs i c σ _ (by simpa using hc) p
 . have e : i = l.length := by omega
   subst e
   exact .inl ⟨by show l.length = l.toArray.size; simp, hd σ H p⟩
section
variable {X : Cx}
end
section
variable {X : Cx} {tg : Expr}
end
end L2
namespace L2
open PySem PySem.Spec PyProof.Rows
end L2
namespace L2
open PySem PySem.Spec PyProof.Rows
structure NoE (CX : CXT) : Prop where
 no : ∀ outer H s e s', CX outer H s E0 e s' -> False
theorem NoE.pass {CX : CXT} (h : NoE CX) {X : Cx} : Passes CX X E0 := fun _ _ _ _ _ _ _ z => (h.no _ _ _ _ _ z).elim
section
variable {P : Program} {w : World} {K : W.Frag} {mg : Str -> Option Value} {base : Heap} {CX : CXT}
theorem Fun.okN {x qual : Str} {st : Stmt} {f : Addr} {fd : FuncData} {N ps : List Str} {k : Nat} {sp : Sp} (F : Fun K x qual st f fd) (S : FnScope N ps (defScope st)) (len : ∀ vs H Q E, sp vs H Q E -> vs.length = ps.length)
 (hbody : ∀ (cdv : Value) (A : Around) (outer : List Env) (s : Shared) (H : Hp) (vs : List V) (Q : VK) (E : XK), Room k (A.deeper (envOfC qual (defScope st) s.heap.objs.size f cdv)) -> sp vs H Q E ->
  ∃ t, PSs (cxOf CX P w K mg base N qual (defScope st) f cdv A outer s H E).nox (defBody st) t /\ t { nx := fun _ H' => Q .non H', rt := Q } (start N vs) H) : FnOk P w K mg base CX (k + 1) f fd ps sp := by
 obtain ⟨oc, od, kV, doc, pm, an, cdv, ct, osl, rfl, lk, hcd⟩ := F.ex
 refine fn_of lk hcd S len fun A outer s H vs Q E hr hsp => ?_
 obtain ⟨t, h, q⟩ := hbody cdv A outer s H vs Q E hr hsp
 exact ⟨t, h.nox, q⟩
structure Def (P : Program) (w : World) (K : W.Frag) (mg : Str -> Option Value) (base : Heap) (CX : CXT) (x : Str) (k : Nat) (ps : List Str) (sp : Sp) : Prop where
 ex : ∃ (f : Addr) (fd : FuncData), mg x = some (.ref f) /\ W.keepIn K (.ref f) = true /\ Binds K fd ps [] /\ FnOk P w K mg base CX k f fd ps sp
structure MDef (P : Program) (w : World) (K : W.Frag) (mg : Str -> Option Value) (base : Heap) (CX : CXT) (C : Addr) (m : Str) (k : Nat) (ps : List Str) (sp : Sp) : Prop where
 ex : ∃ (f : Addr) (fd : FuncData), Meth K C m f /\ Binds K fd ps [] /\ FnOk P w K mg base CX k f fd ps sp
structure CDef (P : Program) (w : World) (K : W.Frag) (mg : Str -> Option Value) (base : Heap) (CX : CXT) (x : Str) (C : Addr) (k : Nat) (ps : List Str) (sp : Sp) : Prop where
 ex : ∃ (f : Addr) (fd : FuncData), mg x = some (.ref C) /\ Mk K C f /\ Binds K fd ps [] /\ FnOk P w K mg base CX k f fd ps sp
end
section
variable {X : Cx} {CX : CXT} {k j : Nat} {C : Addr} {ps : List Str} {sp : Sp} {x m : Str} {p pos apos : Pos} {e o : Expr} {es : List Expr} {ta : TE} {t : TA}
theorem pe_callD (D : Def X.prog X.w X.K X.mg X.base CX x k ps sp) (hE : NoE CX) (hr : Room j X.A) (hg : Gl X x) (ha : PA X (e :: es) t) (hj : k <= j := by decide) (hdb : (x == ("__debug__" : Str)) = false := by decide)
 (he : starEach (e :: es) X.env = (false, eval e X.env) :: starEach es X.env := by rfl) (hpl : (backTo pos (starEach es X.env)).any (·.1) = false := by rfl) : PE X (.Call (.Name x p) (e :: es) [] pos) (tCall sp [] E0 t) := by
 obtain ⟨f, fd, hm, hk, hb, F⟩ := D.ex
 exact pe_call F (hr.mono hj) hg hm hk hb .nil hE.pass ha hdb he hpl
theorem pe_methD {pl : Sem Bool} (he : PE X o ta) (c : Cls X.K C) (D : MDef X.prog X.w X.K X.mg X.base CX C m k ps sp) (hE : NoE CX) (hr : Room j X.A) (ha : PA X (e :: es) t) (hj : k <= j := by decide)
 (hst : starEach (e :: es) X.env = (false, eval e X.env) :: starEach es X.env := by rfl) (hpl : (backTo pos (starEach es X.env)).any (·.1) = false := by rfl)
 (ht : eval (.Call (.Attribute o m apos) (e :: es) [] pos) X.env = (do
  let ov <- eval o X.env
  standAt apos.atName
  let (f, first) <- holding [ov] (getMethod ov m pl)
  callWith pos f first (backTo pos (starEach (e :: es) X.env)) (backToKw pos (keywordEach [] X.env))) := by rfl) :
 PE X (.Call (.Attribute o m apos) (e :: es) [] pos) (tMeth C m sp [] E0 ta t) := by
 obtain ⟨f, fd, hm, hb, F⟩ := D.ex
 exact pe_meth he c hm F (hr.mono hj) hb .nil hE.pass ha hst hpl ht
theorem pe_makeD (D : CDef X.prog X.w X.K X.mg X.base CX x C k ps sp) (hE : NoE CX) (hr : Room j X.A) (hg : Gl X x) (ha : PA X (e :: es) t) (hj : k + 1 <= j := by decide) (hdb : (x == ("__debug__" : Str)) = false := by decide)
 (he : starEach (e :: es) X.env = (false, eval e X.env) :: starEach es X.env := by rfl) (hpl : (backTo pos (starEach es X.env)).any (·.1) = false := by rfl) : PE X (.Call (.Name x p) (e :: es) [] pos) (tMake C sp [] E0 t) := by
 obtain ⟨f, fd, hm, M, hb, F⟩ := D.ex
 exact pe_make M F (hr.mono hj) hg hm hb .nil hE.pass ha hdb he hpl
theorem pe_globE {v : V} (hg : Gl X x) (h : ∃ u, X.mg x = some u /\ RelV v u) (hd : (x == ("__debug__" : Str)) = false := by decide) : PE X (.Name x pos) (tC v) := by
 obtain ⟨u, hm, r⟩ := h
 exact pe_glob hg hm r hd
end
theorem iteD {c A B : Prop} [Decidable c] (hc : c) (h : A) : if decide c = true then A else B := by rw [if_pos (decide_eq_true hc)]; exact h
theorem iteDn {c A B : Prop} [Decidable c] (hc : ¬ c) (h : B) : if decide c = true then A else B := by rw [if_neg (by rw [decide_eq_false hc]; exact Bool.false_ne_true)]; exact h
theorem iteD2 {c A B : Prop} [Decidable c] (h1 : c -> A) (h2 : ¬ c -> B) : if decide c = true then A else B := by
 by_cases hc : c
 . exact iteD hc (h1 hc)
 . exact iteDn hc (h2 hc)
theorem iteB {b : Bool} {A B : Prop} (h1 : b = true -> A) (h2 : b = false -> B) : if b = true then A else B := by
 cases b with
 | true => exact iteT (h1 rfl)
 | false => exact iteF (h2 rfl)
abbrev nat (k : Nat) : V := .int (k : Int)
def natL (w : List Nat) : List V := w.map fun (k : Nat) => V.int (k : Int)
theorem natL_len (w : List Nat) : (natL w).length = w.length := by unfold natL; rw [List.length_map]
theorem natL_get {w : List Nat} {i c : Nat} (h : w[i]? = some c) : (natL w)[i]? = some (nat c) := by unfold natL; rw [List.getElem?_map, h]; rfl
theorem natL_flat (w : List Nat) : (natL w).all flatV = true := by
 unfold natL
 rw [List.all_map]
 exact List.all_eq_true.mpr fun _ _ => rfl
theorem bt_int : bootBuiltins "int" = some (.type "int") := by decide +kernel
theorem bt_bool : bootBuiltins "bool" = some (.type "bool") := by decide +kernel
theorem bt_list : bootBuiltins "list" = some (.type "list") := by decide +kernel
theorem bt_sorted : bootBuiltins "sorted" = some (.builtin "sorted") := by decide +kernel
theorem bt_isinstance : bootBuiltins "isinstance" = some (.builtin "isinstance") := by decide +kernel
end L2
namespace L2
open PySem PySem.Spec PyProof.Rows
theorem comp_range0 {fv : List (Str × Nat)} {σ : St} {te : TEB} {n : Nat} {H1 : Hp} {Q : VK} (f : Nat -> V) (hn : n <= sizeLine)
 (el : ∀ (i : Nat) (H' : Hp) (R : VK), i < n -> Same H1 H' -> (∀ H2, Same H' H2 -> R (f i) H2) -> ∀ s₀ H₀ ex, te s₀ H₀ ex (blkS fv σ (some (nat i))) H' R)
 (fin : ∀ D H2, H1 D = none -> Same H1 H2 -> H2 D = some (.lst ((List.range n).map f)) -> Q (.ref D) H2) : tCompJ fv te σ (Itr 0 n) H1 Q :=
 comp_range f hn (fun i H' R hi sm kk => by rw [Int.zero_add]; exact el i H' R hi sm kk) fin
theorem for_range0 {n : Nat} {g : TG} {tb : TS} {D : Ends} {σ : St} {H : Hp} (Pv : Nat -> St -> Hp -> Prop) (h0 : Pv 0 σ H)
 (hs : ∀ i σ H, i < n -> Pv i σ H -> g (nat i) σ H fun σ2 H2 => tb { D with nx := Pv (i + 1), ct := Pv (i + 1), bk := D.nx } σ2 H2) (hd : ∀ σ H, Pv n σ H -> D.nx σ H) :
 ∃ W : Nat -> Nat -> St -> Hp -> Prop, (∃ m, W 0 m σ H) /\ ∀ i m σ H, W i m σ H ->
   ((Itr 0 n).stop i H /\ D.nx σ H) \/ ((Itr 0 n).go i H /\ ∃ N : St -> Hp -> Prop, (∀ σ' H', N σ' H' -> ∃ m', m' < m /\ W (i + 1) m' σ' H') /\ ∀ x H', (Itr 0 n).yld i H x H' -> g x σ H' fun σ2 H2 => tb { D with nx := N, ct := N, bk := D.nx } σ2 H2) :=
 for_range Pv h0 (fun i σ H hi p => by rw [Int.zero_add]; exact hs i σ H hi p) hd
theorem same_upd {H H' : Hp} {t : Addr} {o : HO} (s : Same H H') (ht : H t = none) : Same H (upd H' t o) := fun b u e => by rw [upd_ne (ne_of_none e ht)]; exact s b u e
theorem same_new {H : Hp} {t : Addr} {o : HO} (ht : H t = none) : Same H (upd H t o) := same_upd (Same.refl H) ht
theorem sgn_iff {z : Str} {c : Nat} (hs : z = ⟨#[c]⟩) (l : Nat) : sgn l = V.str z ↔ l = c := by
 subst hs
 constructor
 . intro h
   injection h with h
   injection h with h
   simpa using h
 . rintro rfl; rfl
theorem txt_len (l : List Nat) : (txt l).length = l.length := by show l.toArray.size = _; simp
theorem kit_same {K : W.Frag} {T : String} : W.kitOne K (.type T) (.type T) = some true := by
 unfold W.kitOne
 rw [if_pos (beq_self_eq_true _)]
theorem kit_ib {K : W.Frag} : W.kitOne K (.type "int") (.type "bool") = some false := by
 unfold W.kitOne
 rw [if_neg (by decide)]
 unfold W.kitCls W.subIn
 with_unfolding_all rfl
end L2
namespace L2
open PySem PySem.Spec PyProof.Rows
structure UnB (fs : List Addr) (H H' : Hp) (h B : Heap) : Prop where
 keep : ∀ b o, h.get? b = some o -> H b = none -> b ∉ fs -> B.get? b = some o
 free : ∀ b o, h.get? b = some o -> H b = none -> H' b = none
 there : ∀ b o, h.get? b = some o -> b ∉ fs -> ∃ o', B.get? b = some o'
 tups : ∀ b xs, H b = some (.tup xs) -> H' b = some (.tup xs)
 frzs : ∀ b o u, H b = some (.frz o u) -> H' b = some (.frz o u)
 tbls : ∀ b ps, H b = some (.tbl ps) -> ∃ more, H' b = some (.tbl (ps ++ more))
def Slots (fs : List Addr) (h h' : Heap) : Prop := ∀ b ∈ fs, ∀ o, h.get? b = some o -> (∀ vs, o.data ≠ .fields vs) -> ∃ sl, h'.get? b = some { o with slots := sl }
theorem Slots.up {fs : List Addr} {h h1 h2 : Heap} (a : Slots fs h h1) (b : h1.UpToSlots h2) : Slots fs h h2 := fun c hc o e d => by
 obtain ⟨sl, e1⟩ := a c hc o e d
 obtain ⟨sl2, e2⟩ := b c _ e1 d
 exact ⟨sl2, e2⟩
structure Fly (P : Program) (w : World) (outer : List Env) (H : Hp) (s : Shared) (a : Addr) (cls : Value) (H' : Hp) (s' : Shared) : Prop where
 ex : ∃ B a0, UnB (frs outer) H H' s.heap B /\ HOk P w H' B /\ Heap.FlyingW B outer a cls a0 s'.heap
 os : s'.os = s.os
 bare : AllBare s'.gens
 slot : Slots (frs outer) s.heap s'.heap
def CXR (P : Program) (w : World) : CXT := fun outer H s E e s' => ∃ a cls H', e = .ref a /\ Fly P w outer H s a cls H' s' /\ E cls none H'
theorem noER {P : Program} {w : World} : NoE (CXR P w) := ⟨fun _ _ _ _ _ ⟨_, _, _, _, _, z⟩ => z⟩
structure Exits (CX : CXT) (X : Cx) (E : XK) : Prop where
 pass : Passes CX X E
 made : ∀ (pins : List (Addr × Obj)) (σ : St) (H : Hp) (s : Shared) (h' : Heap) (e : Addr) (cls : Value) (vs : List Value), Inv X pins σ H s -> Heap.MadeExcOf s.heap h' e cls vs -> E cls none H -> X.xe (.ref e) { s with heap := h' }
section
variable {P : Program} {w : World} {K : W.Frag} {mg : Str -> Option Value} {base : Heap} {N : List Str} {qual : Str} {scope : Scope} {f : Addr} {cd : Value} {A : Around} {outer : List Env} {s0 : Shared} {H0 : Hp} {E : XK}
theorem frs_cons {env : Env} {L : Addr} {l : List Env} (h : env.frame = some L) : frs (env :: l) = L :: frs l := by unfold frs; rw [List.filterMap_cons, h]
theorem frs_frame {l : List Env} : ∀ env ∈ l, ∀ b, env.frame = some b -> b ∈ frs l := fun env he b hb => List.mem_filterMap.mpr ⟨env, he, hb⟩
section
variable {CX : CXT} {pins : List (Addr × Obj)} {σ : St} {H H' : Hp} {s : Shared} {B : Heap}
theorem unb_out (I : Inv (cxOf CX P w K mg base N qual scope f cd A outer s0 H0 E) pins σ H s) (U : UnB (frs (envOfC qual scope s0.heap.objs.size f cd :: outer)) H H' s.heap B) : UnB (frs outer) H0 H' s0.heap B := by
 have ub := I.base
 have nex : ∀ b : Addr, b ∉ (cxOf CX P w K mg base N qual scope f cd A outer s0 H0 E).ex := fun b z => by cases z
 have fr : frs (envOfC qual scope s0.heap.objs.size f cd :: outer) = s0.heap.objs.size :: frs outer := frs_cons rfl
 have nl : ∀ b o, s0.heap.get? b = some o -> b ∉ frs outer -> b ∉ frs (envOfC qual scope s0.heap.objs.size f cd :: outer) := fun b o e hb z => by
  rw [fr] at z
  rcases List.mem_cons.mp z with z | z
  . exact Nat.ne_of_lt (Heap.lt_size e) z
  . exact hb z
 refine ⟨fun b o e n hb => ?_, fun b o e n => ?_, fun b o e hb => ?_, fun b xs e => U.tups b xs (ub.tups b xs e), fun b o u e => U.frzs b o u (ub.frzs b o u e), fun b ps e => ?_⟩
 . exact U.keep b o (ub.keep b o e n hb (nex b)) (ub.free b o e n (nex b)) (nl b o e hb)
 . obtain ⟨o2, e2⟩ := ub.there b o e (nex b)
   exact U.free b o2 e2 (ub.free b o e n (nex b))
 . obtain ⟨o2, e2⟩ := ub.there b o e (nex b)
   exact U.there b o2 e2 (nl b o e hb)
 . obtain ⟨m1, e1⟩ := ub.tbls b ps e
   obtain ⟨m2, e2⟩ := U.tbls b _ e1
   exact ⟨m1 ++ m2, by rw [e2, Array.append_assoc]⟩
theorem slots_out (I : Inv (cxOf CX P w K mg base N qual scope f cd A outer s0 H0 E) pins σ H s) {h' : Heap} (S : Slots (frs (envOfC qual scope s0.heap.objs.size f cd :: outer)) s.heap h') : Slots (frs outer) s0.heap h' := fun b hb o e d => by
 have nex : b ∉ (cxOf CX P w K mg base N qual scope f cd A outer s0 H0 E).ex := fun z => by cases z
 obtain ⟨sl, e1⟩ := I.base.slot b o e (I.ok.frf b hb) hb nex
 obtain ⟨sl2, e2⟩ := S b (by rw [frs_cons (L := s0.heap.objs.size) rfl]; exact List.mem_cons_of_mem _ hb) _ e1 d
 exact ⟨sl2, e2⟩
end
theorem exitsR : Exits (CXR P w) (cxOf (CXR P w) P w K mg base N qual scope f cd A outer s0 H0 E) E where
 pass := by
  rintro pins σ H s e s' I ⟨a, cls, H', rfl, F, hE⟩
  obtain ⟨B, a0, U, ok, fl⟩ := F.ex
  refine wpAny_leaves_onW I.ok.frames rfl fl fun h2 fl2 up => ⟨a, cls, H', rfl, ⟨⟨B, a0, unb_out I U, ok, fl2⟩, F.os.trans I.os, F.bare, slots_out I (F.slot.up up)⟩, hE⟩
 made := by
  intro pins σ H s h' e cls vs I hm hE
  have hst := I.stack
  have nf : ∀ b u, H b = some u -> b ∉ frs (envOfC qual scope s0.heap.objs.size f cd :: outer) := fun b u hb z => by
   have := I.stkFree b z
   rw [hb] at this; cases this
  have ok : HOk P w H (PySem.W.hideAll s.heap (frs (envOfC qual scope s0.heap.objs.size f cd :: outer))) := fun b u hb =>
   (I.hok b u hb).stay (fun c v hc q => PySem.W.hideAll_get _ q (by
    rcases hc with rfl | hc
    . exact nf _ _ hb
    . exact nf _ _ hc)) (fun _ q => q) fun _ _ q => q
  have U : UnB (frs (envOfC qual scope s0.heap.objs.size f cd :: outer)) H H s.heap (PySem.W.hideAll s.heap (frs (envOfC qual scope s0.heap.objs.size f cd :: outer))) :=
   ⟨fun b o q _ hb => PySem.W.hideAll_get _ q hb, fun _ _ _ n => n, fun b o q hb => ⟨o, PySem.W.hideAll_get _ q hb⟩, fun _ _ q => q, fun _ _ _ q => q, fun _ ps q => ⟨#[], by rw [q]; simp⟩⟩
  refine wpAny_leaves_madeW (h := s.heap) I.ok.frames rfl (fun b o q => W.of_hideAll _ q) (W.funFrames_hide hst frs_frame) hm fun h2 t fl tp tn up => ?_
  refine ⟨e, cls, H, rfl, ⟨⟨_, _, unb_out I U, ok, fl⟩, I.os, I.bare, slots_out I fun b hb o q d => ?_⟩, hE⟩
  obtain ⟨sl, e2⟩ := up b o (hm.keeps b o q) d
  exact ⟨sl, e2⟩
end
end L2
namespace L2
open PySem PySem.Spec PyProof.Rows
section
variable {X : Cx} {CX : CXT} {E : XK} {x : Str} {C : Addr} {j : Nat} {p pos cpos np : Pos} {e : Expr} {es : List Expr} {t : TA} {te : TE}
def tRaise (C : Addr) (E : XK) (t : TA) : TS := fun _ σ H => t σ H fun vs H1 => vs.length <= sizeLine /\ E (.ref C) none H1
theorem ps_raise {bm : List Value} {B newId initId : String} (hx : Exits CX X E) (O : OwnCls x C bm newId X.mg X.base) (FB : ExcBaseFacts B newId initId bm) (hr : Room j X.A) (hg : Gl X x) (ha : PA X (e :: es) t)
 (hdb : (x == ("__debug__" : Str)) = false := by decide) (he : starEach (e :: es) X.env = (false, eval e X.env) :: starEach es X.env := by rfl) (hpl : (backTo cpos (starEach es X.env)).any (·.1) = false := by rfl) :
 PS X (.Raise (some (.Call (.Name x np) (e :: es) [] cpos)) none pos) (tRaise C E t) := by
 intro pins s σ H D I h
 obtain ⟨tl, ns, nm, qn, bs, hdct, sn, sub, ab, col, dd, k0, k1, k2, k3, k5, mN, hC, hN, hni, T⟩ := O.obj
 have pl : (backTo cpos (starEach (e :: es) X.env)).any (·.1) = false := by
  rw [he]
  show (false || (backTo cpos (starEach es X.env)).any (·.1)) = false
  rw [hpl]; rfl
 refine wpAny_Raise_call_subT (nm := nm) (q := qn) (N := ns) (bs := bs) (bm := tl) (hdct := hdct) (sn := sn) (sub := sub) (ab := ab) (col := col) (dd := dd) (k0 := k0) (k1 := k1) (k2 := k2) (k3 := k3) (k5 := k5) FB (mN := mN) (T.hasType FB.hasBase) hr.hd pl hni
  (ld_glob I hg O.bound ⟨rfl, ?_⟩ hdb)
 have go := ha cpos pins s σ H _ I h
 rw [he] at go ⊢
 exact Calls.evalArgs_plain (thn go fun us s2 ⟨vs, H1, I1, r, z, q⟩ => ⟨rfl, by rw [<- r.length]; exact z, I1.bk _ _ hC, hN.keeps I1.bk, T.keeps I1.bk, fun h' a hm => hx.made pins σ H1 s2 h' a _ _ I1 hm q⟩)
abbrev TJ := St -> Hp -> Nat -> (Hp -> Prop) -> Prop
def PJ (X : Cx) (es : List Expr) (t : TJ) : Prop :=
 ∀ (pins : List (Addr × Obj)) (s : Shared) (σ : St) (H : Hp) (acc : Str) (n : Nat) (R : Hp -> Prop), Inv X pins σ H s -> acc.length <= n -> t σ H n R ->
   Joins (model X.prog X.w) X.A X.xe (evalEach es X.env) acc (fun out s1 => out.length <= sizeLine /\ ∃ H1, Inv X pins σ H1 s1 /\ R H1) s
def tjNil : TJ := fun _ H n R => n <= sizeLine /\ R H
theorem pj_nil : PJ X [] tjNil := fun _ s σ H acc n R I hl h => ⟨Nat.le_trans hl h.1, H, I, h.2⟩
def tjC (m : Nat) (tj : TJ) : TJ := fun σ H n R => n + m <= sizeLine /\ tj σ H (n + m) R
def tjI (te : TE) (tj : TJ) : TJ := fun σ H n R => te σ H fun x H1 => ∃ i : Int, x = .int i /\ i.natAbs.log2 < 1920 /\ n + 1921 <= sizeLine /\ tj σ H1 (n + 1921) R
def tjR (te : TE) (tj : TJ) : TJ := fun σ H n R => te σ H fun x H1 => ∃ y : Str, x = .str y /\ y.length <= 1000 /\ (∀ c ∈ y.cps.toList, c < 16 ^ 8) /\ n + 10002 <= sizeLine /\ tj σ H1 (n + 10002) R
section
variable {tj : TJ}
theorem pj_on (hr : PJ X es tj) {pins : List (Addr × Obj)} {s : Shared} {σ : St} {H : Hp} {acc y : Str} {n m : Nat} {R : Hp -> Prop} {tk : Tok} (I : Inv X pins σ H s) (hl : acc.length <= n) (hy : y.length <= m) (hz : n + m <= sizeLine) (q : tj σ H (n + m) R) :
 ∃ y' t, Value.str y tk = .str y' t /\ (acc ++ y').length <= sizeLine /\ Joins (model X.prog X.w) X.A X.xe (evalEach es X.env) (acc ++ y') (fun out s1 => out.length <= sizeLine /\ ∃ H1, Inv X pins σ H1 s1 /\ R H1) s := by
 have el : (acc ++ y).length = acc.length + y.length := strLen_append ..
 exact ⟨y, tk, rfl, by rw [el]; omega, hr pins s σ H (acc ++ y) (n + m) R I (by rw [el]; omega) q⟩
theorem pj_cst {x : Str} {kk} (hr : PJ X es tj) (hx : x.length <= 1000 := by decide +kernel) (hs : evalEach (.Constant (.str x) kk pos :: es) X.env = eval (.Constant (.str x) kk pos) X.env :: evalEach es X.env := by rfl) : PJ X (.Constant (.str x) kk pos :: es) (tjC 1000 tj) := by
 intro pins s σ H acc n R I hl hq
 rw [hs]
 exact Calls.Constant_str (pj_on hr (I.tok _) hl hx hq.1 hq.2)
theorem pj_int (h : PE X e te) (hr : PJ X es tj) (hs : evalEach (.FormattedValue e (-1) none pos :: es) X.env = eval (.FormattedValue e (-1) none pos) X.env :: evalEach es X.env := by rfl) : PJ X (.FormattedValue e (-1) none pos :: es) (tjI te tj) := by
 intro pins s σ H acc n R I hl hq
 rw [hs]
 refine wpAny_FormattedValue_plain (thn (h pins s σ H _ I hq) fun u s1 ⟨x, H1, I1, r, i, ex, hb, hz, k⟩ => ?_)
 subst ex
 obtain ⟨tk, rfl⟩ := r
 exact wpAny_formatField_int hb (pj_on hr (I1.tok _) hl (int_text_len_1921 hb) hz k)
theorem pj_rep (h : PE X e te) (hr : PJ X es tj) (hs : evalEach (.FormattedValue e 114 none pos :: es) X.env = eval (.FormattedValue e 114 none pos) X.env :: evalEach es X.env := by rfl) : PJ X (.FormattedValue e 114 none pos :: es) (tjR te tj) := by
 intro pins s σ H acc n R I hl hq
 rw [hs]
 refine wpAny_FormattedValue_repr (thn (h pins s σ H _ I hq) fun u s1 ⟨x, H1, I1, r, y, ex, hb, hc, hz, k⟩ => ?_)
 subst ex
 obtain ⟨tk, rfl⟩ := r
 have len := StrLaws.reprText_len y hc
 have big : 2000000 <= sizeLine := by decide
 have fit : (reprText y).length <= sizeLine := by omega
 exact pyReprObj_str (formatField_str (fun t' tk => pj_on hr (I1.tok _) hl (by omega) hz k) fit) fit
end
def tJoin (tj : TJ) : TE := fun σ H Q => tj σ H 0 fun H1 => ∀ y, Q (.str y) H1
theorem pe_join {e2 : Expr} {tj : TJ} (h : PJ X (e :: e2 :: es) tj) : PE X (.JoinedStr (e :: e2 :: es) pos) (tJoin tj) := by
 intro pins s σ H Q I hq
 refine wpAny_JoinedStr (joins_mono (h pins s σ H Str.empty 0 _ I (Nat.le_refl _) hq) fun out s1 ⟨hl, H1, I1, q⟩ => ⟨hl, .str out, H1, I1.tok _, ⟨_, rfl⟩, q out⟩)
where
 joins_mono {M : Model} {A : Around} {E : Value -> Shared -> Prop} : ∀ {l : List (Sem Value)} {acc : Str} {Q Q' : Str -> Shared -> Prop} {s : Shared}, Joins M A E l acc Q s -> (∀ o s, Q o s -> Q' o s) -> Joins M A E l acc Q' s
  | [], _, _, _, _, h, f => f _ _ h
  | _ :: _, _, _, _, _, h, f => thn h fun _ _ ⟨y, t, e, z, r⟩ => ⟨y, t, e, z, joins_mono r f⟩
end
end L2
namespace L2
open PySem PySem.Spec PyProof.Rows
structure ExitsS (CX : CXT) (X : Cx) (E : St -> XK) : Prop where
 pass : ∀ (pins : List (Addr × Obj)) (σ : St) (H : Hp) (s : Shared) (e : Value) (s' : Shared), Inv X pins σ H s -> CX X.stack H s (E σ) e s' -> X.xe e s'
theorem Exits.s {CX : CXT} {X : Cx} {E : XK} (h : Exits CX X E) : ExitsS CX X fun _ => E := ⟨h.pass⟩
def tCallX (sp : Sp) (E : St -> XK) (t : TA) : TE := fun σ H Q => t σ H fun vs H1 => sp vs H1 Q (E σ)
def tMethX (C : Addr) (m : Str) (sp : Sp) (E : St -> XK) (ta : TE) (t : TA) : TE := fun σ H Q => ta σ H fun x H1 => ∃ a dx fs, x = .ref a /\ H1 a = some (.ins C dx fs) /\ fs.lookup m = none /\ t σ H1 fun vs H2 => sp (x :: vs) H2 Q (E σ)
section
variable {X : Cx} {CX : CXT} {k j : Nat} {f C : Addr} {fd : FuncData} {ps : List Str} {sp : Sp} {E : St -> XK} {x m : Str} {p pos apos : Pos} {e o : Expr} {es : List Expr} {ta : TE} {t : TA}
theorem run_fnX {pins : List (Addr × Obj)} {σ : St} {H : Hp} {s : Shared} {Q : VK} {us : List Value} {vs : List V} (F : FnOk X.prog X.w X.K X.mg X.base CX k f fd ps sp) (hr : Room k X.A) (hb : Binds X.K fd ps []) (hx : ExitsS CX X E)
 (I : Inv X pins σ H s) (r : Vals vs us) (h : sp vs H Q (E σ)) : wpAny (model X.prog X.w) X.A (call (.ref f) us) (EP X pins σ Q) X.xe s := by
 have hl : (us ++ []).length = ps.length := by rw [List.append_nil, <- r.length]; exact F.len _ _ _ _ h
 have hb' := hb s us I.kIn hl
 rw [List.append_nil] at hb'
 refine wpAny_call (codeAny_mono (F.run X.A X.stack s H ⟨us, []⟩ us vs Q (E σ) hr I.env0 hb' r h) fun res s' hq => ?_)
 cases res with
 | error e => exact hx.pass pins σ H s e s' I hq
 | ok fl =>
   cases fl with
   | ret u => exact I.after hq
   | next => cases hq
   | brk => cases hq
   | cont => cases hq
theorem pe_callX (D : Def X.prog X.w X.K X.mg X.base CX x k ps sp) (hx : ExitsS CX X E) (hr : Room j X.A) (hg : Gl X x) (ha : PA X (e :: es) t) (hj : k <= j := by decide) (hdb : (x == ("__debug__" : Str)) = false := by decide)
 (he : starEach (e :: es) X.env = (false, eval e X.env) :: starEach es X.env := by rfl) (hpl : (backTo pos (starEach es X.env)).any (·.1) = false := by rfl) : PE X (.Call (.Name x p) (e :: es) [] pos) (tCallX sp E t) := by
 obtain ⟨f, fd, hm, hk, hb, F⟩ := D.ex
 intro pins s σ H Q I h
 refine wpAny_Call_Name_kw (ld_glob I hg hm ?_ hdb)
 refine W.callWith_K (h₀ := X.base) I.ok.mod.kin hk (thn (ha pos pins s σ H _ I h) fun us s1 z => ?_) he hpl
 obtain ⟨vs, H1, I1, r, q⟩ := z
 exact ⟨I1.kIn, run_fnX F (hr.mono hj) hb hx I1 r q⟩
theorem pe_methX {pl : Sem Bool} (he : PE X o ta) (c : Cls X.K C) (D : MDef X.prog X.w X.K X.mg X.base CX C m k ps sp) (hx : ExitsS CX X E) (hr : Room j X.A) (ha : PA X (e :: es) t) (hj : k <= j := by decide)
 (hst : starEach (e :: es) X.env = (false, eval e X.env) :: starEach es X.env := by rfl) (hpl : (backTo pos (starEach es X.env)).any (·.1) = false := by rfl)
 (ht : eval (.Call (.Attribute o m apos) (e :: es) [] pos) X.env = (do
  let ov <- eval o X.env
  standAt apos.atName
  let (f, first) <- holding [ov] (getMethod ov m pl)
  callWith pos f first (backTo pos (starEach (e :: es) X.env)) (backToKw pos (keywordEach [] X.env))) := by rfl) :
 PE X (.Call (.Attribute o m apos) (e :: es) [] pos) (tMethX C m sp E ta t) := by
 obtain ⟨f, fd, hm, hb, F⟩ := D.ex
 intro pins s σ H Q I h
 refine W.methodCall_KW (pl := pl) (thn (he pins s σ H _ I h) fun u s1 z => ?_) ht
 obtain ⟨x, H1, I1, rx, a, dx, fs, rfl, ea, l, q⟩ := z
 cases (show u = Value.ref a from rx)
 refine getmeth_ok I1 ea c hm l (W.callWith_K (first := [.ref a]) (h₀ := X.base) I.ok.mod.kin hm.kp (thn (ha pos pins s1 σ H1 _ I1 q) fun us s2 z => ?_) hst hpl)
 obtain ⟨vs, H2, I2, r, q2⟩ := z
 exact ⟨I2.kIn, run_fnX (us := .ref a :: us) (vs := .ref a :: vs) F (hr.mono hj) hb hx I2 (.cons rfl r) q2⟩
theorem pe_methX0 {pl : Sem Bool} (he : PE X o ta) (c : Cls X.K C) (D : MDef X.prog X.w X.K X.mg X.base CX C m k ps sp) (hx : ExitsS CX X E) (hr : Room j X.A) (hj : k <= j := by decide)
 (ht : eval (.Call (.Attribute o m apos) [] [] pos) X.env = (do
  let ov <- eval o X.env
  standAt apos.atName
  let (f, first) <- holding [ov] (getMethod ov m pl)
  callWith pos f first (backTo pos (starEach [] X.env)) (backToKw pos (keywordEach [] X.env))) := by rfl) :
 PE X (.Call (.Attribute o m apos) [] [] pos) (tMethX C m sp E ta tNil) := by
 obtain ⟨f, fd, hm, hb, F⟩ := D.ex
 intro pins s σ H Q I h
 refine W.methodCall_KW (pl := pl) (thn (he pins s σ H _ I h) fun u s1 z => ?_) ht
 obtain ⟨x, H1, I1, rx, a, dx, fs, rfl, ea, l, q⟩ := z
 cases (show u = Value.ref a from rx)
 exact getmeth_ok I1 ea c hm l (W.callWith_K0 (first := [.ref a]) I1.kIn hm.kp (run_fnX (us := [.ref a]) (vs := [.ref a]) F (hr.mono hj) hb hx I1 (.cons rfl .nil) q))
end
section
variable {X : Cx} {pins pins' : List (Addr × Obj)} {σ : St} {H H' : Hp} {s : Shared} {E : St -> XK} {a : Addr}
end
end L2
namespace L2
open PySem PySem.Spec PyProof.Rows
section
variable {X : Cx} {x n : Str} {i : Nat} {KE : Addr} {np hpos pos : Pos} {b0 : Stmt} {body suite : List Stmt} {tb : List (Addr × Obj) -> (St -> XK) -> TS} {ts : Addr -> TS}
end
section
open Builtin Builtin.ObjectAttr Builtin.Getset_descriptor PySem.Calls
variable {K : W.Frag}
structure ExcCls (K : W.Frag) (D : Addr) : Prop where
 cls : W.isClsIn K D = true
 ga : W.findIn K (.ref D) "__getattribute__" = some (some (.builtin "BaseException.__getattribute__"))
 gt : W.findIn K (.ref D) "__getattr__" = some none
 ca : W.findIn K (.ref D) "__class__" = some (some (.builtin "object.__class__"))
 gs : W.specialIn K (.builtin "object.__class__") "__get__" = some (some (.builtin "getset_descriptor.__get__"))
 tk : W.takesIn K (.builtin "object.__class__") = some true
 ob : W.mroIn K D (.type "object") = some true
 bx : W.mroIn K D (.type "BaseException") = some true
variable {D a : Addr} {prog : Program} {w : World} {A : Around} {E : Value -> Shared -> Prop} {s : Shared}
end
section
variable {X : Cx}
end
end L2
namespace L2
open PySem PySem.Spec PyProof.Rows
def Air (base : Heap) (l : List Env) (e : Addr) (cls a0 fl : Value) (h : Heap) : Prop := base.StaysIn h /\ base.get? e = none /\ h.FunFrames base l /\ h.TracedAtW base e cls a0 fl
section
variable {M : Model} {A : Around} {E : Value -> Shared -> Prop} {s : Shared} {base : Heap} {l : List Env} {e : Addr} {cls a0 fl : Value}
theorem note_same {env env' : Env} (h : env.frame = env'.frame) (v : Value) : noteFrame v env = noteFrame v env' := by
 unfold noteFrame PySem.frameOf
 rw [h]
theorem mark_air {Q : Unit -> Shared -> Prop} (f : Option Addr) (x : Air base l e cls a0 fl s.heap)
 (h : ∀ h', Air base l e cls a0 (f.elim Value.none fun q => rawInt q) h' -> s.heap.UpToSlots h' -> Q () { s with heap := h' }) : wpAny M A (setFlight (.ref e) f) Q E s := by
 obtain ⟨x1, x2, x3, oe, vs, T, oT, ts, he, hc, hd, h1, hn, hTe, hT, hdT, h3⟩ := x
 have sz : 3 < ts.size := (Array.getElem?_eq_some_iff.mp h3).1
 have oth : ∀ b, b ≠ T -> (s.heap.update T (Obj.mapFields (·.setIfInBounds 3 (f.elim Value.none fun q => rawInt q)))).get? b = s.heap.get? b := fun b hb => Heap.get?_update_other _ _ (Ne.symm hb)
 have rec' : ∀ b o, s.heap.get? b = some o -> (∀ vs, o.data ≠ .fields vs) -> b ≠ T := fun b o hb hnf q => by
  rw [q, hT] at hb
  cases hb
  exact hnf ts hdT
 unfold setFlight
 refine wpAny_bind (wpAny_field he hd h1 ?_)
 rw [if_pos (by simp)]
 refine wpAny_setField hT hdT sz (h _ ⟨fun b o hb => (oth b fun q => by rw [q, hn] at hb; cases hb).trans (x1 b o hb), x2, x3.of_keeps fun b o hb hnf => ⟨o, (oth b (rec' b o hb hnf)).trans hb, rfl⟩, ?_⟩ fun b o hb hnf => ⟨o.slots, (oth b (rec' b o hb hnf)).trans hb⟩)
 exact ⟨oe, vs, T, _, _, (oth e (Ne.symm hTe)).trans he, hc, hd, h1, hn, hTe, Heap.get?_update_self _ hT (Obj.isFreed_of_fields (Obj.data_mapFields hdT _)), Obj.data_mapFields hdT _, by simp [sz]⟩
theorem leave_air {env : Env} {outer : List Env} {L : Addr} {Q : Unit -> Shared -> Prop} (hfr : A.frames = some (env :: outer)) (hf : env.frame = some L) (x : Air base (env :: outer) e cls a0 fl s.heap)
 (h : ∀ h', Heap.FlyingW base outer e cls a0 h' -> s.heap.UpToSlots h' -> Q () { s with heap := h' }) : wpAny M A (leaving env (.ref e)) Q E s := by
 by_cases hl : fl = rawInt L
 . subst hl
   unfold leaving
   refine wpAny_bind (wpAny_noteFrame_againW hf x.2.2.2 (wpAny_landsW (L := L) x fun h' ⟨y1, y2, y3, y4⟩ up => h h' ⟨y1, y2, y3.2.2, y4⟩ up))
 . obtain ⟨x1, x2, x3, oe, vs, T, oT, ts, he, ⟨hc, h0⟩, hd, h1, hn, hTe, hT, hdT, h3⟩ := x
   subst hc
   have oth : ∀ b, b ≠ T -> (s.heap.update T (Obj.mapFields (·.setIfInBounds 3 Value.none))).get? b = s.heap.get? b := fun b hb => Heap.get?_update_other _ _ (Ne.symm hb)
   have rec' : ∀ b o, s.heap.get? b = some o -> (∀ vs, o.data ≠ .fields vs) -> b ≠ T := fun b o hb hnf q => by
    rw [q, hT] at hb
    cases hb
    exact hnf ts hdT
   unfold leaving noteFrame
   simp only [hf]
   refine wpAny_bind (wpAny_bind (wpAny_field he hd h1 ?_))
   rw [if_pos (by simp)]
   refine wpAny_bind (wpAny_field hT hdT h3 ?_)
   rw [if_neg (by simpa using hl)]
   refine wpAny_bind (wpAny_setField hT hdT (Array.getElem?_eq_some_iff.mp h3).1 ?_)
   refine wpAny_newEntryW hfr (x3.of_keeps fun b o hb hnf => ⟨o, (oth b (rec' b o hb hnf)).trans hb, rfl⟩) hf ((oth e (Ne.symm hTe)).trans he)
    (fun b o hb => (oth b fun q => by rw [q, hn] at hb; cases hb).trans (x1 b o hb)) x2 hd (Array.getElem?_eq_some_iff.mp h1).1 h0 fun h' z => ?_
   obtain ⟨z1, z2, z3, z4⟩ := z
   exact h h' ⟨z1, x2, z2.2.2, z3⟩ fun b o hb hnf => z4 b o ((oth b (rec' b o hb hnf)).trans hb) hnf
theorem pass_air {α : Type} {what : String} {env : Env} {Q : α -> Shared -> Prop} (x : Air base l e cls a0 fl s.heap) (h : ∀ h' fl', Air base l e cls a0 fl' h' -> s.heap.UpToSlots h' -> E (.ref e) { s with heap := h' }) : wpAny M A (PySem.passOn what (.ref e) env) Q E s := by
 have x' := x
 obtain ⟨_, _, _, oe, vs, T, oT, ts, he, hc, hd, h1, _⟩ := x'
 unfold PySem.passOn
 refine wpAny_bind (wpAny_field he hd h1 ?_)
 rw [if_neg (by simp)]
 first
  | exact wpAny_bind (wpAny_pure (wpAny_bind (mark_air env.frame x fun h' y up => wpAny_throw (h h' _ y up))))
  | exact wpAny_bind (mark_air env.frame x fun h' y up => wpAny_throw (h h' _ y up))
theorem Air.but {h h' : Heap} {C : Addr} {o : Obj} (x : Air base l e cls a0 fl h) (hC : base.get? C = some o) (hs : Heap.SameBut C h h') : Air (PySem.W.hideAll base [C]) l e cls a0 fl h' := by
 obtain ⟨x1, x2, x3, oe, vs, T, oT, ts, he, hc, hd, h1, hn, hTe, hT, hdT, h3⟩ := x
 have ne : ∀ {b : Addr}, base.get? b = none -> b ≠ C := fun hb z => by rw [z, hC] at hb; cases hb
 have hid : ∀ {b : Addr}, base.get? b = none -> (PySem.W.hideAll base [C]).get? b = none := fun {b} hb => by
  cases q : (PySem.W.hideAll base [C]).get? b with
  | none => rfl
  | some o => rw [W.of_hideAll _ q] at hb; cases hb
 refine ⟨fun b o hb => ?_, hid x2, ?_, oe, vs, T, oT, ts, (hs.2 e (ne x2)).trans he, hc, hd, h1, hid hn, hTe, (hs.2 T (ne hn)).trans hT, hdT, h3⟩
 . have nb : b ≠ C := fun z => by rw [z, PySem.W.hideAll_none [C] (List.mem_singleton.mpr rfl)] at hb; cases hb
   exact (hs.2 b nb).trans (x1 b o (W.of_hideAll _ hb))
 . clear he hT hn x2
   induction l with
   | nil => trivial
   | cons env r ih =>
     obtain ⟨k1, ⟨L, oL, q1, q2, q3, q4⟩, k2⟩ := x3
     exact ⟨k1, ⟨L, oL, q1, hid q2, (hs.2 L (ne q2)).trans q3, q4⟩, ih k2⟩
end
end L2
namespace L2
open PySem PySem.Spec PyProof.Rows
structure ExitsA (X : Cx) (E : XK) : Prop where
 air : ∀ (pins : List (Addr × Obj)) (σ : St) (H : Hp) (s : Shared) (H' : Hp) (B : Heap) (C a : Addr) (cls a0 fl : Value) (s' : Shared), Inv X pins σ H s -> UnB (frs X.stack) H H' s.heap B -> HOk X.prog X.w H' B -> X.s₀.heap.objs.size <= C -> H' C = none ->
  Air (PySem.W.hideAll B [C]) X.stack a cls a0 fl s'.heap -> s'.os = s.os -> AllBare s'.gens -> Slots (frs X.stack) s.heap s'.heap -> E cls none H' -> X.xe (.ref a) s'
theorem exitsA {P : Program} {w : World} {K : W.Frag} {mg : Str -> Option Value} {base : Heap} {N : List Str} {qual : Str} {scope : Scope} {f : Addr} {cd : Value} {A : Around} {outer : List Env} {s0 : Shared} {H0 : Hp} {E : XK} :
 ExitsA (cxOf (CXR P w) P w K mg base N qual scope f cd A outer s0 H0 E) E where
 air := by
  intro pins σ H s H' B C a cls a0 fl s' I U ok hC nC air os bare sl hE
  have U0 := unb_out I U
  have lt : ∀ b o, s0.heap.get? b = some o -> b ∉ [C] := fun b o e z => by
   rw [List.mem_singleton.mp z] at e
   exact absurd (Nat.lt_of_lt_of_le (Heap.lt_size e) hC) (Nat.lt_irrefl _)
  have U1 : UnB (frs outer) H0 H' s0.heap (PySem.W.hideAll B [C]) := ⟨fun b o e n hb => PySem.W.hideAll_get _ (U0.keep b o e n hb) (lt b o e), U0.free, fun b o e hb => by
   obtain ⟨o2, e2⟩ := U0.there b o e hb
   exact ⟨o2, PySem.W.hideAll_get _ e2 (lt b o e)⟩, U0.tups, U0.frzs, U0.tbls⟩
  have ok1 : HOk P w H' (PySem.W.hideAll B [C]) := fun b u e => (ok b u e).stay (fun c v hc q => PySem.W.hideAll_get _ q fun z => by
   have hz : H' c = none := by rw [List.mem_singleton.mp z]; exact nC
   rcases hc with rfl | hc
   . rw [hz] at e; cases e
   . rw [hz] at hc; cases hc) (fun _ q => q) fun _ _ q => q
  exact leave_air I.ok.frames rfl air fun h2 fl2 up => ⟨a, cls, H', rfl, ⟨⟨_, _, U1, ok1, fl2⟩, os.trans I.os, bare, slots_out I (sl.up up)⟩, hE⟩
def blkE (X : Cx) (N : List Str) (scope : Scope) (cl : List (Str × Addr)) (E : XK) (s₀ : Shared) (H₀ : Hp) (ex : List Addr) : Value -> Shared -> Prop := fun e s' => ∃ pins σ H s, Inv (blk X N scope cl s₀ H₀ ex NoX) pins σ H s /\ CXR X.prog X.w X.stack H s E e s'
theorem exitsB {P : Program} {w : World} {X : Cx} {N : List Str} {scope : Scope} {cl : List (Str × Addr)} {E : XK} {s₀ : Shared} {H₀ : Hp} {ex : List Addr} (hP : X.prog = P := by rfl) (hw : X.w = w := by rfl) :
 ExitsS (CXR P w) (blk X N scope cl s₀ H₀ ex (blkE X N scope cl E s₀ H₀ ex)) fun _ => E := by
 subst hP hw
 exact ⟨fun pins σ H s _ _ I z => ⟨pins, σ, H, s, Inv.unwish (X := blk X N scope cl s₀ H₀ ex NoX) I, z⟩⟩
section
variable {X : Cx} {x : Str} {fv : List (Str × Nat)} {scope : Scope} {cl : List (Str × Addr)} {pins : List (Addr × Obj)} {σ : St} {px pos : Pos} {iter elt : Expr} {te : TEB}
theorem comp_blockX {E : XK} {s2 : Shared} {H2 : Hp} {it : Addr} {fp : List Addr} {tn : Nat -> Heap -> Prop} {J : It} (ok : CompOk X x fv scope cl) (hc : X.calm = true)
 (hA : ExitsA X E) (hst : X.stack = X.env :: X.outer) (hfr : X.env.frame = some X.env.locals) (he : ∀ s₀ H₀ ex, PE (blk X (x :: fv.map (·.1)) scope cl s₀ H₀ ex (blkE X (x :: fv.map (·.1)) scope cl E s₀ H₀ ex)) elt (te s₀ H₀ ex)) (I2 : Inv X pins σ H2 s2) (T : Turn X.prog X.w X.K (.Name x px) J fp it tn) (st2 : tn 0 s2.heap) (f2 : ∀ b ∈ fp, FpOk X pins H2 b)
 {Qv : VK} (hQ : tCompJ fv te σ J H2 Qv) {RR : Value -> Addr -> Result -> Shared -> Prop}
 (hRE : ∀ acc C m e s', s'.heap.Ns C m -> (∀ h', Heap.SameBut C s'.heap h' -> ∀ cenv : Env, cenv.locals = C -> wpAny (model X.prog X.w) X.A (PySem.passOn "comprehension.variables-let-go" e cenv : Sem Value) (fun _ _ => False) X.xe { s' with heap := h' }) -> RR acc C (.error e) s')
 (hRR : ∀ D C m' H' s', Inv X pins σ H' s' -> s'.heap.Ns C m' -> FpOk X pins H' C -> Qv (.ref D) H' -> RR (.ref D) C (.ok .next) s') :
 wpAny (model X.prog X.w) X.A (newList []) (fun acc s₃ => wpAny (model X.prog X.w) X.A (newFunctionEnv scope X.env.globals cl [] X.env.qual none .none (some X.env)) (fun cenv s₄ =>
  codeAny (model X.prog X.w) X.A (.compStart (.ListComp elt [⟨.Name x px, iter, [], 0⟩] scope pos) 0 (.ref it) acc { cenv with scope := relabel scope X.env }) (RR acc cenv.locals) s₄) X.xe s₃) X.xe s2 := by
 refine wpAny_newObj_type (wpAny_newFunctionEnv ok.nocell (by intro y hy; simp at hy) (fun h₁ hns₁ hsb₁ => ?_) ok.kind)
 dsimp only at hns₁ hsb₁ ⊢
 have I3 : Inv X pins σ (upd H2 s2.heap.objs.size (.lst [])) { s2 with heap := s2.heap.push { cls := .type "list", dict := none, data := .seq ([] : List Value).toArray } } :=
  I2.laid (t' := s2.toks) (fun b o e => Heap.get?_push_of_some _ e) (Nat.le_refl _) ⟨Nat.zero_le _, [], 0, .nil, Heap.get?_push_size _ rfl⟩
 have hD : H2 s2.heap.objs.size = none := I2.hok.fresh (Nat.le_refl _)
 generalize hs3 : ({ s2 with heap := s2.heap.push { cls := .type "list", dict := none, data := .seq ([] : List Value).toArray } } : Shared) = s3 at I3
 have eh : s2.heap.push { cls := .type "list", dict := none, data := .seq ([] : List Value).toArray } = s3.heap := by rw [<- hs3]
 rw [eh] at hns₁ hsb₁ ⊢
 have fl : ∀ b ∈ fp, b < s2.heap.objs.size := fun b hb => by
  obtain ⟨o, e, _⟩ := T.obj _ _ st2 b hb
  exact Heap.lt_size e
 have sz3 : s3.heap.objs.size = s2.heap.objs.size + 1 := by rw [<- eh, Heap.size_push]
 have f3 : ∀ b ∈ fp, FpOk X pins (upd H2 s2.heap.objs.size (.lst [])) b := fun b hb => ⟨by rw [upd_ne (Nat.ne_of_lt (fl b hb))]; exact (f2 b hb).1, (f2 b hb).2⟩
 have fl3 : ∀ b ∈ fp, b < s3.heap.objs.size := fun b hb => by rw [sz3]; exact Nat.lt_succ_of_lt (fl b hb)
 have old3 : ∀ b o, s3.heap.get? b = some o -> h₁.get? b = some o := fun b o e => hsb₁.extBut b o (Nat.ne_of_lt (Heap.lt_size e)) (Heap.get?_push_of_some _ e)
 have old2 : ∀ b o, s2.heap.get? b = some o -> h₁.get? b = some o := fun b o e => old3 b o (by rw [<- eh]; exact Heap.get?_push_of_some _ e)
 have st1 : tn 0 h₁ := T.keep _ _ _ st2 fun b _ o e => old2 b o e
 have IY := blk_start (E := NoX) I3 ok f3 fl3 hns₁ old3 (s3.toks + ([] : List (Str × Value)).length)
 obtain ⟨W, ⟨m0, w0⟩, turn⟩ := hQ s2.heap.objs.size hD
 have loop : ∀ s4 : Shared, s4 = { s3 with heap := h₁, toks := s3.toks + ([] : List (Str × Value)).length } ->
  codeAny (model X.prog X.w) X.A (.compLoop (.ListComp elt [⟨.Name x px, iter, [], 0⟩] scope pos) 0 (.ref it) (.ref s2.heap.objs.size) (compEnvC scope cl s3.heap.objs.size X.env)) (RR (.ref s2.heap.objs.size) s3.heap.objs.size) s4 := by
  rintro s4 rfl
  have stat : ∀ {H' : Hp}, (∀ b ∈ fp, H' b = none) -> ∀ b ∈ fp, FpOk (blk X (x :: fv.map (·.1)) scope cl s3 (upd H2 s2.heap.objs.size (.lst [])) fp NoX) [] H' b := fun hn b hb =>
   ⟨hn b hb, Nat.ne_of_lt (fl3 b hb), fun z => by
    rcases List.mem_cons.mp (I3.stkSub b z) with e | e
    . exact (f2 b hb).2.1 e
    . exact (f2 b hb).2.2.1 e, .inl hb, fun y c h => (f2 b hb).2.2.2.2.1 y c (ok.sub h), fun p hp => absurd (show p ∈ ([] : List (Addr × Obj)) from hp) (by simp)⟩
  refine codeAny_compLoop_L (fun n s' => ∃ i o H' ys, Inv (blk X (x :: fv.map (·.1)) scope cl s3 (upd H2 s2.heap.objs.size (.lst [])) fp NoX) [] (blkS fv σ o) H' s' /\ tn i s'.heap /\ (∀ b ∈ fp, H' b = none) /\ W i n ys H') ?_ m0
   ⟨0, none, _, [], IY, st1, fun b hb => (f3 b hb).1, w0⟩
  rintro n s5 ⟨i, o, H5, ys, I5, st5, fr5, w5⟩
  obtain ⟨hD5, w5⟩ := turn i n ys H5 w5
  rcases w5 with ⟨stop, qn⟩ | ⟨go, hsz, step⟩
  . refine wpAny_mono (T.done (blk X (x :: fv.map (·.1)) scope cl s3 (upd H2 s2.heap.objs.size (.lst [])) fp NoX) rfl rfl rfl hc i [] s5 _ H5 NoX I5 (stat fr5) st5 stop) (fun r s6 ⟨hr, I6⟩ => ?_) fun _ _ z => z.elim
    subst hr
    obtain ⟨m', hm', _⟩ := I6.loc
    have I7 : Inv X pins σ H5 s6 := I3.call' (ch := fp) (by rw [I6.os]) I6.base I6.hok I6.bare fun b hb => ⟨(f2 b hb).2.2.2.1, (f2 b hb).2.1, (f2 b hb).2.2.2.2.1, (f2 b hb).2.2.2.2.2⟩
    exact hRR _ _ m' H5 s6 I7 hm' (I3.fpOk (Nat.le_refl _) I6.free) qn
  . refine wpAny_mono (T.item (blk X (x :: fv.map (·.1)) scope cl s3 (upd H2 s2.heap.objs.size (.lst [])) fp NoX) rfl rfl rfl hc i [] s5 _ H5 NoX I5 (stat fr5) st5 go) (fun r s6 ⟨u, hr, h6⟩ => ?_) fun _ _ z => z.elim
    subst hr
    refine wpAny_mono h6 (fun _ s7 ⟨v, H7, I7, r7, y7, st7, fr7⟩ => ?_) fun _ _ z => z.elim
    have I7' := I7.pinned (stat fr7) (T.obj _ _ st7)
    have hx : Loc (blk X (x :: fv.map (·.1)) scope cl s3 (upd H2 s2.heap.objs.size (.lst [])) fp NoX).env.scope x := .inl (lookup_relabel_local ok.here)
    refine wpAny_assign_Name (store_ok (X := blk X (x :: fv.map (·.1)) scope cl s3 (upd H2 s2.heap.objs.size (.lst [])) fp NoX) (i := 0) I7' ok.nd rfl hx r7 (fun s8 I8 => ?_) (.inr (lookup_relabel_local ok.here)))
    refine wpAny_mono (he s3 _ fp _ s8 (blkS fv σ (some v)) H7 _ (I8.wish (blkE X (x :: fv.map (·.1)) scope cl E s3 (upd H2 s2.heap.objs.size (.lst [])) fp)) (step v H7 y7 _ _ _)) (fun u9 s9 q9 => ?_) fun e9 s9 z9 => ?err
    case err =>
     obtain ⟨pb, σb, Hb, sb, Ib, a, cls, H', rfl, F, hE⟩ := z9
     have IX : Inv X pins σ Hb sb := I3.call' (ch := fp) (by rw [Ib.os]) Ib.base Ib.hok Ib.bare fun b hb => ⟨(f2 b hb).2.2.2.1, (f2 b hb).2.1, (f2 b hb).2.2.2.2.1, (f2 b hb).2.2.2.2.2⟩
     obtain ⟨B, a0, U, ok', fl⟩ := F.ex
     obtain ⟨mC, hnC, _⟩ := Ib.loc
     obtain ⟨oC, esC, epC, hoC, restC⟩ := id hnC
     have fC : Hb s3.heap.objs.size = none := Ib.free
     have nfC : s3.heap.objs.size ∉ frs X.stack := fun z => by
      obtain ⟨_, o, ho, _⟩ := I3.stack.mem z
      exact Nat.lt_irrefl _ (Heap.lt_size ho)
     have hBC := U.keep _ _ hoC fC nfC
     have fC' := U.free _ _ hoC fC
     rw [show notedBy (model X.prog X.w) X.A (compEnvC scope cl s3.heap.objs.size X.env) = notedBy (model X.prog X.w) X.A X.env by unfold notedBy; funext E' v s'; rw [note_same (show (compEnvC scope cl s3.heap.objs.size X.env).frame = X.env.frame from rfl)]]
     have fl' : Heap.FlyingW B (X.env :: X.outer) a cls a0 s9.heap := by rw [<- hst]; exact fl
     have frames : X.A.frames = some (X.env :: X.outer) := by rw [<- hst]; exact I2.ok.frames
     refine wpAny_looks_onW frames hfr fl' fun h4 held4 up4 => ?_
     have hC4 : h4.Ns s3.heap.objs.size mC := ⟨oC, esC, epC, held4.1 _ _ hBC, restC⟩
     refine hRE _ _ mC _ _ hC4 fun h5 same cenv _ => ?_
     have air5 : Air (PySem.W.hideAll B [s3.heap.objs.size]) X.stack a cls a0 (rawInt X.env.locals) h5 := Air.but (by rw [hst]; exact held4) hBC same
     have sl5 : Slots (frs X.stack) sb.heap h5 := fun b hb o q d => by
      obtain ⟨sl, e1⟩ := (F.slot.up up4) b hb o q d
      exact ⟨sl, (same.2 b fun z => nfC (z ▸ hb)).trans e1⟩
     refine pass_air (s := { s9 with heap := h5 }) air5 fun h6 fl6 air6 up6 => ?_
     exact hA.air pins σ Hb sb H' B s3.heap.objs.size a cls a0 fl6 { s9 with heap := h6 } IX U ok' (Nat.le_trans I3.sz (Nat.le_refl _)) fC' air6 F.os F.bare (sl5.up up6) hE
    obtain ⟨v9, H9, I9', r9, hD9, m', hm', w9⟩ := q9
    have I9 := Inv.unwish (X := blk X (x :: fv.map (·.1)) scope cl s3 (upd H2 s2.heap.objs.size (.lst [])) fp NoX) I9'
    refine wpAny_mono (mt_append (X := blk X (x :: fv.map (·.1)) scope cl s3 (upd H2 s2.heap.objs.size (.lst [])) fp NoX) _ s9 _ H9 (.ref s2.heap.objs.size) [v9] (.ref s2.heap.objs.size) [u9]
     (fun _ H10 => H10 = upd H9 s2.heap.objs.size (.lst (ys ++ [v9]))) I9 rfl (.cons r9 .nil) ⟨_, ys, v9, rfl, rfl, hD9, hsz, rfl⟩) (fun _ s10 ⟨_, H10, I10, _, e10⟩ => ?_) fun _ _ z => z.elim
    subst e10
    refine ⟨m', hm', i + 1, some v, _, ys ++ [v9], I10.unpinned, T.keep _ _ _ st7 fun b hb o e => (I10.pin (b, o) (List.mem_append_right _ (List.mem_append_right _ (mem_pinsAt hb e)))).1, fun b hb => ?_, w9⟩
    obtain ⟨o, e, d⟩ := T.obj _ _ st7 b hb
    exact (I10.pin (b, o) (List.mem_append_right _ (List.mem_append_right _ (mem_pinsAt hb e)))).2.1
 exact codeAny_compStart_list (loop _ (by rw [<- hs3])) (T.self _ 0 _ _ _ st1 (loop _ (by rw [<- hs3])))
theorem ps_setCompX {E : XK} {wi : TI} {i : Nat} {y : Str} {py spos : Pos} (hN : X.N.Nodup) (hiy : X.N[i]? = some y) (hy : Loc X.env.scope y) (ok : CompOk X x fv scope cl) (hc : X.calm = true) (hi : PI X (.Name x px) iter wi) (hA : ExitsA X E) (he : ∀ s₀ H₀ ex, PE (blk X (x :: fv.map (·.1)) scope cl s₀ H₀ ex (blkE X (x :: fv.map (·.1)) scope cl E s₀ H₀ ex)) elt (te s₀ H₀ ex))
 (hsw : swapsWith (.ListComp elt [⟨.Name x px, iter, [], 0⟩] scope pos) (some (.Name y py)) spos.line X.env = pure true := by rfl)
 (hs : ∀ v, foldedSetIterable iter X.env v = pure v := by intro _; rfl) (hst : X.stack = X.env :: X.outer := by rfl) (hfr : X.env.frame = some X.env.locals := by rfl) (hf : X.fn y = true \/ X.env.scope.names.lookup y = some .local := by first | exact .inl rfl | exact .inr rfl | assumption) :
 PS X (.Assign [.Name y py] (.ListComp elt [⟨.Name x px, iter, [], 0⟩] scope pos) spos) (tAsg (tComp wi fv te) (gName i)) := by
 intro pins s σ H D I h
 rw [exec_Assign_Name_used _ _ _ _ hsw]
 refine wpAny_bind (wpAny_standAt (wpAny_bind ?_))
 show wpAny _ _ (do let _ <- comprehension (.ListComp elt [⟨.Name x px, iter, [], 0⟩] scope pos) scope X.env _ (newList []) false (eval iter X.env) (some (assign (.Name y py) X.env))) _ _ s
 refine wpAny_bind (wpAny_mono (wpAny_comprehension_free (use := some (assign (.Name y py) X.env)) (Q := fun _ s' => SP X pins D .next s') rfl hs ok.clos ok.kind ok.names
  (thn (hi pins s σ H _ I h) fun v s1 h1 => thn h1 fun itv s2 h2 => ?_)) (fun _ s' hq => wpAny_pure (wpAny_pure hq)) fun _ _ e => e)
 obtain ⟨it, fp, tn, J, H2, rfl, I2, T, st2, f2, hQ⟩ := h2
 refine comp_blockX (RR := fun acc C => compPost (model X.prog X.w) X.A X.xe (some (assign (.Name y py) X.env)) (fun _ s' => SP X pins D .next s') acc C) ok hc hA hst hfr he I2 T st2 f2 hQ (fun _ _ m _ _ hn k => ⟨m, hn, k⟩) ?_
 intro D' C m' H' s' I' hn fC q
 show wpAny _ _ (assign (.Name y py) X.env (.ref D')) _ _ _
 refine wpAny_assign_Name (store_ok2 (v := .ref D') I' hN hiy hy rfl (fun s'' I'' hab => ?_) hf)
 obtain ⟨a, hsb, ha⟩ := hab
 have haC : C ≠ a := by
  rcases ha with e | e
  . rw [e]; exact fC.2.1
  . exact (fC.2.2.2.2.1 y a e).symm
 exact ⟨m', hn.sameBut hsb haC, fun h' hs' => ⟨_, H', I''.turned (t' := s''.toks) (fun b o hb e => hs'.extBut b o hb e) fC.1 fC.2.1 fC.2.2.2.1 fC.2.2.2.2.1 fC.2.2.2.2.2, q⟩⟩
end
end L2
namespace L2
open PySem PySem.Spec PyProof.Rows
abbrev bmVE : List Value := [.type "ValueError", .type "Exception", .type "BaseException", .type "object"]
theorem own_mk {K : W.Frag} {h : Heap} {mg : Str -> Option Value} {x : Str} {C : Addr} {bm : List Value} {nid : String} (X : K.In h) (hm : mg x = some (.ref C)) (q : W.excIn K C bm nid = true) : OwnCls x C bm nid mg h := by
 refine ⟨hm, ?_⟩
 unfold W.excIn at q
 split at q
 . rename_i d1 c1 s1 look
   split at q
   . rename_i C1 tl j0 j1 j2 j3 nn j5 em es
     simp only [Bool.and_eq_true, beq_iff_eq, Bool.not_eq_true'] at q
     obtain ⟨⟨⟨⟨⟨rfl, rfl⟩, del⟩, tail⟩, isn⟩, noi⟩ := q
     obtain ⟨f1, f2, f3, f4, f5, f6, f7, f8, f9, f10, f11⟩ := c1
     dsimp only at em del isn noi
     subst em del
     have es' : s1 = #[j0, j1, j2, j3, some (.builtin nn), j5] := by
      obtain ⟨l⟩ := s1
      simp only at es
      rw [es]
     subst es'
     exact ⟨tl, f4, f1, f5, f2, f6, f7, f8, f9, f10, d1, j0, j1, j2, j3, j5, _, X _ _ look, .of_isNs (W.isNs_of_in X isn), W.nsMap_none_of_in X isn noi, W.tail_of_in X tail⟩
   . cases q
 . cases q
section
variable {X : Cx} {CX : CXT} {E : XK} {x : Str} {C : Addr} {j : Nat} {pos cpos np : Pos} {e : Expr} {es : List Expr} {t : TA}
theorem ps_rais (hx : Exits CX X E) (hm : X.mg x = some (.ref C)) (hq : W.excIn X.K C bmVE "ValueError.__new__" = true) (hr : Room j X.A) (hg : Gl X x) (ha : PA X (e :: es) t)
 (hdb : (x == ("__debug__" : Str)) = false := by decide) (he : starEach (e :: es) X.env = (false, eval e X.env) :: starEach es X.env := by rfl) (hpl : (backTo cpos (starEach es X.env)).any (·.1) = false := by rfl) :
 PS X (.Raise (some (.Call (.Name x np) (e :: es) [] cpos)) none pos) (tRaise C E t) :=
 fun pins s σ H D I h => ps_raise hx (own_mk I.ok.mod.kin hm hq) PySem.F.excBase_ValueError hr hg ha hdb he hpl pins s σ H D I h
end
section
variable {P : Program} {w : World} {K : W.Frag} {mg : Str -> Option Value} {base : Heap}
theorem Fun.okX {x qual : Str} {st : Stmt} {f : Addr} {fd : FuncData} {N ps : List Str} {k : Nat} {sp : Sp} (F : Fun K x qual st f fd) (S : FnScope N ps (defScope st)) (len : ∀ vs H Q E, sp vs H Q E -> vs.length = ps.length)
 (hbody : ∀ (cdv : Value) (A : Around) (outer : List Env) (s : Shared) (H : Hp) (vs : List V) (Q : VK) (E : XK), Room k (A.deeper (envOfC qual (defScope st) s.heap.objs.size f cdv)) ->
  Exits (CXR P w) (cxOf (CXR P w) P w K mg base N qual (defScope st) f cdv A outer s H E) E -> sp vs H Q E ->
  ∃ t, PSs (cxOf (CXR P w) P w K mg base N qual (defScope st) f cdv A outer s H E) (defBody st) t /\ t { nx := fun _ H' => Q .non H', rt := Q } (start N vs) H) : FnOk P w K mg base (CXR P w) (k + 1) f fd ps sp := by
 obtain ⟨oc, od, kV, doc, pm, an, cdv, ct, osl, rfl, lk, hcd⟩ := F.ex
 exact fn_of lk hcd S len fun A outer s H vs Q E hr hsp => hbody cdv A outer s H vs Q E hr exitsR hsp
end
end L2
namespace L2
open PySem
section
variable {P : Program} {w : World} {K : W.Frag} {mg : Str -> Option Value} {base : Heap} {CX : CXT} {x m : Str} {C : Addr} {k : Nat} {ps : List Str} {sp sp' : Sp}
theorem Def.imp (D : Def P w K mg base CX x k ps sp) (h : ∀ vs H Q E, sp' vs H Q E -> sp vs H Q E) : Def P w K mg base CX x k ps sp' :=
 let ⟨f, fd, a, b, c, F⟩ := D.ex; ⟨f, fd, a, b, c, F.imp h⟩
theorem MDef.imp (D : MDef P w K mg base CX C m k ps sp) (h : ∀ vs H Q E, sp' vs H Q E -> sp vs H Q E) : MDef P w K mg base CX C m k ps sp' :=
 let ⟨f, fd, a, c, F⟩ := D.ex; ⟨f, fd, a, c, F.imp h⟩
theorem CDef.imp (D : CDef P w K mg base CX x C k ps sp) (h : ∀ vs H Q E, sp' vs H Q E -> sp vs H Q E) : CDef P w K mg base CX x C k ps sp' :=
 let ⟨f, fd, a, b, c, F⟩ := D.ex; ⟨f, fd, a, b, c, F.imp h⟩
end
def tJ (t : TS) : TS := fun D σ H => ∃ J : St -> Hp -> Prop, t { D with nx := J } σ H /\ ∀ σ' H', J σ' H' -> D.nx σ' H'
theorem ps_join {X : Cx} {st : Stmt} {t : TS} (h : PS X st t) : PS X st (tJ t) := by
 rintro pins s σ H D I ⟨J, q, k⟩
 refine thn (h pins s σ H _ I q) fun f s' z => ?_
 cases f with
 | next => obtain ⟨σ', H', I', z⟩ := z; exact ⟨σ', H', I', k _ _ z⟩
 | brk => exact z
 | cont => exact z
 | ret u => exact z
theorem one_fits {v : V} : [v].length <= sizeLine := by show 1 <= sizeLine; decide
theorem two_fits {u v : V} : [u, v].length <= sizeLine := by show 2 <= sizeLine; decide
end L2
namespace L2
open PySem PySem.Spec PyProof.Rows
end L2
namespace L2
open PySem PySem.Spec PyProof.Rows
theorem textFrom_le {B : Nat} : ∀ (ts : List Str) (k : Nat) (acc : Str), (∀ t ∈ ts, t.length <= B) -> (textFrom k acc ts).length <= acc.length + ts.length * (B + 2)
 | [], _, acc, _ => by show acc.length <= acc.length + 0 * (B + 2); omega
 | t :: r, k, acc, h => by
   have ih := textFrom_le r (k + 1) (acc ++ (if k > 0 then ", " else "" : String) ++ t) fun x hx => h x (List.mem_cons_of_mem _ hx)
   have ht := h t List.mem_cons_self
   have e : (acc ++ (if k > 0 then ", " else "" : String) ++ t).length = acc.length + (if k > 0 then 2 else 0) + t.length := by
    rw [strLen_append, strLen_append]
    congr 2
    split <;> rfl
   have e2 : (if k > 0 then 2 else 0) <= 2 := by split <;> decide
   show (textFrom (k + 1) (acc ++ (if k > 0 then ", " else "" : String) ++ t) r).length <= acc.length + (r.length + 1) * (B + 2)
   rw [Nat.add_mul, Nat.one_mul]
   omega
theorem shown_ints_le (ns : List Int) (hn : ns.length <= 64) (hb : ∀ i ∈ ns, i.natAbs.log2 < 1920) : (PyData.list (ns.map .int)).shown.length <= 130000 := by
 have all : ∀ ms : List Int, PyData.shownAll (ms.map .int) = ms.map fun i => (Str.ofString (toString i)) := fun ms => by
  induction ms with
  | nil => simp only [List.map_nil, PyData.shownAll]
  | cons x r ih => simp only [List.map_cons, PyData.shownAll, ih, PyData.shown]
 simp only [PyData.shown]
 unfold listText
 rw [all, strLen_append]
 have := textFrom_le (B := 1921) (ns.map fun i => (Str.ofString (toString i))) 0 "[" fun t ht => by
  obtain ⟨i, hi, rfl⟩ := List.mem_map.mp ht
  exact int_text_len_1921 (hb i hi)
 rw [List.length_map] at this
 have e1 : ("[" : Str).length = 1 := rfl
 have e2 : ("]" : Str).length = 1 := rfl
 omega
theorem showable_ints : ∀ ns : List Int, (∀ i ∈ ns, i.natAbs.log2 < 1920) -> PyData.showableAll (ns.map .int) = true
 | [], _ => by simp only [List.map_nil, PyData.showableAll]
 | x :: r, h => by
   have ih := showable_ints r fun i hi => h i (List.mem_cons_of_mem _ hi)
   have hx := h x List.mem_cons_self
   simp only [List.map_cons, PyData.showableAll, PyData.showable, ih, decide_eq_true hx, Bool.and_self]
theorem noDict_ints : ∀ ns : List Int, PyData.hasDictAll (ns.map .int) = false
 | [] => by simp only [List.map_nil, PyData.hasDictAll]
 | x :: r => by simp only [List.map_cons, PyData.hasDictAll, PyData.hasDict, noDict_ints r, Bool.or_self]
theorem depth_ints : ∀ ns : List Int, PyData.depthAll (ns.map .int) <= 1
 | [] => by simp only [List.map_nil, PyData.depthAll]; omega
 | x :: r => by
   have := depth_ints r
   simp only [List.map_cons, PyData.depthAll, PyData.depth]
   omega
theorem reads_ints {h : Heap} : ∀ {ns : List Int} {its : List Value}, Vals (ns.map V.int) its -> ReadsAll h its (ns.map .int) []
 | [], [], _ => .nil
 | [], _ :: _, r => by cases r
 | _ :: _, [], r => by cases r
 | x :: ns, u :: us, r => by
   cases r with
   | cons r1 r2 =>
     obtain ⟨t, rfl⟩ := r1
     exact .cons (as := []) (bs := []) (.int x t) (reads_ints r2)
section
variable {X : Cx} {pos : Pos} {e : Expr} {es : List Expr} {te : TE} {tj : TJ} {j : Nat}
def tjL (K : W.Frag) (te : TE) (tj : TJ) : TJ := fun σ H n R => te σ H fun x H1 => ∃ (a : Addr) (ns : List Int), x = .ref a /\ SqL K H1 a (ns.map V.int) /\ ns.length <= 64 /\ (∀ i ∈ ns, i.natAbs.log2 < 1920) /\ n + 130000 <= sizeLine /\ tj σ H1 (n + 130000) R
theorem pj_lst (rm : Room j X.A) (h : PE X e te) (hr : PJ X es tj) (hs : evalEach (.FormattedValue e 114 none pos :: es) X.env = eval (.FormattedValue e 114 none pos) X.env :: evalEach es X.env := by rfl) : PJ X (.FormattedValue e 114 none pos :: es) (tjL X.K te tj) := by
 intro pins s σ H acc n R I hl hq
 rw [hs]
 refine wpAny_FormattedValue_repr (thn (h pins s σ H _ I hq) fun u s1 ⟨x, H1, I1, r, a, ns, ex, hL, hn, hb, hz, k⟩ => ?_)
 subst ex
 cases (show u = Value.ref a from r)
 obtain ⟨its, r', pl, _⟩ := I1.list hL
 obtain ⟨ob, ho, hc, nn, hd⟩ := id pl.isList
 have big : 2000000 <= sizeLine := by decide
 have len := shown_ints_le ns hn hb
 have rr : Reads s1.heap (.ref a) (.list (ns.map .int)) [a] := .list (as := []) ho hc hd (by simpa using reads_ints r')
 have dp : (PyData.list (ns.map .int)).depth <= 2 := by
  have := depth_ints ns
  simp only [PyData.depth]
  omega
 have hu := rm.units
 refine pyReprObj_of_reads rr (by simp only [PyData.showable]; exact showable_ints ns hb) (PyData.noDict_hsm (by simp only [PyData.hasDict]; exact noDict_ints ns)) rm.gd (by omega) (fun _ _ e => e) (fun h' u tk kk => ?_) (by omega)
 have I2 : Inv X pins σ H1 { s1 with heap := h', toks := tk } := I1.kept (t' := tk) kk
 exact formatField_str (fun t' tk' => pj_on hr (I2.tok _) hl len hz k) (by omega)
end
end L2
namespace L2
open PySem PySem.Spec PyProof.Rows
section
variable {prog : Program} {w : World} {A : Around} {E : Value -> Shared -> Prop} {s : Shared}
end
section
variable {X : Cx} {e : Expr} {te : TE} {p p' pos pos' : Pos}
end
end L2
namespace L2
open PySem PySem.Spec PyProof.Rows
section
variable {prog : Program} {w : World} {A : Around} {E : Value -> Shared -> Prop} {s : Shared}
theorem sorted_src {T : String} {r d : Addr} {n : Nat} {P : Nat -> Value -> Prop} {OK : Heap -> Prop} {Q : Value -> Shared -> Prop} (K : W.KdlSrc prog w T r d n P OK) (hh : A.handled = none) (hok : OK s.heap) (hn : n < 64) (ns : List Int) (hns : ns.length = n)
 (hval : ∀ i v k, P i v -> ns[i]? = some k -> ∃ t, v = .int k t)
 (h : ∀ (h' h2 : Heap) (tk : Nat) (out : Array Value) (ns' : List Int) (c : Nat), (∀ b o, s.heap.get? b = some o -> h'.get? b = some o) -> (∀ b o, h'.get? b = some o -> h2.get? b = some o) -> h2.get? h'.objs.size = some (seqObj "list" out c) -> IntsAre out.toList ns' -> ns'.Perm ns -> ns'.Pairwise (· <= ·) -> Q (.ref h'.objs.size) { s with heap := h2, toks := tk }) :
 wpAny (model prog w) A (call (.builtin "sorted") [.ref r]) Q E s := by
 have big : 64 <= sizeLine := by decide
 refine Calls.call_function_entry kind_sorted plain_sorted entry_sorted (args_sorted1 _) ?_
 unfold Builtin.«sorted»
 refine wpAny_bind (m := checkCount "sorted" 1 1 _) (wpAny_pure ?_)
 refine wpAny_bind (W.kdu_collect (A := A.in1) K hh hok (by omega) fun h' tk acc hk hacc => ?_)
 have hlen : acc.toList.length = n := by rw [Array.length_toList]; exact hacc.1
 have hI : IntsAre acc.toList ns := intsAre_of (vals_of_get (xs := ns.map V.int) (by rw [List.length_map, hlen, hns]) fun i x u e1 e2 => by
  rw [List.getElem?_map] at e1
  obtain ⟨k, ek, rfl⟩ := Option.map_eq_some_iff.mp e1
  exact hval i u k (hacc.2 i u (by simpa using e2)) ek)
 refine wpAny_bind (wpAny_newList ?_ (by rw [hlen]; omega))
 have hoL : (h'.push (seqObj "list" acc.toList.toArray 0)).get? h'.objs.size = some (seqObj "list" acc.toList.toArray 0) := Heap.get?_push_size _ rfl
 refine wpAny_bind (wpAny_holding (wpAny_call_entry slot_list_sort ⟨_, hoL, rfl⟩ entry_list_sort (list_sort_tree hoL hI (by rw [hlen]; exact hn) fun out ns' a1 a2 a3 => ⟨_, rfl, ?_⟩) (args_list_sort _)))
 refine wpAny_pure ⟨_, rfl, ?_⟩
 obtain ⟨c, he⟩ := sortedHeap_at (out := out) hoL
 refine h h' _ tk out ns' c hk (fun b o q' => ?_) he a1 a2 a3
 have lt := Heap.lt_size q'
 rw [sortedHeap_old (Nat.ne_of_lt lt) (by rw [size_push']; exact Nat.lt_succ_of_lt lt)]
 exact Heap.get?_push_of_some _ q'
end
section
variable {X : Cx}
theorem call_sortedD (hc : X.calm = true) : CallR X (.builtin "sorted") (fun xs H Q => ∃ (p : Addr) (kvs : List (Key × V)) (ns : List Int), xs = [.ref p] /\ H p = some (.dK kvs) /\ kvs.map (·.1) = ns.map Sum.inl /\ ns.length < 64 /\
 ∀ (l : Addr) (ns' : List Int), H l = none -> ns'.Perm ns -> ns'.Pairwise (· <= ·) -> Q (.ref l) (upd H l (.lst (ns'.map V.int)))) := by
 intro pins s σ H xs us Q I r h
 obtain ⟨p, kvs, ns, rfl, hp, hk, hl, q⟩ := h
 obtain ⟨u, rfl, rx⟩ := vals1 r
 cases rx
 obtain ⟨_, lo, vs, rel, dd⟩ := dk_of I.hok hp
 obtain ⟨ep, hat⟩ := dd.dictAt
 have ek := rel.keys
 have len : ns.length = vs.length := by
  have := congrArg List.length (hk.symm.trans ek)
  simpa using this
 refine sorted_src (W.kdl_dict (knd := mixKind X.prog X.w) (kvs := vs) (ep := ep) lo) (I.ok.hd hc) hat (by omega) ns len (fun i v k hP hn => ?_) fun h' h2 tk out ns' c hkp hk2 hget a1 a2 a3 => ?_
 . obtain ⟨k', x, e1, e2⟩ := hP
   have e3 : (vs.map (·.1))[i]? = some k' := by rw [List.getElem?_map, e1]; rfl
   rw [<- ek, hk, List.getElem?_map, hn] at e3
   cases Option.some.inj e3
   obtain ⟨t, e5⟩ : ∃ t, v = .int k t := by
    have e2' : keyIs (.inl k) v = true := e2
    rcases keyIs_shape e2' with ⟨j, t, e4, e5⟩ | ⟨j, t, e4, e5⟩
    . exact ⟨t, by rw [e5, Sum.inl.inj e4]⟩
    . cases e4
   exact ⟨t, e5⟩
 . have I2 := I.kept (t' := tk) hkp
   have fresh : H h'.objs.size = none := I2.hok.fresh (Nat.le_refl _)
   refine ⟨.ref h'.objs.size, _, I2.laid (t' := tk) (o := .lst (ns'.map V.int)) hk2 (Nat.le_refl _) ?_, rfl, q _ ns' fresh a2 a3⟩
   have big : 64 <= sizeLine := by decide
   exact ⟨by rw [List.length_map, a2.length_eq]; omega, out.toList, c, vals_ints a1, by simpa using hget⟩
end
end L2
namespace L2
open PySem PySem.Spec PyProof.Rows
structure LsAt (H : Hp) (ps : List Addr) (xss : List (List Int)) : Prop where
 len : ps.length = xss.length
 at_ : ∀ (i : Nat) p xs, ps[i]? = some p -> xss[i]? = some xs -> H p = some (.lst (xs.map V.int))
theorem LsAt.same {H H' : Hp} {ps : List Addr} {xss : List (List Int)} (h : LsAt H ps xss) (s : Same H H') : LsAt H' ps xss := ⟨h.len, fun i p xs a b => s _ _ (h.at_ i p xs a b)⟩
section
variable {X : Cx}
theorem vals_refs : ∀ {ps : List Addr} {us : List Value}, Vals (ps.map V.ref) us -> us = ps.map Value.ref
 | [], [], _ => rfl
 | [], _ :: _, r => by cases r
 | _ :: _, [], r => by cases r
 | p :: ps, u :: us, r => by
   cases r with
   | cons r1 r2 => cases (show u = Value.ref p from r1); rw [vals_refs r2]; rfl
end
end L2
namespace L2
open PySem PySem.Spec PyProof.Rows
section
variable {prog : Program} {w : World} {A : Around} {R : Result -> Shared -> Prop} {s : Shared}
theorem codeAny_compLoop_F {elt target iter cnd : Expr} {scope : Scope} {pos : Pos} {it acc : Value} {env : Env} (I : Nat -> Shared -> Prop)
 (turn : ∀ n s, I n s -> wpAny (model prog w) A (pyNext it) (fun r s₁ => match r with
  | none => R (.ok .next) s₁
  | some v => wpAny (model prog w) A (letOwnedTupleGo target it v) (fun _ s₂ => wpAny (model prog w) A (assign target env v) (fun _ s₂ => wpAny (model prog w) A (isTrue cnd env (eval cnd env)) (fun b s₂ => match b with
    | false => ∃ m, m < n /\ I m s₂
    | true => wpAny (model prog w) A (eval elt env) (fun x s₃ =>
      wpAny (model prog w) A (call (.builtin "list.append") [acc, x]) (fun _ s₄ => ∃ m, m < n /\ I m s₄) (notedBy (model prog w) A env fun e s' => R (.error e) s') s₃)
      (notedBy (model prog w) A env fun e s' => R (.error e) s') s₂) (notedBy (model prog w) A env fun e s' => R (.error e) s') s₂) (notedBy (model prog w) A env fun e s' => R (.error e) s') s₂) (notedBy (model prog w) A env fun e s' => R (.error e) s') s₁) (notedBy (model prog w) A env fun e s' => R (.error e) s') s)
 (n : Nat) (h : I n s) :
 codeAny (model prog w) A (.compLoop (.ListComp elt [⟨target, iter, [cnd], 0⟩] scope pos) 0 it acc env) R s := by
 refine codeAny_loop rfl I (fun n s hI => ?_) n h
 show wpAny _ _ ((compTurn (.ListComp elt [⟨target, iter, [cnd], 0⟩] scope pos) 0 it acc env).onRaise (fun x => do noteFrame x env; theTreesLotGoes x)) _ _ s
 refine wpAny_noted ?_
 rw [compTurn_list]
 refine wpAny_bind (wpAny_standAt (wpAny_bind (wpAny_mono (turn n s hI) (fun r s₁ h₁ => ?_) fun _ _ h' => h')))
 cases r with
 | none => exact wpAny_pure h₁
 | some v =>
   refine wpAny_bind (wpAny_mono h₁ (fun _ s₂ h₂ => ?_) fun _ _ h' => h')
   refine wpAny_bind (wpAny_mono h₂ (fun _ s₂ h₂ => ?_) fun _ _ h' => h')
   simp only [List.forIn_cons, List.forIn_nil, if_true]
   refine wpAny_bind (wpAny_bind (wpAny_bind (wpAny_mono h₂ (fun b s₃ h₃ => ?_) fun _ _ h' => h')))
   refine wpAny_pure (wpAny_pure ?_)
   cases b with
   | false => exact wpAny_pure ⟨rfl, h₃⟩
   | true =>
     exact wpAny_bind (wpAny_bind (wpAny_mono h₃ (fun x s₃ h₃ => wpAny_bind (wpAny_mono h₃ (fun _ s₄ h₄ => wpAny_pure (wpAny_pure ⟨rfl, h₄⟩)) fun _ _ h' => h')) fun _ _ h' => h'))
end
abbrev TTB := Shared -> Hp -> List Addr -> TT
def tCompF (fv : List (Str × Nat)) (tc : TTB) (te : TEB) (σ : St) (J : It) (H1 : Hp) (Q : VK) : Prop :=
 ∀ D, H1 D = none -> ∃ W : Nat -> Nat -> List V -> Hp -> Prop, (∃ m, W 0 m [] (upd H1 D (.lst []))) /\
   ∀ i m ys H, W i m ys H -> H D = some (.lst ys) /\ ((J.stop i H /\ Q (.ref D) H) \/ (J.go i H /\ ys.length < sizeLine /\ ∀ x H', J.yld i H x H' ->
     ∀ s₀ H₀ ex, tc s₀ H₀ ex (blkS fv σ (some x)) H' fun b H2 => match b with
       | false => ∃ m', m' < m /\ W (i + 1) m' ys H2
       | true => te s₀ H₀ ex (blkS fv σ (some x)) H2 fun v H2 => H2 D = some (.lst ys) /\ ∃ m', m' < m /\ W (i + 1) m' (ys ++ [v]) (upd H2 D (.lst (ys ++ [v])))))
def tCompFt (wi : TI) (fv : List (Str × Nat)) (tc : TTB) (te : TEB) : TE := fun σ H Q => wi σ H fun J H1 => tCompF fv tc te σ J H1 Q
section
variable {X : Cx} {x : Str} {fv : List (Str × Nat)} {scope : Scope} {cl : List (Str × Addr)} {pins : List (Addr × Obj)} {σ : St} {px pos : Pos} {iter elt cnd : Expr} {te : TEB} {tc : TTB}
theorem comp_blockF {s2 : Shared} {H2 : Hp} {it : Addr} {fp : List Addr} {tn : Nat -> Heap -> Prop} {J : It} (ok : CompOk X x fv scope cl) (hc : X.calm = true)
 (he : ∀ s₀ H₀ ex, PE (blk X (x :: fv.map (·.1)) scope cl s₀ H₀ ex NoX) elt (te s₀ H₀ ex)) (hcd : ∀ s₀ H₀ ex, PT (blk X (x :: fv.map (·.1)) scope cl s₀ H₀ ex NoX) cnd (tc s₀ H₀ ex)) (I2 : Inv X pins σ H2 s2) (T : Turn X.prog X.w X.K (.Name x px) J fp it tn) (st2 : tn 0 s2.heap) (f2 : ∀ b ∈ fp, FpOk X pins H2 b)
 {Qv : VK} (hQ : tCompF fv tc te σ J H2 Qv) {RR : Value -> Addr -> Result -> Shared -> Prop}
 (hRR : ∀ D C m' H' s', Inv X pins σ H' s' -> s'.heap.Ns C m' -> FpOk X pins H' C -> Qv (.ref D) H' -> RR (.ref D) C (.ok .next) s') :
 wpAny (model X.prog X.w) X.A (newList []) (fun acc s₃ => wpAny (model X.prog X.w) X.A (newFunctionEnv scope X.env.globals cl [] X.env.qual none .none (some X.env)) (fun cenv s₄ =>
  codeAny (model X.prog X.w) X.A (.compStart (.ListComp elt [⟨.Name x px, iter, [cnd], 0⟩] scope pos) 0 (.ref it) acc { cenv with scope := relabel scope X.env }) (RR acc cenv.locals) s₄) X.xe s₃) X.xe s2 := by
 refine wpAny_newObj_type (wpAny_newFunctionEnv ok.nocell (by intro y hy; simp at hy) (fun h₁ hns₁ hsb₁ => ?_) ok.kind)
 dsimp only at hns₁ hsb₁ ⊢
 have I3 : Inv X pins σ (upd H2 s2.heap.objs.size (.lst [])) { s2 with heap := s2.heap.push { cls := .type "list", dict := none, data := .seq ([] : List Value).toArray } } :=
  I2.laid (t' := s2.toks) (fun b o e => Heap.get?_push_of_some _ e) (Nat.le_refl _) ⟨Nat.zero_le _, [], 0, .nil, Heap.get?_push_size _ rfl⟩
 have hD : H2 s2.heap.objs.size = none := I2.hok.fresh (Nat.le_refl _)
 generalize hs3 : ({ s2 with heap := s2.heap.push { cls := .type "list", dict := none, data := .seq ([] : List Value).toArray } } : Shared) = s3 at I3
 have eh : s2.heap.push { cls := .type "list", dict := none, data := .seq ([] : List Value).toArray } = s3.heap := by rw [<- hs3]
 rw [eh] at hns₁ hsb₁ ⊢
 have fl : ∀ b ∈ fp, b < s2.heap.objs.size := fun b hb => by
  obtain ⟨o, e, _⟩ := T.obj _ _ st2 b hb
  exact Heap.lt_size e
 have sz3 : s3.heap.objs.size = s2.heap.objs.size + 1 := by rw [<- eh, Heap.size_push]
 have f3 : ∀ b ∈ fp, FpOk X pins (upd H2 s2.heap.objs.size (.lst [])) b := fun b hb => ⟨by rw [upd_ne (Nat.ne_of_lt (fl b hb))]; exact (f2 b hb).1, (f2 b hb).2⟩
 have fl3 : ∀ b ∈ fp, b < s3.heap.objs.size := fun b hb => by rw [sz3]; exact Nat.lt_succ_of_lt (fl b hb)
 have old3 : ∀ b o, s3.heap.get? b = some o -> h₁.get? b = some o := fun b o e => hsb₁.extBut b o (Nat.ne_of_lt (Heap.lt_size e)) (Heap.get?_push_of_some _ e)
 have old2 : ∀ b o, s2.heap.get? b = some o -> h₁.get? b = some o := fun b o e => old3 b o (by rw [<- eh]; exact Heap.get?_push_of_some _ e)
 have st1 : tn 0 h₁ := T.keep _ _ _ st2 fun b _ o e => old2 b o e
 have IY := blk_start (E := NoX) I3 ok f3 fl3 hns₁ old3 (s3.toks + ([] : List (Str × Value)).length)
 obtain ⟨W, ⟨m0, w0⟩, turn⟩ := hQ s2.heap.objs.size hD
 have loop : ∀ s4 : Shared, s4 = { s3 with heap := h₁, toks := s3.toks + ([] : List (Str × Value)).length } ->
  codeAny (model X.prog X.w) X.A (.compLoop (.ListComp elt [⟨.Name x px, iter, [cnd], 0⟩] scope pos) 0 (.ref it) (.ref s2.heap.objs.size) (compEnvC scope cl s3.heap.objs.size X.env)) (RR (.ref s2.heap.objs.size) s3.heap.objs.size) s4 := by
  rintro s4 rfl
  have stat : ∀ {H' : Hp}, (∀ b ∈ fp, H' b = none) -> ∀ b ∈ fp, FpOk (blk X (x :: fv.map (·.1)) scope cl s3 (upd H2 s2.heap.objs.size (.lst [])) fp NoX) [] H' b := fun hn b hb =>
   ⟨hn b hb, Nat.ne_of_lt (fl3 b hb), fun z => by
    rcases List.mem_cons.mp (I3.stkSub b z) with e | e
    . exact (f2 b hb).2.1 e
    . exact (f2 b hb).2.2.1 e, .inl hb, fun y c h => (f2 b hb).2.2.2.2.1 y c (ok.sub h), fun p hp => absurd (show p ∈ ([] : List (Addr × Obj)) from hp) (by simp)⟩
  refine codeAny_compLoop_F (fun n s' => ∃ i o H' ys, Inv (blk X (x :: fv.map (·.1)) scope cl s3 (upd H2 s2.heap.objs.size (.lst [])) fp NoX) [] (blkS fv σ o) H' s' /\ tn i s'.heap /\ (∀ b ∈ fp, H' b = none) /\ W i n ys H') ?_ m0
   ⟨0, none, _, [], IY, st1, fun b hb => (f3 b hb).1, w0⟩
  rintro n s5 ⟨i, o, H5, ys, I5, st5, fr5, w5⟩
  obtain ⟨hD5, w5⟩ := turn i n ys H5 w5
  rcases w5 with ⟨stop, qn⟩ | ⟨go, hsz, step⟩
  . refine wpAny_mono (T.done (blk X (x :: fv.map (·.1)) scope cl s3 (upd H2 s2.heap.objs.size (.lst [])) fp NoX) rfl rfl rfl hc i [] s5 _ H5 NoX I5 (stat fr5) st5 stop) (fun r s6 ⟨hr, I6⟩ => ?_) fun _ _ z => z.elim
    subst hr
    obtain ⟨m', hm', _⟩ := I6.loc
    have I7 : Inv X pins σ H5 s6 := I3.call' (ch := fp) (by rw [I6.os]) I6.base I6.hok I6.bare fun b hb => ⟨(f2 b hb).2.2.2.1, (f2 b hb).2.1, (f2 b hb).2.2.2.2.1, (f2 b hb).2.2.2.2.2⟩
    exact hRR _ _ m' H5 s6 I7 hm' (I3.fpOk (Nat.le_refl _) I6.free) qn
  . refine wpAny_mono (T.item (blk X (x :: fv.map (·.1)) scope cl s3 (upd H2 s2.heap.objs.size (.lst [])) fp NoX) rfl rfl rfl hc i [] s5 _ H5 NoX I5 (stat fr5) st5 go) (fun r s6 ⟨u, hr, h6⟩ => ?_) fun _ _ z => z.elim
    subst hr
    refine wpAny_mono h6 (fun _ s7 ⟨v, H7, I7, r7, y7, st7, fr7⟩ => ?_) fun _ _ z => z.elim
    have I7' := I7.pinned (stat fr7) (T.obj _ _ st7)
    have hx : Loc (blk X (x :: fv.map (·.1)) scope cl s3 (upd H2 s2.heap.objs.size (.lst [])) fp NoX).env.scope x := .inl (lookup_relabel_local ok.here)
    refine wpAny_assign_Name (store_ok (X := blk X (x :: fv.map (·.1)) scope cl s3 (upd H2 s2.heap.objs.size (.lst [])) fp NoX) (i := 0) I7' ok.nd rfl hx r7 (fun s8 I8 => ?_) (.inr (lookup_relabel_local ok.here)))
    refine wpAny_mono (hcd s3 _ fp _ s8 (blkS fv σ (some v)) H7 _ I8 (step v H7 y7 _ _ _)) (fun bb s8' ⟨H8, I8', q8⟩ => ?_) fun _ _ z => z.elim
    cases bb with
    | false =>
      obtain ⟨m', hm', w9⟩ := q8
      refine ⟨m', hm', i + 1, some v, _, ys, I8'.unpinned, T.keep _ _ _ st7 fun b hb o e => (I8'.pin (b, o) (List.mem_append_right _ (List.mem_append_right _ (mem_pinsAt hb e)))).1, fun b hb => ?_, w9⟩
      obtain ⟨o, e, d⟩ := T.obj _ _ st7 b hb
      exact (I8'.pin (b, o) (List.mem_append_right _ (List.mem_append_right _ (mem_pinsAt hb e)))).2.1
    | true =>
      refine wpAny_mono (he s3 _ fp _ s8' (blkS fv σ (some v)) H8 _ I8' q8) (fun u9 s9 ⟨v9, H9, I9, r9, hD9, m', hm', w9⟩ => ?_) fun _ _ z => z.elim
      refine wpAny_mono (mt_append (X := blk X (x :: fv.map (·.1)) scope cl s3 (upd H2 s2.heap.objs.size (.lst [])) fp NoX) _ s9 _ H9 (.ref s2.heap.objs.size) [v9] (.ref s2.heap.objs.size) [u9]
       (fun _ H10 => H10 = upd H9 s2.heap.objs.size (.lst (ys ++ [v9]))) I9 rfl (.cons r9 .nil) ⟨_, ys, v9, rfl, rfl, hD9, hsz, rfl⟩) (fun _ s10 ⟨_, H10, I10, _, e10⟩ => ?_) fun _ _ z => z.elim
      subst e10
      refine ⟨m', hm', i + 1, some v, _, ys ++ [v9], I10.unpinned, T.keep _ _ _ st7 fun b hb o e => (I10.pin (b, o) (List.mem_append_right _ (List.mem_append_right _ (mem_pinsAt hb e)))).1, fun b hb => ?_, w9⟩
      obtain ⟨o, e, d⟩ := T.obj _ _ st7 b hb
      exact (I10.pin (b, o) (List.mem_append_right _ (List.mem_append_right _ (mem_pinsAt hb e)))).2.1
 exact codeAny_compStart_list (loop _ (by rw [<- hs3])) (T.self _ 0 _ _ _ st1 (loop _ (by rw [<- hs3])))
theorem pe_compF {wi : TI} (ok : CompOk X x fv scope cl) (hc : X.calm = true) (hi : PI X (.Name x px) iter wi) (he : ∀ s₀ H₀ ex, PE (blk X (x :: fv.map (·.1)) scope cl s₀ H₀ ex NoX) elt (te s₀ H₀ ex)) (hcd : ∀ s₀ H₀ ex, PT (blk X (x :: fv.map (·.1)) scope cl s₀ H₀ ex NoX) cnd (tc s₀ H₀ ex))
 (hs : ∀ v, foldedSetIterable iter X.env v = pure v := by intro _; rfl) : PE X (.ListComp elt [⟨.Name x px, iter, [cnd], 0⟩] scope pos) (tCompFt wi fv tc te) := by
 intro pins s σ H Q I h
 rw [eval_ListComp]
 refine wpAny_comprehension_free (use := none) rfl hs ok.clos ok.kind ok.names (thn (hi pins s σ H _ I h) fun v s1 h1 => thn h1 fun itv s2 h2 => ?_)
 obtain ⟨it, fp, tn, J, H2, rfl, I2, T, st2, f2, hQ⟩ := h2
 refine comp_blockF (RR := fun acc C => compPost (model X.prog X.w) X.A X.xe none (EP X pins σ Q) acc C) ok hc he hcd I2 T st2 f2 hQ ?_
 intro D C m' H' s' I' hn fC q
 exact ⟨m', hn, fun h' hs' => ⟨.ref D, H', I'.turned (t' := s'.toks) (fun b o hb e => hs'.extBut b o hb e) fC.1 fC.2.1 fC.2.2.2.1 fC.2.2.2.2.1 fC.2.2.2.2.2, rfl, q⟩⟩
theorem ps_setCompF {wi : TI} {i : Nat} {y : Str} {py spos : Pos} (hN : X.N.Nodup) (hiy : X.N[i]? = some y) (hy : Loc X.env.scope y) (ok : CompOk X x fv scope cl) (hc : X.calm = true) (hi : PI X (.Name x px) iter wi) (he : ∀ s₀ H₀ ex, PE (blk X (x :: fv.map (·.1)) scope cl s₀ H₀ ex NoX) elt (te s₀ H₀ ex)) (hcd : ∀ s₀ H₀ ex, PT (blk X (x :: fv.map (·.1)) scope cl s₀ H₀ ex NoX) cnd (tc s₀ H₀ ex))
 (hsw : swapsWith (.ListComp elt [⟨.Name x px, iter, [cnd], 0⟩] scope pos) (some (.Name y py)) spos.line X.env = pure true := by rfl)
 (hs : ∀ v, foldedSetIterable iter X.env v = pure v := by intro _; rfl) (hf : X.fn y = true \/ X.env.scope.names.lookup y = some .local := by first | exact .inl rfl | exact .inr rfl | assumption) :
 PS X (.Assign [.Name y py] (.ListComp elt [⟨.Name x px, iter, [cnd], 0⟩] scope pos) spos) (tAsg (tCompFt wi fv tc te) (gName i)) := by
 intro pins s σ H D I h
 rw [exec_Assign_Name_used _ _ _ _ hsw]
 refine wpAny_bind (wpAny_standAt (wpAny_bind ?_))
 show wpAny _ _ (do let _ <- comprehension (.ListComp elt [⟨.Name x px, iter, [cnd], 0⟩] scope pos) scope X.env _ (newList []) false (eval iter X.env) (some (assign (.Name y py) X.env))) _ _ s
 refine wpAny_bind (wpAny_mono (wpAny_comprehension_free (use := some (assign (.Name y py) X.env)) (Q := fun _ s' => SP X pins D .next s') rfl hs ok.clos ok.kind ok.names
  (thn (hi pins s σ H _ I h) fun v s1 h1 => thn h1 fun itv s2 h2 => ?_)) (fun _ s' hq => wpAny_pure (wpAny_pure hq)) fun _ _ e => e)
 obtain ⟨it, fp, tn, J, H2, rfl, I2, T, st2, f2, hQ⟩ := h2
 refine comp_blockF (RR := fun acc C => compPost (model X.prog X.w) X.A X.xe (some (assign (.Name y py) X.env)) (fun _ s' => SP X pins D .next s') acc C) ok hc he hcd I2 T st2 f2 hQ ?_
 intro D' C m' H' s' I' hn fC q
 show wpAny _ _ (assign (.Name y py) X.env (.ref D')) _ _ _
 refine wpAny_assign_Name (store_ok2 (v := .ref D') I' hN hiy hy rfl (fun s'' I'' hab => ?_) hf)
 obtain ⟨a, hsb, ha⟩ := hab
 have haC : C ≠ a := by
  rcases ha with e | e
  . rw [e]; exact fC.2.1
  . exact (fC.2.2.2.2.1 y a e).symm
 exact ⟨m', hn.sameBut hsb haC, fun h' hs' => ⟨_, H', I''.turned (t' := s''.toks) (fun b o hb e => hs'.extBut b o hb e) fC.1 fC.2.1 fC.2.2.2.1 fC.2.2.2.2.1 fC.2.2.2.2.2, q⟩⟩
theorem comp_rangeF {lo : Int} {n : Nat} {H1 : Hp} {Q : VK} (p : Nat -> Bool) (f : Nat -> V) (hn : n <= sizeLine)
 (ct : ∀ (i : Nat) (H' : Hp) (R : Bool -> Hp -> Prop), i < n -> Same H1 H' -> (∀ H2, Same H' H2 -> R (p i) H2) -> ∀ s₀ H₀ ex, tc s₀ H₀ ex (blkS fv σ (some (.int (lo + i)))) H' R)
 (el : ∀ (i : Nat) (H' : Hp) (R : VK), i < n -> p i = true -> Same H1 H' -> (∀ H2, Same H' H2 -> R (f i) H2) -> ∀ s₀ H₀ ex, te s₀ H₀ ex (blkS fv σ (some (.int (lo + i)))) H' R)
 (fin : ∀ D H2, H1 D = none -> Same H1 H2 -> H2 D = some (.lst (((List.range n).filter p).map f)) -> Q (.ref D) H2) : tCompF fv tc te σ (Itr lo n) H1 Q := by
 intro D hD
 have sd : ∀ {H2 : Hp} {o : HO}, Same H1 H2 -> Same H1 (upd H2 D o) := fun {H2 o} s b u e => by
  rw [upd_ne (ne_of_none e hD)]; exact s b u e
 refine ⟨fun i m ys H => m = n - i /\ i <= n /\ ys = ((List.range i).filter p).map f /\ Same H1 H /\ H D = some (.lst ys), ⟨n, by simp, Nat.zero_le _, rfl, sd (Same.refl H1), upd_same⟩, ?_⟩
 rintro i m ys H ⟨rfl, hi, rfl, sm, hDi⟩
 refine ⟨hDi, ?_⟩
 by_cases hlt : i < n
 . have len : (((List.range i).filter p).map f).length <= i := by
    rw [List.length_map]
    exact Nat.le_trans (List.length_filter_le _ _) (by rw [List.length_range]; exact Nat.le_refl _)
   refine .inr ⟨hlt, by omega, fun x H' y => ?_⟩
   obtain ⟨e, y⟩ := y
   subst e y
   intro s₀ H₀ ex
   refine ct i _ _ hlt sm (fun H2 s2 => ?_) s₀ H₀ ex
   cases q : p i with
   | false =>
     refine ⟨n - (i + 1), by omega, rfl, hlt, ?_, sm.trans s2, s2 D _ hDi⟩
     rw [List.range_succ, List.filter_append, List.map_append, List.filter_cons_of_neg (by rw [q]; decide), List.filter_nil, List.map_nil, List.append_nil]
   | true =>
     refine el i H2 _ hlt q (sm.trans s2) (fun H3 s3 => ⟨s3 D _ (s2 D _ hDi), n - (i + 1), by omega, rfl, hlt, ?_, sd ((sm.trans s2).trans s3), upd_same⟩) s₀ H₀ ex
     rw [List.range_succ, List.filter_append, List.map_append, List.filter_cons_of_pos q, List.filter_nil]
     rfl
 . have e : i = n := by omega
   subst e
   exact .inl ⟨Nat.le_refl _, fin D H hD sm hDi⟩
theorem comp_listF {K : W.Frag} {a : Addr} {xs : List V} {H1 : Hp} {Q : VK} (p : Nat -> Bool) (f : Nat -> V) (hq : SqL K H1 a xs) (hn : xs.length <= sizeLine)
 (ct : ∀ (i : Nat) (x : V) (H' : Hp) (R : Bool -> Hp -> Prop), xs[i]? = some x -> Same H1 H' -> (∀ H2, Same H' H2 -> R (p i) H2) -> ∀ s₀ H₀ ex, tc s₀ H₀ ex (blkS fv σ (some x)) H' R)
 (el : ∀ (i : Nat) (x : V) (H' : Hp) (R : VK), xs[i]? = some x -> p i = true -> Same H1 H' -> (∀ H2, Same H' H2 -> R (f i) H2) -> ∀ s₀ H₀ ex, te s₀ H₀ ex (blkS fv σ (some x)) H' R)
 (fin : ∀ D H2, H1 D = none -> Same H1 H2 -> H2 D = some (.lst (((List.range xs.length).filter p).map f)) -> Q (.ref D) H2) : tCompF fv tc te σ (Itl K a) H1 Q := by
 intro D hD
 have sd : ∀ {H2 : Hp} {o : HO}, Same H1 H2 -> Same H1 (upd H2 D o) := fun {H2 o} s b u e => by
  rw [upd_ne (ne_of_none e hD)]; exact s b u e
 refine ⟨fun i m ys H => m = xs.length - i /\ i <= xs.length /\ ys = ((List.range i).filter p).map f /\ Same H1 H /\ H D = some (.lst ys), ⟨xs.length, by simp, Nat.zero_le _, rfl, sd (Same.refl H1), upd_same⟩, ?_⟩
 rintro i m ys H ⟨rfl, hi, rfl, sm, hDi⟩
 have hq' := sm.seq hq
 refine ⟨hDi, ?_⟩
 by_cases hlt : i < xs.length
 . have len : (((List.range i).filter p).map f).length <= i := by
    rw [List.length_map]
    exact Nat.le_trans (List.length_filter_le _ _) (by rw [List.length_range]; exact Nat.le_refl _)
   refine .inr ⟨⟨xs, xs[i], hq', by simp [hlt]⟩, by omega, fun x H' y => ?_⟩
   obtain ⟨e, y⟩ := y
   subst e
   have hx := y xs hq'
   intro s₀ H₀ ex
   refine ct i x _ _ hx sm (fun H2 s2 => ?_) s₀ H₀ ex
   cases q : p i with
   | false =>
     refine ⟨xs.length - (i + 1), by omega, rfl, hlt, ?_, sm.trans s2, s2 D _ hDi⟩
     rw [List.range_succ, List.filter_append, List.map_append, List.filter_cons_of_neg (by rw [q]; decide), List.filter_nil, List.map_nil, List.append_nil]
   | true =>
     refine el i x H2 _ hx q (sm.trans s2) (fun H3 s3 => ⟨s3 D _ (s2 D _ hDi), xs.length - (i + 1), by omega, rfl, hlt, ?_, sd ((sm.trans s2).trans s3), upd_same⟩) s₀ H₀ ex
     rw [List.range_succ, List.filter_append, List.map_append, List.filter_cons_of_pos q, List.filter_nil]
     rfl
 . have e : i = xs.length := by omega
   subst e
   exact .inl ⟨⟨xs, hq', Nat.le_refl _⟩, fin D H hD sm hDi⟩
end
section
variable {X : Cx}
end
end L2
namespace L2
open PySem PySem.Spec PyProof.Rows
section
variable {X : Cx} {pins : List (Addr × Obj)} {σ : St} {H : Hp} {s : Shared} {h' : Heap}
theorem Inv.turned2 {t' : Nat} {x y : Addr} (I : Inv X pins σ H s) (k : ∀ b o, b ≠ x -> b ≠ y -> s.heap.get? b = some o -> h'.get? b = some o) (fx : FpOk X pins H x) (fy : FpOk X pins H y) : Inv X pins σ H { s with heap := h', toks := t' } := by
 have nx : ∀ b u, H b = some u -> b ≠ x := fun b u e z => by rw [z, fx.1] at e; cases e
 have ny : ∀ b u, H b = some u -> b ≠ y := fun b u e z => by rw [z, fy.1] at e; cases e
 have kk : ∀ b o, b ∉ [x, y] -> s.heap.get? b = some o -> h'.get? b = some o := fun b o hc e => k b o (fun z => hc (by simp [z])) (fun z => hc (by simp [z])) e
 refine I.step (g' := s.gens) (d' := s.drawn) (ch := [x, y]) (fun b hb => ?_) (fun b o _ _ hc e _ => kk b o hc e) (fun b o _ _ hc e _ => ⟨o.slots, kk b o hc e⟩) (fun _ _ _ _ n => n)
  (fun b o hc e => ⟨o, kk b o hc e⟩) (fun _ _ e => e) (fun _ _ _ e => e) (fun b ps e => ⟨#[], by rw [e]; simp⟩) (fun m hm => ?_) (fun b u e => ?_) I.bare
 . have e : b = x \/ b = y := by simpa using hb
   rcases e with rfl | rfl
   . exact ⟨fx.2.2.2.1, fx.2.1, fx.2.2.2.2.1, fx.2.2.2.2.2⟩
   . exact ⟨fy.2.2.2.1, fy.2.1, fy.2.2.2.2.1, fy.2.2.2.2.2⟩
 . obtain ⟨o, es, ep, ho, r⟩ := hm
   exact ⟨o, es, ep, k _ o (Ne.symm fx.2.1) (Ne.symm fy.2.1) ho, r⟩
 . refine (I.hok b u e).stay (fun c v hc q => ?_) (fun _ q => q) fun _ _ q => q
   rcases hc with z | z
   . subst z; exact k c v (nx c u e) (ny c u e) q
   . exact k c v (nx c _ z) (ny c _ z) q
theorem Inv.adopt {T : Addr} {o : HO} (I : Inv X pins σ H s) (f : FpOk X pins H T) (new : ObjOk X.prog X.w (upd H T o) s.heap T o) : Inv X pins σ (upd H T o) s := by
 have nT : ∀ b u, H b = some u -> b ≠ T := fun b u e z => by rw [z, f.1] at e; cases e
 have up : ∀ b u, H b = some u -> upd H T o b = some u := fun b u e => by rw [upd_ne (nT b u e)]; exact e
 refine I.step (h' := s.heap) (H' := upd H T o) (g' := s.gens) (d' := s.drawn) (t' := s.toks) (ch := [T]) (fun b hb => ?_) (fun b o _ _ _ e _ => e) (fun b o _ _ _ e _ => ⟨o.slots, e⟩) (fun b o hc _ n => by rw [upd_ne (fun z => hc (by simp [z]))]; exact n)
  (fun b o _ e => ⟨o, e⟩) (fun b xs e => up _ _ e) (fun b o u e => up _ _ e) (fun b ps e => ⟨#[], by rw [up _ _ e]; simp⟩) (fun m hm => hm) (fun b u e => ?_) I.bare
 . have e : b = T := by simpa using hb
   subst e
   exact ⟨f.2.2.2.1, f.2.1, f.2.2.2.2.1, f.2.2.2.2.2⟩
 . by_cases hb : b = T
   . subst hb; rw [upd_same] at e; cases e; exact new
   . rw [upd_ne hb] at e
     exact (I.hok b u e).stay (fun c v _ q => q) (fun c q => up _ _ q) fun c xs q => up _ _ q
end
def Ite (K : W.Frag) (a : Addr) : It :=
 ⟨fun i H => ∃ xs x, SqL K H a xs /\ xs[i]? = some x, fun i H v H' => ∃ T x, v = .ref T /\ H T = none /\ H' = upd H T (.tup [.int (i : Nat), x]) /\ ∀ xs, SqL K H a xs -> xs[i]? = some x, fun i H => ∃ xs, SqL K H a xs /\ xs.length <= i⟩
theorem turn_enum {P : Program} {w : World} {K : W.Frag} {elts : List Expr} {k : Nat} {pos : Pos} (a e it : Addr) (hne : e ≠ it) :
 Turn P w K (.Tuple elts k pos) (Ite K a) [e, it] e (fun i h => (∃ old, IsEnum h e it ((i : Nat) : Int) old) /\ h.IsListIter it a i) where
 mem := by simp
 obj := fun i h st b hb => by
  obtain ⟨⟨old, he⟩, hit⟩ := st
  have q : b = e \/ b = it := by simpa using hb
  rcases q with rfl | rfl
  . exact ⟨_, he, fun v z => by
     have z' : Data.fields _ = Data.cell v := z
     cases z'⟩
  . obtain ⟨o, e, c, d⟩ := hit
    exact ⟨o, e, fun v z => by rw [d] at z; cases z⟩
 keep := fun i h h' st kk => ⟨let ⟨old, he⟩ := st.1; ⟨old, kk e (by simp) _ he⟩, st.2.at fun o q => kk it (by simp) o q⟩
 item := by
  intro X hP hw hK hc i pins s σ H E I hf st hg
  subst hP hw hK
  obtain ⟨⟨old, he⟩, hit⟩ := st
  obtain ⟨xs, x, hq, hx⟩ := hg
  obtain ⟨its, rv, p, hz⟩ := I.list hq
  obtain ⟨u, hu, ru⟩ := rv.get hx
  have fe := hf e (by simp)
  have fi := hf it (by simp)
  have le : e < s.heap.objs.size := Heap.lt_size he
  have li : it < s.heap.objs.size := by obtain ⟨o, q, _⟩ := id hit; exact Heap.lt_size q
  have fT : FpOk X pins H s.heap.objs.size := I.fpOk (Nat.le_refl _) (I.hok.fresh (Nat.le_refl _))
  refine wpAny_pyNext_enum_item he hit p.isList (x := u) (by simpa using hu) hne fun h1 ho hit1 hT hsz hk => ?_
  refine ⟨_, rfl, wpAny_letOwnedTupleGo_enum ho fun h2 he2 hs2 => ?_⟩
  replace hs2 : Heap.SameBut e h1 h2 := hs2
  have I1 : Inv X pins σ H { s with heap := h2, toks := s.toks + 1 } := I.turned2 (t' := s.toks + 1) (fun b o n1 n2 q => (hs2.2 b n1).trans (hk b o n1 n2 q)) fe fi
  have gT : h2.get? s.heap.objs.size = some { cls := .type "tuple", data := .seq #[.int i s.toks, u] } := (hs2.2 _ (Nat.ne_of_gt le)).trans hT
  have I2 : Inv X pins σ (upd H s.heap.objs.size (.tup [.int (i : Nat), x])) { s with heap := h2, toks := s.toks + 1 } :=
   I1.adopt fT ⟨(by show 2 <= sizeLine; decide), [.int i s.toks, u], .cons ⟨_, rfl⟩ (.cons ru .nil), ⟨_, gT, rfl, _, rfl⟩⟩
  refine ⟨.ref s.heap.objs.size, _, I2, rfl, ⟨_, x, rfl, fT.1, rfl, fun ys hy => by rw [I.list_inj hy hq]; exact hx⟩, ⟨⟨u, ?_⟩, ?_⟩, fun b hb => ?_⟩
  . have e1 : ((i + 1 : Nat) : Int) = (i : Int) + 1 := by push_cast; rfl
    rw [e1]; exact he2
  . exact hit1.at fun o q => (hs2.2 it (Ne.symm hne)).trans q
  . have q : b = e \/ b = it := by simpa using hb
    rw [upd_ne (fun z => by rcases q with q | q; exact Nat.ne_of_lt le (q.symm.trans z); exact Nat.ne_of_lt li (q.symm.trans z))]
    exact (hf b hb).1
 done := by
  intro X hP hw hK hc i pins s σ H E I hf st hg
  subst hP hw hK
  obtain ⟨⟨old, he⟩, hit⟩ := st
  obtain ⟨xs, hq, hx⟩ := hg
  obtain ⟨its, rv, p, hz⟩ := I.list hq
  obtain ⟨f0, f1, f2, f3, f4, f5⟩ := hf it (by simp)
  have hl := rv.length
  exact wpAny_pyNext_enum_end (I.ok.hd hc) he hit p.isList (by simp; omega) fun h' eb => ⟨rfl, I.turned (t' := s.toks) (fun b o hb e => eb b o hb e) f0 f1 f3 f4 f5⟩
 self := fun _ _ _ _ _ st h => let ⟨_, he⟩ := st.1; wpAny_pyIter_enum he h
section
variable {X : Cx}
theorem bt_enumerate : bootBuiltins "enumerate" = some (.type "enumerate") := by decide +kernel
def iEnum (K : W.Frag) (ta : TA) : TI := fun σ H R => ta σ H fun vs H1 => ∃ a, vs = [.ref a] /\ (∃ xs, SqL K H1 a xs) /\ R (Ite K a) H1
theorem pi_enum {l : Expr} {ta : TA} {p pos tpos : Pos} {elts : List Expr} {k : Nat} (hg : Gl X "enumerate") (hm : X.mg "enumerate" = none) (ha : PA X [l] ta) (hs : starEach [l] X.env = [(false, eval l X.env)] := by rfl) :
 PI X (.Tuple elts k tpos) (.Call (.Name "enumerate" p) [l] [] pos) (iEnum X.K ta) := by
 intro pins s σ H R I h
 refine Call_ (ld_blt I hg hm bt_enumerate (PyProof.Rows.callWith_type1 (thn (ha pos pins s σ H _ I h) fun us s1 ⟨vs, H1, I1, r1, q1⟩ => ?_) hs rfl))
 obtain ⟨a, e, ⟨xs, hq⟩, q⟩ := q1
 subst e
 cases r1 with
 | cons r rr =>
   cases rr
   cases r
   obtain ⟨its, rv, pl, hz⟩ := I1.list hq
   refine call_enumerate_list pl.isList fun h' he hit hsz hk => ?_
   refine wpAny_pyIter_enum he ?_
   refine ⟨s1.heap.objs.size + 1, [s1.heap.objs.size + 1, s1.heap.objs.size], _, _, H1, rfl, I1.kept (t' := s1.toks) fun b o e => hk b o e, turn_enum a _ _ (Nat.ne_of_gt (Nat.lt_succ_self _)), ⟨⟨_, he⟩, hit⟩, fun b hb => ?_, q⟩
   have e : b = s1.heap.objs.size + 1 \/ b = s1.heap.objs.size := by simpa using hb
   have e2 : s1.heap.objs.size <= b := by rcases e with e | e; exact e ▸ Nat.le_succ _; exact e ▸ Nat.le_refl _
   exact I1.fpOk e2 (I1.hok.fresh e2)
end
theorem for_enum {K : W.Frag} {a : Addr} {xs : List V} {g : TG} {tb : TS} {D : Ends} {σ : St} {H : Hp} (Pv : Nat -> St -> Hp -> Prop) (h0 : Pv 0 σ H) (hl : ∀ i σ H, i <= xs.length -> Pv i σ H -> SqL K H a xs)
 (hs : ∀ i x σ H, xs[i]? = some x -> Pv i σ H -> ∀ T, H T = none -> g (.ref T) σ (upd H T (.tup [nat i, x])) fun σ2 H2 => tb { D with nx := Pv (i + 1), ct := Pv (i + 1), bk := D.nx } σ2 H2) (hd : ∀ σ H, Pv xs.length σ H -> D.nx σ H) :
 ∃ W : Nat -> Nat -> St -> Hp -> Prop, (∃ m, W 0 m σ H) /\ ∀ i m σ H, W i m σ H ->
   ((Ite K a).stop i H /\ D.nx σ H) \/ ((Ite K a).go i H /\ ∃ N : St -> Hp -> Prop, (∀ σ' H', N σ' H' -> ∃ m', m' < m /\ W (i + 1) m' σ' H') /\ ∀ x H', (Ite K a).yld i H x H' -> g x σ H' fun σ2 H2 => tb { D with nx := N, ct := N, bk := D.nx } σ2 H2) := by
 refine ⟨fun i m σ H => m = xs.length - i /\ i <= xs.length /\ Pv i σ H, ⟨xs.length, by simp, Nat.zero_le _, h0⟩, ?_⟩
 rintro i m σ H ⟨rfl, hi, p⟩
 have q := hl i σ H hi p
 by_cases hlt : i < xs.length
 . refine .inr ⟨⟨xs, xs[i], q, by simp [hlt]⟩, Pv (i + 1), fun σ' H' p' => ⟨xs.length - (i + 1), by omega, rfl, hlt, p'⟩, fun x H' y => ?_⟩
   obtain ⟨T, v, rfl, hT, rfl, hv⟩ := y
   exact hs i v σ H (hv xs q) p T hT
 . have : i = xs.length := by omega
   subst this
   exact .inl ⟨⟨xs, q, Nat.le_refl _⟩, hd σ H p⟩
end L2
namespace L2
open PySem PySem.Spec PyProof.Rows
structure TsAt (H : Hp) (ps : List Addr) (xss : List (List V)) : Prop where
 len : ps.length = xss.length
 at_ : ∀ (i : Nat) p xs, ps[i]? = some p -> xss[i]? = some xs -> H p = some (.tup xs)
theorem TsAt.keep {H H' : Hp} {ps : List Addr} {xss : List (List V)} (h : TsAt H ps xss) (s : ∀ p xs, p ∈ ps -> H p = some (.tup xs) -> H' p = some (.tup xs)) : TsAt H' ps xss := ⟨h.len, fun i p xs a b => s _ _ (List.mem_of_getElem? a) (h.at_ i p xs a b)⟩
theorem TsAt.same {H H' : Hp} {ps : List Addr} {xss : List (List V)} (h : TsAt H ps xss) (s : Same H H') : TsAt H' ps xss := h.keep fun _ _ _ e => s _ _ e
theorem TsAt.nil {H : Hp} : TsAt H [] [] := ⟨rfl, fun i p r h1 h2 => by cases h1⟩
theorem TsAt.snoc {H : Hp} {ps : List Addr} {xss : List (List V)} (h : TsAt H ps xss) {t : Addr} {r : List V} (ht : H t = some (.tup r)) : TsAt H (ps ++ [t]) (xss ++ [r]) := by
 refine ⟨by rw [List.length_append, List.length_append, h.len]; rfl, fun i p q a b => ?_⟩
 by_cases c : i < ps.length
 . rw [List.getElem?_append_left c] at a
   rw [List.getElem?_append_left (by rw [<- h.len]; exact c)] at b
   exact h.at_ i p q a b
 . have hi : i = ps.length := by
    have := (List.getElem?_eq_some_iff.mp a).1
    rw [List.length_append] at this
    have e1 : [t].length = 1 := rfl
    omega
   subst hi
   rw [List.getElem?_append_right (Nat.le_refl _), Nat.sub_self] at a
   rw [h.len, List.getElem?_append_right (Nat.le_refl _), Nat.sub_self] at b
   cases Option.some.inj a
   cases Option.some.inj b
   exact ht
theorem TsAt.get {H : Hp} {ps : List Addr} {xss : List (List V)} (h : TsAt H ps xss) {i : Nat} {xs : List V} (hx : xss[i]? = some xs) : ∃ p, ps[i]? = some p /\ H p = some (.tup xs) := by
 have hi : i < ps.length := by rw [h.len]; exact (List.getElem?_eq_some_iff.mp hx).1
 exact ⟨ps[i], List.getElem?_eq_getElem hi, h.at_ i _ _ (List.getElem?_eq_getElem hi) hx⟩
theorem eqV_self {x : V} (h : flatV x = true) : eqV x x = true := by
 cases x with
 | non => rfl
 | bl b => show (b == b) = true; simp
 | int i => show (i == i) = true; simp
 | str z => show (z == z) = true; simp
 | _ => exact absurd (show false = true from h) Bool.false_ne_true
theorem eqVs_self : ∀ {xs : List V}, xs.all flatV = true -> eqVs xs xs = true
 | [], _ => rfl
 | x :: xs, h => by
   rw [List.all_cons, Bool.and_eq_true] at h
   show (eqV x x && eqVs xs xs) = true
   rw [eqV_self h.1, eqVs_self h.2]; rfl
def eqT (H : Hp) (xs : List V) (a : Addr) : Bool := match H a with
 | some (.tup ys) => eqVs ys xs
 | _ => false
theorem any_eqT {H : Hp} {xs : List V} : ∀ {ps : List Addr} {xss : List (List V)}, TsAt H ps xss -> ps.any (eqT H xs) = xss.any fun ys => eqVs ys xs
 | [], [], _ => rfl
 | [], _ :: _, h => by have := h.len; cases this
 | _ :: _, [], h => by have := h.len; cases this
 | p :: ps, ys :: xss, h => by
   have h1 : H p = some (.tup ys) := h.at_ 0 p ys rfl rfl
   have h2 : TsAt H ps xss := ⟨by have := h.len; simpa using this, fun i q zs a b => h.at_ (i + 1) q zs (by simpa using a) (by simpa using b)⟩
   rw [List.any_cons, List.any_cons, any_eqT h2]
   congr 1
   unfold eqT
   rw [h1]
section
variable {X : Cx}
def rInTs (K : W.Frag) (neg : Bool) : R2 := fun x y H Q => ∃ t p ps xs xss, x = .ref t /\ y = .ref p /\ H t = some (.tup xs) /\ SqL K H p (ps.map V.ref) /\ TsAt H ps xss /\ xs.all flatV = true /\ (∀ ys ∈ xss, ys.all flatV = true) /\
 Q (.bl (if neg then !(xss.any fun ys => eqVs ys xs) else xss.any fun ys => eqVs ys xs)) H
theorem eqT_at {pins : List (Addr × Obj)} {σ : St} {H : Hp} {s : Shared} (I : Inv X pins σ H s) (hu1 : X.A.units + 1 < cLine) {t : Addr} {ps : List Addr} {xs : List V} {xss : List (List V)} (ht : H t = some (.tup xs)) (ts : TsAt H ps xss) (fx : xs.all flatV = true) (fs : ∀ ys ∈ xss, ys.all flatV = true) :
 ∀ a ∈ ps, SeqAt.EqAt X.A.in1 s (.ref a) (.ref t) (eqT H xs a) := by
 intro a ha
 obtain ⟨i, hi⟩ := List.getElem?_of_mem ha
 have hl : i < xss.length := by rw [<- ts.len]; exact (List.getElem?_eq_some_iff.mp hi).1
 have h1 := ts.at_ i a _ hi (List.getElem?_eq_getElem hl)
 have f1 := fs _ (List.getElem_mem hl)
 generalize xss[i] = ys at h1 f1
 by_cases e : a = t
 . subst e
   have : eqT H xs a = true := by unfold eqT; rw [ht]; exact eqVs_self fx
   rw [this]; exact SeqAt.EqAt.same _
 . have he : eqT H xs a = eqVs ys xs := by unfold eqT; rw [h1]
   rw [he]
   obtain ⟨u1, v1, m1, _⟩ := I.tuple (SqT.of (K := X.K) h1)
   obtain ⟨u2, v2, m2, _⟩ := I.tuple (SqT.of (K := X.K) ht)
   have l1 := v1.length
   have l2 := v2.length
   have rc := SeqAt.RcAt.tuples (A := X.A.in1) (e := eAt ys xs) m1 m2 (by rw [Around.in1_units]; exact hu1) (fun i k1 k2 => eAt_at v1 v2 f1 fx i k1 k2)
   rw [List.size_toArray, List.size_toArray, <- l1, <- l2, eAt_allT] at rc
   exact SeqAt.EqAt.of_refs e rc
theorem op_notIn_ts (hu1 : X.A.units + 1 < cLine) : OpR X (compareOp .NotIn) (rInTs X.K true) := by
 intro pins s σ H x y v u Q I rx ry h
 obtain ⟨t, p, ps, xs, xss, rfl, rfl, ht, hp, ts, fx, fs, q⟩ := h
 cases rx
 cases ry
 obtain ⟨us, r1, p1, _⟩ := I.list hp
 have e1 := vals_refs r1
 subst e1
 refine SeqAt.notIn_listAt (fun u => match u with
  | .ref a => eqT H xs a
  | _ => false) p1.isList (fun w hw => ?_) ⟨.bl _, H, I, rfl, ?_⟩
 . have hw' : w ∈ ps.map Value.ref := by simpa using hw
   obtain ⟨a, ha, rfl⟩ := List.mem_map.mp hw'
   exact eqT_at I hu1 ht ts fx fs a ha
 . rw [show ((ps.map Value.ref).toArray.any fun u => match u with
    | .ref a => eqT H xs a
    | _ => false) = ps.any (eqT H xs) by simp [List.any_map, Function.comp_def], any_eqT ts]
   exact q
end
theorem comp_rangeF0 {fv : List (Str × Nat)} {σ : St} {tc : TTB} {te : TEB} {n : Nat} {H1 : Hp} {Q : VK} (p : Nat -> Bool) (f : Nat -> V) (hn : n <= sizeLine)
 (ct : ∀ (i : Nat) (H' : Hp) (R : Bool -> Hp -> Prop), i < n -> Same H1 H' -> (∀ H2, Same H' H2 -> R (p i) H2) -> ∀ s₀ H₀ ex, tc s₀ H₀ ex (blkS fv σ (some (nat i))) H' R)
 (el : ∀ (i : Nat) (H' : Hp) (R : VK), i < n -> p i = true -> Same H1 H' -> (∀ H2, Same H' H2 -> R (f i) H2) -> ∀ s₀ H₀ ex, te s₀ H₀ ex (blkS fv σ (some (nat i))) H' R)
 (fin : ∀ D H2, H1 D = none -> Same H1 H2 -> H2 D = some (.lst (((List.range n).filter p).map f)) -> Q (.ref D) H2) : tCompF fv tc te σ (Itr 0 n) H1 Q :=
 comp_rangeF p f hn (fun i H' R hi sm kk => by rw [Int.zero_add]; exact ct i H' R hi sm kk) (fun i H' R hi pi sm kk => by rw [Int.zero_add]; exact el i H' R hi pi sm kk) fin
end L2
namespace L2
open PySem PySem.Spec PyProof.Rows
section
variable {X : Cx} {x : Str} {C : Addr} {k j : Nat} {ps : List Str} {sp : Sp} {CX : CXT} {p pos : Pos}
theorem pe_makeD0 (D : CDef X.prog X.w X.K X.mg X.base CX x C k ps sp) (hE : NoE CX) (hr : Room j X.A) (hg : Gl X x) (hj : k + 1 <= j := by decide) (hdb : (x == ("__debug__" : Str)) = false := by decide) :
 PE X (.Call (.Name x p) [] [] pos) (tMake C sp [] E0 tNil) := by
 obtain ⟨f, fd, hm, M, hb, F⟩ := D.ex
 exact pe_make0 M F (hr.mono hj) hg hm hb .nil hE.pass hdb
end
end L2
namespace L2
open PySem PySem.Spec PyProof.Rows
section
variable {X : Cx}
end
end L2
namespace L2
open PySem
abbrev Rise (xs : List Nat) : Prop := xs.Pairwise (· < ·)
end L2
namespace L2
open PySem
theorem fmS (v : Nat) (r : List (Option Nat)) : (some v :: r).filterMap id = v :: r.filterMap id := rfl
theorem fmN (r : List (Option Nat)) : (none :: r).filterMap id = r.filterMap id := rfl
end L2
namespace L2
open PySem
end L2
namespace L2
open PySem
structure TOK (t : SetTable) (n : Nat) (led : Bool) : Prop where
 ms : t.mask = 7 \/ t.mask = 31 \/ t.mask = 127
 du : t.dummies = #[]
 pl : t.plain = true
 ld : t.led = led
 ri : Rise t.place.toList
 sz : t.place.size = n
 fu : n * 5 < t.mask * 3
end L2
namespace L2
open PySem
end L2
namespace L2
open PySem PySem.Spec PyProof.Rows
def Small (es : Array (Int × Value)) : Prop := ∀ e ∈ es.toList, ∃ (m : Nat) (tk : Tok), e = ((m : Int), Value.int (m : Int) tk) /\ m < 64
def SetW (h : Heap) (a : Addr) (ks : List Nat) (led : Bool) : Prop :=
 ∃ (o : Obj) (es : Array (Int × Value)) (ep : Nat) (t : SetTable), h.get? a = some o /\ o.ExactSet /\ o.data = .set es ep t /\ TOK t es.size led /\ Small es /\ (es.toList.map (·.1)).Perm (ks.map fun (k : Nat) => (k : Int)) /\ ks.Nodup
section
variable {prog : Program} {w : World} {A : Around} {E : Value -> Shared -> Prop} {s : Shared}
end
end L2
namespace L2
open PySem PySem.Spec PyProof.Rows
section
variable {prog : Program} {w : World} {A : Around} {R : Result -> Shared -> Prop} {I : Addr} {fp wr : List Addr} {G : Array GenState -> Array GenState -> Prop} {n : Nat} {P : Nat -> Value -> Prop} {St : Nat -> Shared -> Prop}
end
end L2
namespace L2
open PySem PySem.Spec PyProof.Rows
section
variable {prog : Program} {w : World} {A : Around} {E : Value -> Shared -> Prop} {s : Shared}
end
end L2
namespace L2
open PySem PySem.Spec PyProof.Rows
section
variable {prog : Program} {w : World} {A : Around} {E : Value -> Shared -> Prop} {s : Shared} {a : Addr} {o : Obj} {es : Array (Int × Value)} {ep : Nat} {t : SetTable}
end
end L2
namespace L2
open PySem PySem.Spec PyProof.Rows
section
variable {prog : Program} {w : World} {A : Around} {E : Value -> Shared -> Prop} {s : Shared} {a I : Addr} {o : Obj} {es : Array (Int × Value)} {ep : Nat} {t : SetTable}
end
end L2
namespace L2
open PySem PySem.Spec PyProof.Rows
def SetO (w : World) (a : Addr) (ks : List Nat) : HO := .ext fun h => SetW h a ks (!w.params.followText "set-order")
section
variable {X : Cx}
end
end L2
namespace L2
open PySem PySem.Spec PyProof.Rows
section
variable {X : Cx}
end
end L2
namespace L2
open PySem PySem.Spec PyProof.Rows
section
variable {prog : Program} {w : World} {A : Around} {R : Result -> Shared -> Prop} {I : Addr} {fp wr : List Addr} {G : Array GenState -> Array GenState -> Prop} {n : Nat} {P : Nat -> Value -> Prop} {St : Nat -> Shared -> Prop}
end
section
variable {prog : Program} {w : World} {A : Around} {E : Value -> Shared -> Prop} {s : Shared}
end
section
variable {X : Cx} {te ts : TE} {e st : Expr} {p pos kp : Pos}
end
end L2
local macro_rules | `(tactic| walk_at "ns") => `(tactic| try dsimp only [List.set_cons_zero, List.set_cons_succ, _root_.L2.start, _root_.L2.gName, List.map_cons, List.map_nil, List.length_cons, List.length_nil, List.replicate_succ, List.replicate_zero, List.cons_append, List.nil_append, Nat.reduceSub, Nat.reduceAdd])
namespace Prf
open PySem L2 Kin
def top (i : Nat) : PySem.Stmt := PySem.Challenge.pw_kinturns_k13_whole_by_how_many_ways.main.body.getD i (.Pass ⟨0, 0, 0, 0⟩)
structure Ad where
 Za : Addr
 Zb : Addr
 Zc : Addr
 Zd : Addr
 Zf : Addr
 Zg : Addr
 Zh : Addr
 Book : Addr
structure Txt (K : W.Frag) (mg : Str -> Option Value) (C : Addr) (e : Ad) : Prop where
 m_Book : mg "Book" = some (.ref e.Book)
 cl_Book : Cls K e.Book
 n_sexes : NoAttr K e.Book "sexes"
 n_fathers : NoAttr K e.Book "fathers"
 n_mothers : NoAttr K e.Book "mothers"
 n_partner_lists : NoAttr K e.Book "partner_lists"
 m_Table : mg "Table" = some (.ref C)
 cl_Table : Cls K C
 n_wife_turn : NoAttr K C "wife_turn"
 n_heir_turn : NoAttr K C "heir_turn"
 n_husband_turn : NoAttr K C "husband_turn"
 n_father_turn : NoAttr K C "father_turn"
 z_ValueError : mg "ValueError" = none
 z_bool : mg "bool" = none
 z_enumerate : mg "enumerate" = none
 z_int : mg "int" = none
 z_isinstance : mg "isinstance" = none
 z_len : mg "len" = none
 z_list : mg "list" = none
 z_range : mg "range" = none
 z_sorted : mg "sorted" = none
 g_LETTERS : ∃ u, mg "LETTERS" = some u /\ RelV (.str "fmsdpbz") u
 g_LETTERS_TO_MEN : ∃ u, mg "LETTERS_TO_MEN" = some u /\ RelV (.str "fsb") u
 g_MOST_LETTERS : ∃ u, mg "MOST_LETTERS" = some u /\ RelV (.int 60) u
 g_LETTERS_THAT_HANG : ∃ u, mg "LETTERS_THAT_HANG" = some u /\ RelV (.str "fmpsd") u
 g_MOST_PERSONS : ∃ u, mg "MOST_PERSONS" = some u /\ RelV (.int 60) u
 g_MOST_CLASSES : ∃ u, mg "MOST_CLASSES" = some u /\ RelV (.int 8) u
 kd : W.specialIn K (.builtin "object.__class__") "__get__" = some (some (.builtin "getset_descriptor.__get__")) /\ W.takesIn K (.builtin "object.__class__") = some true
 m_Za : mg "KinError" = some (.ref e.Za)
 m_Zb : mg "NoTable" = some (.ref e.Zb)
 x_Zb : W.excIn K e.Zb bmVE "ValueError.__new__" = true
 c_Zb : ExcCls K e.Zb
 w_Zb : W.exmOne K (.ref e.Zb) (.ref e.Za) = some true
 v_Zb : W.kitOne K (.ref e.Zb) (.type "ValueError") = some true
 k_Zb_Zb : W.kitOne K (.ref e.Zb) (.ref e.Zb) = some true
 k_Zb_Zc : W.kitOne K (.ref e.Zb) (.ref e.Zc) = some false
 k_Zb_Zd : W.kitOne K (.ref e.Zb) (.ref e.Zd) = some false
 k_Zb_Zf : W.kitOne K (.ref e.Zb) (.ref e.Zf) = some false
 k_Zb_Zg : W.kitOne K (.ref e.Zb) (.ref e.Zg) = some false
 k_Zb_Zh : W.kitOne K (.ref e.Zb) (.ref e.Zh) = some false
 m_Zc : mg "NoClass" = some (.ref e.Zc)
 x_Zc : W.excIn K e.Zc bmVE "ValueError.__new__" = true
 c_Zc : ExcCls K e.Zc
 w_Zc : W.exmOne K (.ref e.Zc) (.ref e.Za) = some true
 v_Zc : W.kitOne K (.ref e.Zc) (.type "ValueError") = some true
 k_Zc_Zb : W.kitOne K (.ref e.Zc) (.ref e.Zb) = some false
 k_Zc_Zc : W.kitOne K (.ref e.Zc) (.ref e.Zc) = some true
 k_Zc_Zd : W.kitOne K (.ref e.Zc) (.ref e.Zd) = some false
 k_Zc_Zf : W.kitOne K (.ref e.Zc) (.ref e.Zf) = some false
 k_Zc_Zg : W.kitOne K (.ref e.Zc) (.ref e.Zg) = some false
 k_Zc_Zh : W.kitOne K (.ref e.Zc) (.ref e.Zh) = some false
 m_Zd : mg "NoWalk" = some (.ref e.Zd)
 x_Zd : W.excIn K e.Zd bmVE "ValueError.__new__" = true
 c_Zd : ExcCls K e.Zd
 w_Zd : W.exmOne K (.ref e.Zd) (.ref e.Za) = some true
 v_Zd : W.kitOne K (.ref e.Zd) (.type "ValueError") = some true
 k_Zd_Zb : W.kitOne K (.ref e.Zd) (.ref e.Zb) = some false
 k_Zd_Zc : W.kitOne K (.ref e.Zd) (.ref e.Zc) = some false
 k_Zd_Zd : W.kitOne K (.ref e.Zd) (.ref e.Zd) = some true
 k_Zd_Zf : W.kitOne K (.ref e.Zd) (.ref e.Zf) = some false
 k_Zd_Zg : W.kitOne K (.ref e.Zd) (.ref e.Zg) = some false
 k_Zd_Zh : W.kitOne K (.ref e.Zd) (.ref e.Zh) = some false
 m_Zf : mg "NoPerson" = some (.ref e.Zf)
 x_Zf : W.excIn K e.Zf bmVE "ValueError.__new__" = true
 c_Zf : ExcCls K e.Zf
 w_Zf : W.exmOne K (.ref e.Zf) (.ref e.Za) = some true
 v_Zf : W.kitOne K (.ref e.Zf) (.type "ValueError") = some true
 k_Zf_Zb : W.kitOne K (.ref e.Zf) (.ref e.Zb) = some false
 k_Zf_Zc : W.kitOne K (.ref e.Zf) (.ref e.Zc) = some false
 k_Zf_Zd : W.kitOne K (.ref e.Zf) (.ref e.Zd) = some false
 k_Zf_Zf : W.kitOne K (.ref e.Zf) (.ref e.Zf) = some true
 k_Zf_Zg : W.kitOne K (.ref e.Zf) (.ref e.Zg) = some false
 k_Zf_Zh : W.kitOne K (.ref e.Zf) (.ref e.Zh) = some false
 m_Zg : mg "NoParents" = some (.ref e.Zg)
 x_Zg : W.excIn K e.Zg bmVE "ValueError.__new__" = true
 c_Zg : ExcCls K e.Zg
 w_Zg : W.exmOne K (.ref e.Zg) (.ref e.Za) = some true
 v_Zg : W.kitOne K (.ref e.Zg) (.type "ValueError") = some true
 k_Zg_Zb : W.kitOne K (.ref e.Zg) (.ref e.Zb) = some false
 k_Zg_Zc : W.kitOne K (.ref e.Zg) (.ref e.Zc) = some false
 k_Zg_Zd : W.kitOne K (.ref e.Zg) (.ref e.Zd) = some false
 k_Zg_Zf : W.kitOne K (.ref e.Zg) (.ref e.Zf) = some false
 k_Zg_Zg : W.kitOne K (.ref e.Zg) (.ref e.Zg) = some true
 k_Zg_Zh : W.kitOne K (.ref e.Zg) (.ref e.Zh) = some false
 m_Zh : mg "TooMany" = some (.ref e.Zh)
 x_Zh : W.excIn K e.Zh bmVE "ValueError.__new__" = true
 c_Zh : ExcCls K e.Zh
 w_Zh : W.exmOne K (.ref e.Zh) (.ref e.Za) = some true
 v_Zh : W.kitOne K (.ref e.Zh) (.type "ValueError") = some true
 k_Zh_Zb : W.kitOne K (.ref e.Zh) (.ref e.Zb) = some false
 k_Zh_Zc : W.kitOne K (.ref e.Zh) (.ref e.Zc) = some false
 k_Zh_Zd : W.kitOne K (.ref e.Zh) (.ref e.Zd) = some false
 k_Zh_Zf : W.kitOne K (.ref e.Zh) (.ref e.Zf) = some false
 k_Zh_Zg : W.kitOne K (.ref e.Zh) (.ref e.Zg) = some false
 k_Zh_Zh : W.kitOne K (.ref e.Zh) (.ref e.Zh) = some true
def sexS (m : Bool) : Str := if m then "man" else "woman"
abbrev sexV (m : Bool) : V := .str (sexS m)
def pairV (s : Bool × Nat) : List V := [sexV s.1, nat s.2]
theorem sex_man (m : Bool) : decide (sexV m = V.str "man") = m := by cases m <;> decide +kernel
theorem sex_woman (m : Bool) : decide (sexV m = V.str "woman") = !m := by cases m <;> decide +kernel
theorem emod_nat (z : Int) {k : Nat} (hk : 0 < k) : ∃ q : Nat, z % (k : Int) = (q : Int) /\ q < k :=
 ⟨(z % (k : Int)).toNat, by have := Int.emod_nonneg z (show (k : Int) ≠ 0 by omega); omega, by have := Int.emod_lt_of_pos z (show (0 : Int) < k by omega); have := Int.emod_nonneg z (show (k : Int) ≠ 0 by omega); omega⟩
theorem pick_sex (q : Int) (h0 : 0 <= q) (h2 : q < 2) : ∃ m, atI [V.str "man", V.str "woman"] q = some (sexV m) := by
 have h : q = 0 \/ q = 1 := by omega
 rcases h with rfl | rfl
 . exact ⟨true, rfl⟩
 . exact ⟨false, rfl⟩
abbrev InC (n : Nat) (c : Int) : Prop := 0 <= c /\ c < (n : Int)
theorem log_small {n : Nat} (h : n < 10 ^ 9) : n.log2 < 1920 := by
 by_cases z : n = 0
 . subst z; decide
 . exact (Nat.log2_lt z).mpr (Nat.lt_trans h (Nat.lt_of_lt_of_le (by decide : 10 ^ 9 < 2 ^ 30) (Nat.pow_le_pow_right (by decide) (by decide))))
theorem sIx_natN (n d k : Nat) (hk : k <= n) : HT.sIx n d (some (k : Int)) = k := by
 unfold HT.sIx
 simp only
 split <;> omega
theorem cut_dropN (xs : List V) (k : Nat) (hk : k <= xs.length) : cutV xs (some (k : Int)) none = xs.drop k := by
 unfold cutV
 rw [sIx_natN _ _ _ hk, show HT.sIx xs.length xs.length none = xs.length from rfl]
 exact List.take_of_length_le (by rw [List.length_drop]; exact Nat.le_refl _)
def rSlW (K : W.Frag) : V -> Option Int -> Option Int -> Hp -> VK -> Prop := fun x lo hi H Q => ∃ a xs, x = .ref a /\ SqT K H a xs /\ (HT.sIx xs.length 0 lo = 0 /\ HT.sIx xs.length xs.length hi = xs.length) /\ Q (.ref a) H
open PySem.Spec PyProof.Rows in
theorem sl_tupW {X : Cx} : SlR X (rSlW X.K) := by
 intro pins s σ H x v vl vu lo hi sl Q I rx hs pl pu h
 obtain ⟨a, xs, rfl, hx, hw, q⟩ := h
 cases rx
 obtain ⟨its, r, ht, hz⟩ := I.tuple hx
 have hlen : its.toArray.size = xs.length := by rw [List.size_toArray]; exact r.length.symm
 rw [<- hlen] at hw
 obtain ⟨os, hos, hcs, hds⟩ := id hs
 have hTs : s.TypeIs (.ref sl) "slice" := ⟨os, hos, hcs⟩
 refine ⟨"tuple", _, PyProof.Rows.slot_tuple_getitem.lookup, ht.typeIs, ?_⟩
 unfold getItem
 try with_reducible refine wpAny_holding ?_
 first | refine wpAny_bind (wpAny_pure ?_) | skip
 refine wpAny_bind (wpAny_sequenceKey ht.typeIs (by decide) ?_)
 refine wpAny_bind (wpAny_callSpecial?_slot (name := Str.ofString "__getitem__") ht.typeIs PyProof.Rows.slot_tuple_getitem (wpAny_call_entry PyProof.Rows.slot_tuple_getitem ht.typeIs entry_tuple_getitem ?_ (args_tuple_getitem _ _)))
 show wpAny _ _ (Builtin.Tuple.tupleItemsOf (.ref a) >>= _) _ _ s
 refine wpAny_bind (tupleItemsOf_ ht ?_)
 refine wpAny_bind (wpAny_typeOf hTs ?_)
 rw [if_pos (by decide)]
 refine wpAny_bind (HT.sliceApplied_gen hs pl pu ?_)
 have yes : (((HT.sIx its.toArray.size 0 lo : Nat) : Int) == 0 && (1 : Int) == 1 && (HT.sIx its.toArray.size its.toArray.size hi - HT.sIx its.toArray.size 0 lo) == its.toArray.size) = true := by
  rw [hw.1, hw.2]
  simp
 show wpAny _ _ (if (((HT.sIx its.toArray.size 0 lo : Nat) : Int) == 0 && (1 : Int) == 1 && (HT.sIx its.toArray.size its.toArray.size hi - HT.sIx its.toArray.size 0 lo) == its.toArray.size) = true then _ else _) _ _ s
 rw [if_pos yes]
 unfold Builtin.Tuple.tupleIsExact
 refine wpAny_bind (wpAny_bind (wpAny_typeOf ht.typeIs (wpAny_pure ?_)))
 rw [if_pos (by decide)]
 refine wpAny_bind (wpAny_rule ?_)
 first
  | exact wpAny_pure ⟨_, rfl, wpAny_pure ⟨.ref a, H, I, rfl, q⟩⟩
  | exact wpAny_bind (wpAny_pure ⟨_, rfl, wpAny_pure ⟨.ref a, H, I, rfl, q⟩⟩)
  | exact wpAny_bind (wpAny_bind (wpAny_pure ⟨_, rfl, wpAny_pure ⟨.ref a, H, I, rfl, q⟩⟩))
theorem s12 : ¬ (("wife_turn" : Str) = "heir_turn") := by decide +kernel
theorem s13 : ¬ (("wife_turn" : Str) = "husband_turn") := by decide +kernel
theorem s14 : ¬ (("wife_turn" : Str) = "father_turn") := by decide +kernel
theorem s23 : ¬ (("heir_turn" : Str) = "husband_turn") := by decide +kernel
theorem s24 : ¬ (("heir_turn" : Str) = "father_turn") := by decide +kernel
theorem s34 : ¬ (("husband_turn" : Str) = "father_turn") := by decide +kernel
def flds (a b c d : Addr) : List (Str × V) := putF "father_turn" (.ref d) (putF "husband_turn" (.ref c) (putF "heir_turn" (.ref b) (putF "wife_turn" (.ref a) [])))
theorem flds_w (a b c d : Addr) : (flds a b c d).lookup ("wife_turn" : Str) = some (.ref a) := by
 unfold flds
 rw [lookup_putF, if_neg s14, lookup_putF, if_neg s13, lookup_putF, if_neg s12, lookup_putF, if_pos rfl]
theorem flds_h (a b c d : Addr) : (flds a b c d).lookup ("heir_turn" : Str) = some (.ref b) := by
 unfold flds
 rw [lookup_putF, if_neg s24, lookup_putF, if_neg s23, lookup_putF, if_pos rfl]
theorem flds_u (a b c d : Addr) : (flds a b c d).lookup ("husband_turn" : Str) = some (.ref c) := by
 unfold flds
 rw [lookup_putF, if_neg s34, lookup_putF, if_pos rfl]
theorem flds_f (a b c d : Addr) : (flds a b c d).lookup ("father_turn" : Str) = some (.ref d) := by
 unfold flds
 rw [lookup_putF, if_pos rfl]
theorem flds_no (a b c d : Addr) {m : Str} (h1 : ¬ m = "father_turn") (h2 : ¬ m = "husband_turn") (h3 : ¬ m = "heir_turn") (h4 : ¬ m = "wife_turn") : (flds a b c d).lookup m = none := by
 unfold flds
 rw [lookup_putF, if_neg h1, lookup_putF, if_neg h2, lookup_putF, if_neg h3, lookup_putF, if_neg h4]
 all_goals rfl
structure TableAt (C : Addr) (H : Hp) (p : Addr) (n : Nat) (w h : List Nat) : Prop where
 tw : IsTurn n w
 th : IsTurn n h
 n1 : 1 <= n
 n8 : n <= 8
 ob : ∃ dx a b c d, H p = some (.ins C dx (flds a b c d)) /\ H a = some (.lst (natL w)) /\ H b = some (.lst (natL h)) /\ H c = some (.lst (natL (inv w))) /\ H d = some (.lst (natL (inv h)))
theorem TableAt.same {C : Addr} {H H' : Hp} {p : Addr} {n : Nat} {w h : List Nat} (T : TableAt C H p n w h) (s : Same H H') : TableAt C H' p n w h := by
 obtain ⟨tw, th, n1, n8, dx, a, b, c, d, e1, e2, e3, e4, e5⟩ := T
 exact ⟨tw, th, n1, n8, dx, a, b, c, d, s _ _ e1, s _ _ e2, s _ _ e3, s _ _ e4, s _ _ e5⟩
def spSize (C : Addr) : Sp := fun vs H Q _ => ∃ p n w h, vs = [.ref p] /\ TableAt C H p n w h /\ Q (nat n) H
def spAsk (C : Addr) (e : Ad) (g : List Nat -> List Nat -> Nat -> V) : Sp := fun vs H Q E => ∃ (p : Addr) (n : Nat) (w h : List Nat) (c : Int), vs = [.ref p, .int c] /\ TableAt C H p n w h /\ c.natAbs.log2 < 1920 /\ (InC n c -> Q (g w h c.toNat) H) /\ (¬ InC n c -> E (.ref e.Zc) none H)
abbrev spCheck (C : Addr) (e : Ad) : Sp := spAsk C e fun _ _ _ => .non
abbrev spWife (C : Addr) (e : Ad) : Sp := spAsk C e fun w _ c => nat (fw w c)
abbrev spHusband (C : Addr) (e : Ad) : Sp := spAsk C e fun w _ c => nat (bw w c)
abbrev spHeir (C : Addr) (e : Ad) : Sp := spAsk C e fun _ h c => nat (fw h c)
abbrev spFather (C : Addr) (e : Ad) : Sp := spAsk C e fun _ h c => nat (bw h c)
def spAskN (C : Addr) (g : List Nat -> List Nat -> Nat -> V) : Sp := fun vs H Q _ => ∃ p n w h c, vs = [.ref p, nat c] /\ TableAt C H p n w h /\ c < n /\ Q (g w h c) H
theorem askN {C : Addr} {e : Ad} {g : List Nat -> List Nat -> Nat -> V} : ∀ vs H Q E, spAskN C g vs H Q E -> spAsk C e g vs H Q E := by
 rintro vs H Q E ⟨p, n, w, h, c, rfl, TA, hc, k⟩
 have n8 := TA.n8
 have p9 : (8 : Nat) < 10 ^ 9 := by decide
 exact ⟨p, n, w, h, (c : Int), rfl, TA, log_small (by show ((c : Nat) : Int).natAbs < 10 ^ 9; omega), fun _ => by rw [Int.toNat_natCast]; exact k, fun z => absurd ⟨by omega, by omega⟩ z⟩
def spPartnerClass (C : Addr) : Sp := fun vs H Q _ => ∃ p n w h m c, vs = [.ref p, sexV m, nat c] /\ TableAt C H p n w h /\ c < n /\ Q (nat (if m then fw w c else bw w c)) H
def spChildClass (C : Addr) : Sp := fun vs H Q _ => ∃ p n w h m c, vs = [.ref p, sexV m, nat c] /\ TableAt C H p n w h /\ c < n /\ Q (nat (fw h (if m then c else bw w c))) H
def spClassAfter (C : Addr) : Sp := fun vs H Q _ => ∃ p n w h m c l, vs = [.ref p, sexV m, nat c, sgn l] /\ TableAt C H p n w h /\ c < n /\ IsL l /\ Q (nat (stC w h m c l)) H
def spIsTurn : Sp := fun vs H Q _ => ∃ (a : Addr) (xs : List Int) (n : Nat), vs = [.ref a, nat n] /\ H a = some (.lst (xs.map V.int)) /\ xs.length < 64 /\ n <= 8 /\ ∀ H', Same H H' -> Q (.bl (decide (xs.Perm (intL (List.range n))))) H'
def spTurnedBack : Sp := fun vs H Q _ => ∃ a w n, vs = [.ref a] /\ H a = some (.lst (natL w)) /\ IsTurn n w /\ n <= 8 /\ ∀ D H', H D = none -> Same H H' -> H' D = some (.lst (natL (inv w))) -> Q (.ref D) H'
def spInit (C : Addr) : Sp := fun vs H Q _ => ∃ x dx a b w h n, vs = [.ref x, .ref a, .ref b] /\ H x = some (.ins C dx []) /\ H a = some (.lst (natL w)) /\ H b = some (.lst (natL h)) /\ IsTurn n w /\ IsTurn n h /\ 1 <= n /\ n <= 8 /\
 ∀ H', (∀ c o, H c = some o -> c ≠ x -> H' c = some o) -> TableAt C H' x n w h -> Q .non H'
section
variable {P : Program} {w : World} {K : W.Frag} {mg : Str -> Option Value} {base : Heap} {CX : CXT} {C : Addr} {e : Ad}
theorem atN {w : List Nat} {n c : Nat} (h : IsTurn n w) (hc : c < n) : atI (natL w) (c : Int) = some (nat (fw w c)) := atI_nat (natL_get (fw_get h hc))
theorem atInv {w : List Nat} {n c : Nat} (h : IsTurn n w) (hc : c < n) : atI (natL (inv w)) (c : Int) = some (nat (bw w c)) := atI_nat (natL_get (inv_get h hc))
theorem mkSc {N P : List Str} {sc : Scope} (a : sc.kind = .function := by rfl) (b : sc.isCoroutine = false := by rfl) (c : sc.isGenerator = false := by rfl) (d : N.Nodup := by decide +kernel) (e : N.take P.length = P := by rfl) (f : ∀ x ∈ P, sc.names.lookup x = some .local \/ sc.names.lookup x = some .cell := by decide +kernel) (g : ∀ y ∈ sc.names, y.2 ≠ .free := by decide +kernel) : FnScope N P sc := ⟨a, b, c, d, e, f, g⟩
theorem sc_size : FnScope ["self"] ["self"] (defScope (inClass (top 33) 1)) := mkSc
theorem ok_size {f : Addr} {fd : FuncData} (F : Fun K "size" "Table.size" (inClass (top 33) 1) f fd) (T : Txt K mg C e) : FnOk P w K mg base CX 1 f fd ["self"] (spSize C) := by
 refine F.okN sc_size (fun vs H Q E h => ?_) (fun cdv A outer s H vs Q E hr h => ?_)
 . obtain ⟨p, n, w, h, rfl, _⟩ := h; rfl
 . obtain ⟨p, n, w', h', rfl, TA, k⟩ := h
   obtain ⟨dx, a, b, c, d, e1, e2, e3, e4, e5⟩ := TA.ob
   refine ⟨_, (pss_one (ps_ret (pe_callB call_len_seq rfl T.z_len PySem.boot_len (pa_cons (pe_fld (pv 0) rfl) pa_nil)))), ?_⟩
   refine ⟨_, rfl, p, C, dx, _, _, rfl, e1, T.cl_Table, T.n_wife_turn, flds_w .., a, _, rfl, .inl (SqL.of e2), ?_⟩
   rw [natL_len, TA.tw.len]
   exact k
theorem sc_check : FnScope ["self", "c"] ["self", "c"] (defScope (inClass (top 33) 2)) := mkSc
theorem ok_check {f : Addr} {fd : FuncData} (F : Fun K "check_class" "Table.check_class" (inClass (top 33) 2) f fd) (T : Txt K mg C e) : FnOk P w K mg base (CXR P w) 1 f fd ["self", "c"] (spCheck C e) := by
 refine F.okX sc_check (fun vs H Q E h => ?_) (fun cdv A outer s H vs Q E hr hx h => ?_)
 . obtain ⟨p, n, w, h, c, rfl, _⟩ := h; rfl
 . obtain ⟨p, n, w', h', c, rfl, TA, sm, k, kE⟩ := h
   obtain ⟨dx, a, b, c1, d, e1, e2, e3, e4, e5⟩ := TA.ob
   refine ⟨_, (pss_one (ps_if (PW.pt (pw_or (pt_cmpR op_lt (pv 1) pe_int (nomark _)) (pw_or1 (pt_cmpR op_ge (pv 1) (pe_callB call_len_seq rfl T.z_len PySem.boot_len (pa_cons (pe_fld (pv 0) rfl) pa_nil)) (nomark _))))) (pss_one (ps_rais hx T.m_Zc T.x_Zc hr rfl (pa_cons (pe_join (pj_cst (pj_int (pv 1) pj_nil))) pa_nil))) pss_nil)), ?_⟩
   refine ⟨_, rfl, _, _, rfl, rfl, _, rfl, iteD2 (fun q => ?_) (fun q => ?_)⟩
   . exact iteT ⟨by decide, _, rfl, _, rfl, sm, by decide, by decide, fun _ => ⟨one_fits, kE fun z => absurd z.1 (by omega)⟩⟩
   refine ⟨_, rfl, _, rfl, p, C, dx, _, _, rfl, e1, T.cl_Table, T.n_wife_turn, flds_w .., a, _, rfl, .inl (SqL.of e2), _, _, rfl, rfl, _, rfl, ?_⟩
   rw [natL_len, TA.tw.len]
   refine iteD2 (fun q' => ?_) (fun q' => ?_)
   . exact ⟨by decide, _, rfl, _, rfl, sm, by decide, by decide, fun _ => ⟨one_fits, kE fun z => absurd z.2 (by omega)⟩⟩
   . exact k ⟨by omega, by omega⟩
theorem sc_wife : FnScope ["self", "c"] ["self", "c"] (defScope (inClass (top 33) 3)) := mkSc
theorem ok_wife {f : Addr} {fd : FuncData} (F : Fun K "wife_of" "Table.wife_of" (inClass (top 33) 3) f fd) (T : Txt K mg C e) (D_check_class : MDef P w K mg base (CXR P w) C "check_class" 1 ["self", "c"] (spCheck C e)) : FnOk P w K mg base (CXR P w) 2 f fd ["self", "c"] (spWife C e) := by
 refine F.okX sc_wife (fun vs H Q E h => ?_) (fun cdv A outer s H vs Q E hr hx h => ?_)
 . obtain ⟨p, n, w, h, c, rfl, _⟩ := h; rfl
 . obtain ⟨p, n, w', h', c, rfl, TA, sm, k, kE⟩ := h
   obtain ⟨dx, a, b, c1, d, e1, e2, e3, e4, e5⟩ := TA.ob
   refine ⟨_, (pss_cons (ps_expr (pe_methX (pv 0) T.cl_Table D_check_class hx.s hr (pa_cons (pv 1) pa_nil)))
    (pss_one (ps_ret (pe_ix ix_list (pe_fld (pv 0) rfl) (pv 1) (fun _ _ => rfl))))), ?_⟩
   refine ⟨_, rfl, p, dx, _, rfl, e1, flds_no _ _ _ _ (by decide +kernel) (by decide +kernel) (by decide +kernel) (by decide +kernel), _, rfl, p, n, w', h', c, rfl, TA, sm, fun hc => ?_, kE⟩
   have hn : c.toNat < n := by obtain ⟨h1, h2⟩ := hc; omega
   have ec : c = ((c.toNat : Nat) : Int) := by obtain ⟨h1, h2⟩ := hc; omega
   have kk := k hc
   rw [ec]
   exact ⟨_, rfl, p, C, dx, _, _, rfl, e1, T.cl_Table, T.n_wife_turn, flds_w .., _, rfl, a, _, _, _, rfl, rfl, SqL.of e2, atN TA.tw hn, kk⟩
theorem sc_husband : FnScope ["self", "c"] ["self", "c"] (defScope (inClass (top 33) 4)) := mkSc
theorem ok_husband {f : Addr} {fd : FuncData} (F : Fun K "husband_of" "Table.husband_of" (inClass (top 33) 4) f fd) (T : Txt K mg C e) (D_check_class : MDef P w K mg base (CXR P w) C "check_class" 1 ["self", "c"] (spCheck C e)) : FnOk P w K mg base (CXR P w) 2 f fd ["self", "c"] (spHusband C e) := by
 refine F.okX sc_husband (fun vs H Q E h => ?_) (fun cdv A outer s H vs Q E hr hx h => ?_)
 . obtain ⟨p, n, w, h, c, rfl, _⟩ := h; rfl
 . obtain ⟨p, n, w', h', c, rfl, TA, sm, k, kE⟩ := h
   obtain ⟨dx, a, b, c1, d, e1, e2, e3, e4, e5⟩ := TA.ob
   refine ⟨_, (pss_cons (ps_expr (pe_methX (pv 0) T.cl_Table D_check_class hx.s hr (pa_cons (pv 1) pa_nil)))
    (pss_one (ps_ret (pe_ix ix_list (pe_fld (pv 0) rfl) (pv 1) (fun _ _ => rfl))))), ?_⟩
   refine ⟨_, rfl, p, dx, _, rfl, e1, flds_no _ _ _ _ (by decide +kernel) (by decide +kernel) (by decide +kernel) (by decide +kernel), _, rfl, p, n, w', h', c, rfl, TA, sm, fun hc => ?_, kE⟩
   have hn : c.toNat < n := by obtain ⟨h1, h2⟩ := hc; omega
   have ec : c = ((c.toNat : Nat) : Int) := by obtain ⟨h1, h2⟩ := hc; omega
   have kk := k hc
   rw [ec]
   exact ⟨_, rfl, p, C, dx, _, _, rfl, e1, T.cl_Table, T.n_husband_turn, flds_u .., _, rfl, c1, _, _, _, rfl, rfl, SqL.of e4, atInv TA.tw hn, kk⟩
theorem sc_heir : FnScope ["self", "c"] ["self", "c"] (defScope (inClass (top 33) 5)) := mkSc
theorem ok_heir {f : Addr} {fd : FuncData} (F : Fun K "heir_of" "Table.heir_of" (inClass (top 33) 5) f fd) (T : Txt K mg C e) (D_check_class : MDef P w K mg base (CXR P w) C "check_class" 1 ["self", "c"] (spCheck C e)) : FnOk P w K mg base (CXR P w) 2 f fd ["self", "c"] (spHeir C e) := by
 refine F.okX sc_heir (fun vs H Q E h => ?_) (fun cdv A outer s H vs Q E hr hx h => ?_)
 . obtain ⟨p, n, w, h, c, rfl, _⟩ := h; rfl
 . obtain ⟨p, n, w', h', c, rfl, TA, sm, k, kE⟩ := h
   obtain ⟨dx, a, b, c1, d, e1, e2, e3, e4, e5⟩ := TA.ob
   refine ⟨_, (pss_cons (ps_expr (pe_methX (pv 0) T.cl_Table D_check_class hx.s hr (pa_cons (pv 1) pa_nil)))
    (pss_one (ps_ret (pe_ix ix_list (pe_fld (pv 0) rfl) (pv 1) (fun _ _ => rfl))))), ?_⟩
   refine ⟨_, rfl, p, dx, _, rfl, e1, flds_no _ _ _ _ (by decide +kernel) (by decide +kernel) (by decide +kernel) (by decide +kernel), _, rfl, p, n, w', h', c, rfl, TA, sm, fun hc => ?_, kE⟩
   have hn : c.toNat < n := by obtain ⟨h1, h2⟩ := hc; omega
   have ec : c = ((c.toNat : Nat) : Int) := by obtain ⟨h1, h2⟩ := hc; omega
   have kk := k hc
   rw [ec]
   exact ⟨_, rfl, p, C, dx, _, _, rfl, e1, T.cl_Table, T.n_heir_turn, flds_h .., _, rfl, b, _, _, _, rfl, rfl, SqL.of e3, atN TA.th hn, kk⟩
theorem sc_father : FnScope ["self", "c"] ["self", "c"] (defScope (inClass (top 33) 6)) := mkSc
theorem ok_father {f : Addr} {fd : FuncData} (F : Fun K "father_of" "Table.father_of" (inClass (top 33) 6) f fd) (T : Txt K mg C e) (D_check_class : MDef P w K mg base (CXR P w) C "check_class" 1 ["self", "c"] (spCheck C e)) : FnOk P w K mg base (CXR P w) 2 f fd ["self", "c"] (spFather C e) := by
 refine F.okX sc_father (fun vs H Q E h => ?_) (fun cdv A outer s H vs Q E hr hx h => ?_)
 . obtain ⟨p, n, w, h, c, rfl, _⟩ := h; rfl
 . obtain ⟨p, n, w', h', c, rfl, TA, sm, k, kE⟩ := h
   obtain ⟨dx, a, b, c1, d, e1, e2, e3, e4, e5⟩ := TA.ob
   refine ⟨_, (pss_cons (ps_expr (pe_methX (pv 0) T.cl_Table D_check_class hx.s hr (pa_cons (pv 1) pa_nil)))
    (pss_one (ps_ret (pe_ix ix_list (pe_fld (pv 0) rfl) (pv 1) (fun _ _ => rfl))))), ?_⟩
   refine ⟨_, rfl, p, dx, _, rfl, e1, flds_no _ _ _ _ (by decide +kernel) (by decide +kernel) (by decide +kernel) (by decide +kernel), _, rfl, p, n, w', h', c, rfl, TA, sm, fun hc => ?_, kE⟩
   have hn : c.toNat < n := by obtain ⟨h1, h2⟩ := hc; omega
   have ec : c = ((c.toNat : Nat) : Int) := by obtain ⟨h1, h2⟩ := hc; omega
   have kk := k hc
   rw [ec]
   exact ⟨_, rfl, p, C, dx, _, _, rfl, e1, T.cl_Table, T.n_father_turn, flds_f .., _, rfl, d, _, _, _, rfl, rfl, SqL.of e5, atInv TA.th hn, kk⟩
theorem rngV_intL (n : Nat) : rngV 0 (n : Int) = (intL (List.range n)).map V.int := by
 unfold rngV intL
 rw [List.map_map]
 have e : ((n : Int) - 0).toNat = n := by omega
 rw [e]
 exact List.map_congr_left fun i _ => by simp
theorem intL_flat (xs : List Int) : (xs.map V.int).all flatV = true := by
 rw [List.all_map]
 exact List.all_eq_true.mpr fun _ _ => rfl
theorem natL_intL (w : List Nat) : natL w = (intL w).map V.int := by
 unfold natL intL
 rw [List.map_map]
 rfl
theorem sc_isturn : FnScope ["row", "many"] ["row", "many"] (defScope (top 31)) := mkSc
theorem ok_isturn {f : Addr} {fd : FuncData} (F : Fun K "is_turn" "is_turn" (top 31) f fd) (T : Txt K mg C e) : FnOk P w K mg base CX 1 f fd ["row", "many"] spIsTurn := by
 refine F.okN sc_isturn (fun vs H Q E h => ?_) (fun cdv A outer s H vs Q E hr h => ?_)
 . obtain ⟨a, xs, n, rfl, _⟩ := h; rfl
 . obtain ⟨a, xs, n, rfl, ha, hl, hn, k⟩ := h
   have hu := hr.units0
   refine ⟨_, (pss_one (ps_ret (pe_cmpR (op_eqL hu) (pe_callB call_sorted rfl T.z_sorted bt_sorted (pa_cons (pv 0) pa_nil)) (pe_callTy (call_list_rng rfl) rfl T.z_list bt_list (pa_cons (pe_rng1 rfl T.z_range (pa_cons (pv 1) pa_nil)) pa_nil)) (nomark _)))), ?_⟩
   refine ⟨_, rfl, a, xs, rfl, SqL.of ha, hl, fun l ns' hl' hp hs => ?_⟩
   refine ⟨_, rfl, _, rfl, fun r hr' => ?_⟩
   have hlr : l ≠ r := ne_of_none upd_same hr'
   refine ⟨r, 0, _, rfl, upd_same, by decide, by decide, by omega, by omega, by omega, fun g hg => ?_⟩
   have hlg : l ≠ g := ne_of_none (show (upd (upd H l (.lst (ns'.map V.int))) r (.rng 0 (n : Int))) l = some (.lst (ns'.map V.int)) by rw [upd_ne hlr, upd_same]) hg
   refine ⟨l, g, ns'.map V.int, rngV 0 (n : Int), rfl, rfl, SqL.of (by rw [upd_ne hlg, upd_ne hlr, upd_same]), SqL.of upd_same, intL_flat _, by rw [rngV_intL]; exact intL_flat _, ?_⟩
   have e : eqVs (ns'.map V.int) (rngV 0 (n : Int)) = decide (xs.Perm (intL (List.range n))) := by
    rw [rngV_intL, eqVs_intL]
    by_cases q : xs.Perm (intL (List.range n))
    . rw [decide_eq_true q, decide_eq_true (sorted_unique (hp.trans q) hs (range_sorted n))]
    . rw [decide_eq_false q, decide_eq_false fun z => q (by rw [<- z]; exact hp.symm)]
   show Q (.bl (eqVs (ns'.map V.int) (rngV 0 (n : Int)))) _
   rw [e]
   refine k _ fun b o hb => ?_
   have h1 : b ≠ l := ne_of_none hb hl'
   have h2 : (upd H l (.lst (ns'.map V.int))) b = some o := by rw [upd_ne h1]; exact hb
   have h3 : b ≠ r := ne_of_none h2 hr'
   have h4 : (upd (upd H l (.lst (ns'.map V.int))) r (.rng 0 (n : Int))) b = some o := by rw [upd_ne h3]; exact h2
   rw [upd_ne (ne_of_none h4 hg)]
   exact h4
theorem sc_tback : FnScope ["turn"] ["turn"] (defScope (top 32)) := mkSc
theorem idx_intL : ∀ (w : List Nat) (c : Nat), (intL w).idxOf (c : Int) = w.idxOf c
 | [], _ => rfl
 | a :: r, c => by
   show List.idxOf (c : Int) ((a : Int) :: intL r) = _
   rw [List.idxOf_cons, List.idxOf_cons, idx_intL r c]
   have e : ((a : Int) == (c : Int)) = (a == c) := by
    by_cases q : a = c
    . subst q; simp
    . rw [beq_eq_false_iff_ne.mpr q, beq_eq_false_iff_ne.mpr (by omega)]
   rw [e]
theorem mem_intL {w : List Nat} {c : Nat} (h : c ∈ w) : (c : Int) ∈ intL w := List.mem_map.mpr ⟨c, h, rfl⟩
theorem ok_tback {f : Addr} {fd : FuncData} (F : Fun K "turned_back" "turned_back" (top 32) f fd) (T : Txt K mg C e) : FnOk P w K mg base CX 1 f fd ["turn"] spTurnedBack := by
 refine F.okN sc_tback (fun vs H Q E h => ?_) (fun cdv A outer s H vs Q E hr h => ?_)
 . obtain ⟨a, w, n, rfl, _⟩ := h; rfl
 . obtain ⟨a, w', n, rfl, ha, tw, hn, k⟩ := h
   refine ⟨_, (pss_one (ps_ret (pe_comp (fv := [("turn", 0)]) ⟨rfl, by decide +kernel, rfl, by decide +kernel, rfl, by decide +kernel, ⟨⟨rfl, Or.inl rfl, Or.inl rfl, rfl⟩, trivial⟩, rfl, rfl⟩ rfl (pi_range1 rfl T.z_range (pa_cons (pe_callB call_len_seq rfl T.z_len PySem.boot_len (pa_cons (pv 0) pa_nil)) pa_nil)) (fun _ _ _ => (pe_bm PySem.F.plainAttrs_list PySem.F.slot_list_index PySem.F.type_list_index mt_index (pv 1) (pa_cons (pv 0) pa_nil)))))), ?_⟩
   refine ⟨_, rfl, a, _, rfl, .inl (SqL.of ha), _, rfl, by rw [natL_len, tw.len]; omega, by rw [natL_len, tw.len]; omega, ?_⟩
   have e : (((natL w').length : Nat) : Int).toNat = n := by rw [natL_len, tw.len]; omega
   rw [e]
   refine comp_range (fun i => nat (bw w' i)) (by have := (show 8 <= sizeLine by decide); omega) (fun i H' R hi sm kk _ _ _ => ?_) fun D H2 hD sm hl => ?_
   . refine ⟨_, rfl, .inl ⟨rfl, _, SqL.of (sm _ _ ha)⟩, _, rfl, a, intL w', ((0 : Int) + (i : Nat)), rfl, rfl, SqL.of (by rw [<- natL_intL]; exact sm _ _ ha), ?_, ?_⟩
     . rw [Int.zero_add]; exact mem_intL (tw.mem.mpr hi)
     . rw [Int.zero_add, idx_intL]; exact kk H' (Same.refl _)
   . refine k D H2 hD sm ?_
     rw [hl]
     unfold natL inv
     rw [tw.len, List.map_map]
     rfl
end
def Good (xs ys : List Int) : Prop := ∃ n w h, xs = intL w /\ ys = intL h /\ IsTurn n w /\ IsTurn n h /\ 1 <= n /\ n <= 8
abbrev Sm (xs : List Int) : Prop := xs.length < 64 /\ ∀ i ∈ xs, i.natAbs.log2 < 1920
def spInitX (C : Addr) (e : Ad) : Sp := fun vs H Q E => ∃ (x dx a b : Addr) (xs ys : List Int), vs = [.ref x, .ref a, .ref b] /\ H x = some (.ins C dx []) /\ H a = some (.lst (xs.map V.int)) /\ H b = some (.lst (ys.map V.int)) /\ Sm xs /\ Sm ys /\
 (∀ n w h, xs = intL w -> ys = intL h -> IsTurn n w -> IsTurn n h -> 1 <= n -> n <= 8 -> ∀ H', (∀ c o, H c = some o -> c ≠ x -> H' c = some o) -> (∀ H'', (∀ c o, H' c = some o -> H c = none \/ c = x -> H'' c = some o) -> TableAt C H'' x n w h) -> Q .non H') /\ (¬ Good xs ys -> ∀ H', Same H H' -> E (.ref e.Zb) none H')
theorem turn_sm {n : Nat} {w : List Nat} (h : IsTurn n w) (n8 : n <= 8) : Sm (intL w) := by
 refine ⟨by rw [intL_len, h.len]; omega, fun i hi => ?_⟩
 obtain ⟨c, hc, rfl⟩ := List.mem_map.mp hi
 have := h.mem.mp hc
 have p9 : (8 : Nat) < 10 ^ 9 := by decide
 exact log_small (by show ((c : Nat) : Int).natAbs < 10 ^ 9; omega)
theorem intL_inj : ∀ {a b : List Nat}, intL a = intL b -> a = b
 | [], [], _ => rfl
 | [], _ :: _, h => by cases h
 | _ :: _, [], h => by cases h
 | x :: a, y :: b, h => by
   have h1 : (x : Int) = (y : Int) := (List.cons.inj h).1
   have h2 : intL a = intL b := (List.cons.inj h).2
   rw [intL_inj h2, Int.ofNat.inj h1]
theorem initN {C : Addr} {e : Ad} : ∀ vs H Q E, spInit C vs H Q E -> spInitX C e vs H Q E := by
 rintro vs H Q E ⟨x, dx, a, b, w, h, n, rfl, hx, ha, hb, tw, th, n1, n8, k⟩
 refine ⟨x, dx, a, b, intL w, intL h, rfl, hx, by rw [<- natL_intL]; exact ha, by rw [<- natL_intL]; exact hb, turn_sm tw n8, turn_sm th n8, fun m w2 h2 e1 e2 t1 t2 _ _ => ?_, fun z => absurd ⟨n, w, h, rfl, rfl, tw, th, n1, n8⟩ z⟩
 cases intL_inj e1
 cases intL_inj e2
 have : m = n := by rw [<- t1.len, tw.len]
 subst this
 exact fun H' kp TT => k H' kp (TT H' fun c o h _ => h)
theorem perm_turn {xs : List Int} {n : Nat} (h : xs.Perm (intL (List.range n))) : ∃ w, xs = intL w /\ IsTurn n w := by
 have nn : ∀ i ∈ xs, 0 <= i := fun i hi => by
  obtain ⟨c, _, rfl⟩ := List.mem_map.mp (h.mem_iff.mp hi)
  exact Int.natCast_nonneg c
 refine ⟨xs.map Int.toNat, ?_, ?_⟩
 . unfold intL
   rw [List.map_map]
   conv => lhs; rw [<- List.map_id xs]
   exact List.map_congr_left fun i hi => (Int.toNat_of_nonneg (nn i hi)).symm
 . have q := h.map Int.toNat
   unfold intL at q
   rw [List.map_map] at q
   have e : (List.range n).map (Int.toNat ∘ fun c : Nat => (c : Int)) = List.range n := by
    conv => rhs; rw [<- List.map_id (List.range n)]
    exact List.map_congr_left fun i _ => Int.toNat_natCast i
   unfold IsTurn
   rw [<- e]
   exact q
theorem bad_of {xs ys : List Int} (h : ¬ (1 <= xs.length /\ xs.length <= 8 /\ xs.Perm (intL (List.range xs.length)) /\ ys.Perm (intL (List.range xs.length)))) : ¬ Good xs ys := by
 rintro ⟨n, w, h', rfl, rfl, tw, th, n1, n8⟩
 refine h ?_
 rw [intL_len, tw.len]
 exact ⟨n1, n8, List.Perm.map _ tw, List.Perm.map _ th⟩
section
variable {P : Program} {w : World} {K : W.Frag} {mg : Str -> Option Value} {base : Heap} {CX : CXT} {C : Addr} {e : Ad}
theorem sc_init : FnScope ["self", "wives", "heirs", "many"] ["self", "wives", "heirs"] (defScope (inClass (top 33) 0)) := mkSc
theorem ok_init {f : Addr} {fd : FuncData} (F : Fun K "__init__" "Table.__init__" (inClass (top 33) 0) f fd) (T : Txt K mg C e) (D_is_turn : Def P w K mg base (CXR P w) "is_turn" 1 ["row", "many"] spIsTurn) (D_turned_back : Def P w K mg base (CXR P w) "turned_back" 1 ["turn"] spTurnedBack) :
 FnOk P w K mg base (CXR P w) 2 f fd ["self", "wives", "heirs"] (spInitX C e) := by
 refine F.okX sc_init (fun vs H Q E h => ?_) (fun cdv A outer s H vs Q E hr hx h => ?_)
 . obtain ⟨x, dx, a, b, xs, ys, rfl, _⟩ := h; rfl
 . obtain ⟨x, dx, a, b, xs, ys, rfl, hxx, ha, hb, sx, sy, k, kE⟩ := h
   have nd := sc_init.nd
   have p9 : (64 : Nat) < 10 ^ 9 := by decide
   have s8 : ((8 : Int)).natAbs.log2 < 1920 := by decide
   have sl : ((xs.length : Int)).natAbs.log2 < 1920 := log_small (by have := sx.1; show ((xs.length : Nat) : Int).natAbs < 10 ^ 9; omega)
   refine ⟨_, (pss_cons (ps_set (i := 3) nd rfl (Or.inl rfl) (pe_callB call_len_seq rfl T.z_len PySem.boot_len (pa_cons (pv 1) pa_nil)))
    (pss_cons (ps_if (PW.pt (pw_or (pt_cmpR op_lt (pv 3) pe_int (nomark _)) (pw_or1 (pt_cmpR op_gt (pv 3) (pe_globE rfl T.g_MOST_CLASSES) (nomark _))))) (pss_one (ps_rais hx T.m_Zb T.x_Zb hr rfl (pa_cons (pe_join (pj_cst (pj_int (pe_globE rfl T.g_MOST_CLASSES) (pj_cst (pj_int (pv 3) pj_nil))))) pa_nil))) pss_nil)
    (pss_cons (ps_if (PW.pt (pw_or (pt_not (pt_val (pe_callX D_is_turn hx.s hr rfl (pa_cons (pv 1) (pa_cons (pv 3) pa_nil))))) (pw_or1 (pt_not (pt_val (pe_callX D_is_turn hx.s hr rfl (pa_cons (pv 2) (pa_cons (pv 3) pa_nil)))))))) (pss_one (ps_rais hx T.m_Zb T.x_Zb hr rfl (pa_cons (pe_join (pj_cst (pj_int (pv 3) (pj_cst (pj_lst hr (pv 1) (pj_cst (pj_lst hr (pv 2) pj_nil))))))) pa_nil))) pss_nil)
    (pss_cons (ps_fld (pv 0) (pe_callTy call_list_of rfl T.z_list bt_list (pa_cons (pv 1) pa_nil)) rfl)
    (pss_cons (ps_fld (pv 0) (pe_callTy call_list_of rfl T.z_list bt_list (pa_cons (pv 2) pa_nil)) rfl)
    (pss_cons (ps_fld (pv 0) (pe_callX D_turned_back hx.s hr rfl (pa_cons (pv 1) pa_nil)) rfl)
    (pss_one (ps_fld (pv 0) (pe_callX D_turned_back hx.s hr rfl (pa_cons (pv 2) pa_nil)) rfl)))))))), ?_⟩
   refine ⟨_, rfl, a, _, rfl, .inl (SqL.of ha), ?_⟩
   rw [List.length_map]
   have no1 : ∀ z : ¬ (1 <= xs.length /\ xs.length <= 8), E (.ref e.Zb) none H := fun z => kE (bad_of fun q => z ⟨q.1, q.2.1⟩) H (Same.refl _)
   refine ⟨_, rfl, _, _, rfl, rfl, _, rfl, iteD2 (fun q => ?_) (fun q => ?_)⟩
   . exact iteT ⟨by decide, _, rfl, s8, by decide, by decide, _, rfl, _, rfl, sl, by decide, by decide, fun _ => ⟨one_fits, no1 (by omega)⟩⟩
   refine ⟨_, rfl, _, _, rfl, rfl, _, rfl, iteD2 (fun q' => ?_) (fun q' => ?_)⟩
   . exact ⟨by decide, _, rfl, s8, by decide, by decide, _, rfl, _, rfl, sl, by decide, by decide, fun _ => ⟨one_fits, no1 (by omega)⟩⟩
   have n1 : 1 <= xs.length := by omega
   have n8 : xs.length <= 8 := by omega
   clear no1
   have rai : ∀ H2, Same H H2 -> ¬ (xs.Perm (intL (List.range xs.length)) /\ ys.Perm (intL (List.range xs.length))) -> E (.ref e.Zb) none H2 := fun H2 s2 z => kE (bad_of fun q => z q.2.2) H2 s2
   have ra : ∀ H2, Same H H2 -> SqL K H2 a (xs.map V.int) := fun H2 s2 => SqL.of (s2 _ _ ha)
   have rb : ∀ H2, Same H H2 -> SqL K H2 b (ys.map V.int) := fun H2 s2 => SqL.of (s2 _ _ hb)
   have lx : xs.length <= 64 := by have := sx.1; omega
   have ly : ys.length <= 64 := by have := sy.1; omega
   refine ⟨_, rfl, _, rfl, a, xs, xs.length, rfl, ha, sx.1, n8, fun H1 s1 => ⟨_, rfl, ?_⟩⟩
   by_cases pw : xs.Perm (intL (List.range xs.length))
   rotate_left
   . rw [decide_eq_false pw]
     refine iteT ?_
     exact ⟨by decide, _, rfl, _, rfl, sl, by decide, by decide, _, rfl, a, xs, rfl, ra _ s1, lx, sx.2, by decide, by decide, _, rfl, b, ys, rfl, rb _ s1, ly, sy.2, by decide, by decide, fun _ => ⟨one_fits, rai _ s1 fun z => pw z.1⟩⟩
   rw [decide_eq_true pw]
   refine iteF ?_
   refine ⟨_, rfl, _, rfl, b, ys, xs.length, rfl, s1 _ _ hb, sy.1, n8, fun H2 s2 => ⟨_, rfl, ?_⟩⟩
   by_cases ph : ys.Perm (intL (List.range xs.length))
   rotate_left
   . rw [decide_eq_false ph]
     refine iteT ?_
     exact ⟨by decide, _, rfl, _, rfl, sl, by decide, by decide, _, rfl, a, xs, rfl, ra _ (s1.trans s2), lx, sx.2, by decide, by decide, _, rfl, b, ys, rfl, rb _ (s1.trans s2), ly, sy.2, by decide, by decide, fun _ => ⟨one_fits, rai _ (s1.trans s2) fun z => ph z.2⟩⟩
   rw [decide_eq_true ph]
   refine iteF ?_
   obtain ⟨n, hn⟩ : ∃ n, xs.length = n := ⟨_, rfl⟩
   rw [hn] at n1 n8 pw ph
   obtain ⟨w', ew, tw⟩ := perm_turn pw
   obtain ⟨h', eh, th⟩ := perm_turn ph
   clear lx ly ra rb rai kE s8 sl p9 pw ph sx sy
   have k := k n w' h' ew eh tw th n1 n8
   have hx' := hx
   have hx := hxx
   rw [ew, <- natL_intL] at ha
   rw [eh, <- natL_intL] at hb
   have s12' : Same H H2 := s1.trans s2
   refine ⟨_, rfl, a, _, rfl, .inl (SqL.of (s12' _ _ ha)), fun l1 hl1 => ?_⟩
   have ne1 : x ≠ l1 := ne_of_none (s12' _ _ hx) hl1
   have nxa : x ≠ a := ne_of hx ha (by intro z; cases z)
   have nxb : x ≠ b := ne_of hx hb (by intro z; cases z)
   refine ⟨_, rfl, x, C, dx, [], rfl, (by rw [upd_ne ne1]; exact s12' _ _ hx), T.cl_Table, T.n_wife_turn, (by show 0 < 1000; decide), ?_⟩
   have k1 : ∀ c o, H c = some o -> c ≠ x -> (upd (upd H2 l1 (.lst (natL w'))) x (.ins C dx (putF "wife_turn" (.ref l1) []))) c = some o := fun c o hc hcx => by
    rw [upd_ne hcx, upd_ne (ne_of_none (s12' _ _ hc) hl1)]; exact s12' _ _ hc
   refine ⟨_, rfl, b, _, rfl, .inl (SqL.of (k1 b _ hb (Ne.symm nxb))), fun l2 hl2 => ?_⟩
   have ne2 : x ≠ l2 := ne_of_none upd_same hl2
   refine ⟨_, rfl, x, C, dx, _, rfl, (by rw [upd_ne ne2]; exact upd_same), T.cl_Table, T.n_heir_turn, (by show 1 < 1000; decide), ?_⟩
   have k2 : ∀ c o, (upd (upd H2 l1 (.lst (natL w'))) x (.ins C dx (putF "wife_turn" (.ref l1) []))) c = some o -> c ≠ x -> ∀ u, (upd (upd (upd (upd H2 l1 (.lst (natL w'))) x (.ins C dx (putF "wife_turn" (.ref l1) []))) l2 (.lst (natL h'))) x u) c = some o := fun c o hc hcx u => by
    rw [upd_ne hcx, upd_ne (ne_of_none hc hl2)]; exact hc
   generalize hH3 : upd (upd (upd (upd H2 l1 (.lst (natL w'))) x (.ins C dx (putF "wife_turn" (.ref l1) []))) l2 (.lst (natL h'))) x (.ins C dx (putF "heir_turn" (.ref l2) (putF "wife_turn" (.ref l1) []))) = H3
   have f1 : H3 l1 = some (.lst (natL w')) := by rw [<- hH3]; exact k2 l1 _ (by rw [upd_ne (Ne.symm ne1), upd_same]) (Ne.symm ne1) _
   have f2 : H3 l2 = some (.lst (natL h')) := by rw [<- hH3, upd_ne (Ne.symm ne2), upd_same]
   have f3 : H3 x = some (.ins C dx (putF "heir_turn" (.ref l2) (putF "wife_turn" (.ref l1) []))) := by rw [<- hH3, upd_same]
   have f4 : ∀ c o, H c = some o -> c ≠ x -> H3 c = some o := fun c o hc hcx => by rw [<- hH3]; exact k2 c o (k1 c o hc hcx) hcx _
   refine ⟨_, rfl, a, w', n, rfl, f4 a _ ha (Ne.symm nxa), tw, n8, fun D1 H4 hD1 s4 hl4 => ?_⟩
   refine ⟨_, rfl, x, C, dx, _, rfl, s4 _ _ f3, T.cl_Table, T.n_husband_turn, (by show 2 < 1000; decide), ?_⟩
   have nxD1 : x ≠ D1 := ne_of_none f3 hD1
   have g4 : ∀ c o u, H3 c = some o -> c ≠ x -> (upd H4 x u) c = some o := fun c o u hc hcx => by rw [upd_ne hcx]; exact s4 _ _ hc
   refine ⟨_, rfl, b, h', n, rfl, g4 b _ _ (f4 b _ hb (Ne.symm nxb)) (Ne.symm nxb), th, n8, fun D2 H5 hD2 s5 hl5 => ?_⟩
   refine ⟨_, rfl, x, C, dx, _, rfl, s5 _ _ upd_same, T.cl_Table, T.n_father_turn, (by show 3 < 1000; decide), ?_⟩
   have nxD2 : x ≠ D2 := ne_of_none upd_same hD2
   have g5 : ∀ c o u, H3 c = some o -> c ≠ x -> (upd H5 x u) c = some o := fun c o u hc hcx => by rw [upd_ne hcx]; exact s5 _ _ (g4 c o _ hc hcx)
   have fr : ∀ c, c ≠ x -> H3 c = none -> H c = none := fun c hcx hc => by
    cases q : H c with
    | none => rfl
    | some o => rw [f4 c o q hcx] at hc; cases hc
   have r1 : H l1 = none := s12'.free hl1
   have r2 : H l2 = none := by
    cases q : H l2 with
    | none => rfl
    | some o => rw [k1 l2 o q (Ne.symm ne2)] at hl2; cases hl2
   have r3 : H D1 = none := fr D1 (Ne.symm nxD1) hD1
   have r4 : H D2 = none := by
    cases q : H D2 with
    | none => rfl
    | some o => rw [g4 D2 o _ (f4 D2 o q (Ne.symm nxD2)) (Ne.symm nxD2)] at hD2; cases hD2
   refine k _ (fun c o hc hcx => g5 c o _ (f4 c o hc hcx) hcx) fun H6 k6 => ⟨tw, th, n1, n8, dx, l1, l2, D1, D2, k6 _ _ upd_same (.inr rfl), k6 _ _ (g5 _ _ _ f1 (Ne.symm ne1)) (.inl r1), k6 _ _ (g5 _ _ _ f2 (Ne.symm ne2)) (.inl r2), k6 _ _ ?_ (.inl r3), k6 _ _ ?_ (.inl r4)⟩
   . rw [upd_ne (Ne.symm nxD1)]
     exact s5 _ _ (by rw [upd_ne (Ne.symm nxD1)]; exact hl4)
   . rw [upd_ne (Ne.symm nxD2)]; exact hl5
end
def IsW (l : List Nat) : Prop := l.length <= 60 /\ ∀ x ∈ l, IsL x
abbrev Sg (l : List Nat) : Prop := ∀ x ∈ l, x < 16 ^ 8
theorem IsW.sg {l : List Nat} (h : IsW l) : Sg l := fun x hx => by
 rcases h.2 x hx with rfl | rfl | rfl | rfl | rfl | rfl | rfl <;> decide
def spCheckWalk (e : Ad) : Sp := fun vs H Q E => ∃ l : List Nat, vs = [.str (txt l)] /\ l.length <= 1000 /\ Sg l /\ (IsW l -> Q .non H) /\ (¬ IsW l -> E (.ref e.Zd) none H)
def spPartnerSex : Sp := fun vs H Q _ => ∃ m, vs = [sexV m] /\ Q (sexV (!m)) H
def spSexAfter : Sp := fun vs H Q _ => ∃ m l, vs = [sexV m, sgn l] /\ IsL l /\ Q (sexV (stS m l)) H
section
variable {P : Program} {w : World} {K : W.Frag} {mg : Str -> Option Value} {base : Heap} {CX : CXT} {C : Addr} {e : Ad}
theorem c_f : ("f" : Str) = ⟨#[102]⟩ := by decide +kernel
theorem c_m : ("m" : Str) = ⟨#[109]⟩ := by decide +kernel
theorem c_s : ("s" : Str) = ⟨#[115]⟩ := by decide +kernel
theorem c_d : ("d" : Str) = ⟨#[100]⟩ := by decide +kernel
theorem c_p : ("p" : Str) = ⟨#[112]⟩ := by decide +kernel
theorem in_all {l : Nat} (h : IsL l) : (!(!(Builtin.Str.occurrences ("fmsdpbz" : Str) ⟨#[l]⟩ 0 ("fmsdpbz" : Str).length 1).isEmpty)) = false := by
 rcases h with rfl | rfl | rfl | rfl | rfl | rfl | rfl <;> decide +kernel
theorem in_men {l : Nat} (h : IsL l) : (!(Builtin.Str.occurrences ("fsb" : Str) ⟨#[l]⟩ 0 ("fsb" : Str).length 1).isEmpty) = (l == 102 || l == 115 || l == 98) := by
 rcases h with rfl | rfl | rfl | rfl | rfl | rfl | rfl <;> decide +kernel
theorem txt_cps (l : List Nat) : (txt l).cps.toList = l := by show l.toArray.toList = l; simp
theorem not_in_all {x : Nat} (h : ¬ Kin.IsL x) : (!(!(Builtin.Str.occurrences ("fmsdpbz" : Str) ⟨#[x]⟩ 0 ("fmsdpbz" : Str).length 1).isEmpty)) = true := by
 rw [StrLaws.found_one]
 have e : ("fmsdpbz" : Str).cps.toList = [102, 109, 115, 100, 112, 98, 122] := by decide +kernel
 rw [e, decide_eq_false]
 . rfl
 . intro z
   simp only [List.mem_cons, List.not_mem_nil, or_false] at z
   exact h z
theorem sc_ckw : FnScope ["walk", "sign"] ["walk"] (defScope (top 13)) := mkSc
theorem ok_ckw {f : Addr} {fd : FuncData} (F : Fun K "check_walk" "check_walk" (top 13) f fd) (T : Txt K mg C e) : FnOk P w K mg base (CXR P w) 1 f fd ["walk"] (spCheckWalk e) := by
 refine F.okX sc_ckw (fun vs H Q E h => ?_) (fun cdv A outer s H vs Q E hr hx h => ?_)
 . obtain ⟨l, rfl, _⟩ := h; rfl
 . obtain ⟨l, rfl, hl, hs, k, kE⟩ := h
   have nd := sc_ckw.nd
   have big : 2000000 <= sizeLine := by decide
   refine ⟨_, (pss_cons (ps_if (pt_cmpR op_gt (pe_callB call_len_str rfl T.z_len PySem.boot_len (pa_cons (pv 0) pa_nil)) (pe_globE rfl T.g_MOST_LETTERS) (nomark _)) (pss_one (ps_rais hx T.m_Zd T.x_Zd hr rfl (pa_cons (pe_join (pj_cst (pj_int (pe_globE rfl T.g_MOST_LETTERS) (pj_cst (pj_rep (pv 0) pj_nil))))) pa_nil))) pss_nil)
    (pss_one (ps_for PassesOwn.leaving rfl (pi_str (pv 0)) (pg_name (i := 1) nd rfl (Or.inl rfl)) (pss_one (ps_if (pt_cmpR op_notIn_str (pv 1) (pe_globE rfl T.g_LETTERS) (by with_unfolding_all rfl)) (pss_one (ps_rais hx T.m_Zd T.x_Zd hr rfl (pa_cons (pe_join (pj_cst (pj_rep (pv 1) pj_nil))) pa_nil))) pss_nil))))), ?_⟩
   refine ⟨_, rfl, txt l, rfl, by rw [txt_len]; omega, _, _, rfl, rfl, _, rfl, ?_⟩
   rw [txt_len]
   refine iteD2 (fun q => ?_) (fun q => ?_)
   . exact ⟨by decide, _, rfl, log_small (by decide), by decide, by decide, _, rfl, _, rfl, by rw [txt_len]; omega, by rw [txt_cps]; exact hs, by decide, by decide, fun _ => ⟨one_fits, kE fun z => absurd z.1 (by omega)⟩⟩
   refine ⟨_, rfl, _, rfl, for_str (l := l) (fun i σ H2 => (∃ o, σ = [some (.str (txt l)), o]) /\ H2 = H /\ ∀ y ∈ l.take i, IsL y) ⟨⟨none, rfl⟩, rfl, fun y hy => by simp at hy⟩ ?_ ?_⟩
   . rintro i c σ H2 hi ⟨⟨o, rfl⟩, rfl, hp⟩
     refine ⟨_, rfl, _, _, rfl, rfl, _, rfl, ?_⟩
     by_cases hc : IsL c
     . rw [in_all hc]
       refine iteF ⟨⟨_, rfl⟩, rfl, fun y hy => ?_⟩
       rw [List.take_add_one, hi] at hy
       rcases List.mem_append.mp hy with z | z
       . exact hp y z
       . have : y = c := by simpa using z
         subst this; exact hc
     . rw [not_in_all hc]
       refine iteT ⟨by decide, _, rfl, _, rfl, by show 1 <= 1000; decide, fun y hy => ?_, by decide, by decide, fun _ => ⟨one_fits, kE fun z => hc (z.2 c (List.mem_of_getElem? hi))⟩⟩
       have : y = c := by simpa using hy
       subst this
       exact hs y (List.mem_of_getElem? hi)
   . rintro σ H2 ⟨⟨o, rfl⟩, rfl, hp⟩
     rw [List.take_length] at hp
     exact k ⟨by omega, hp⟩
theorem sc_psex : FnScope ["sex"] ["sex"] (defScope (top 14)) := mkSc
theorem ok_psex {f : Addr} {fd : FuncData} (F : Fun K "partner_sex" "partner_sex" (top 14) f fd) : FnOk P w K mg base CX 1 f fd ["sex"] spPartnerSex := by
 refine F.okN sc_psex (fun vs H Q E h => ?_) (fun cdv A outer s H vs Q E hr h => ?_)
 . obtain ⟨m, rfl, _⟩ := h; rfl
 . obtain ⟨m, rfl, k⟩ := h
   refine ⟨_, (pss_one (ps_ret (pe_ifExp (pt_cmpR op_eq (pv 0) pe_str (nomark _)) pe_str pe_str))), ?_⟩
   refine ⟨_, rfl, rfl, _, rfl, ?_⟩
   rw [sex_man]
   cases m
   . exact iteF k
   . exact iteT k
theorem sc_sexa : FnScope ["sex", "letter"] ["sex", "letter"] (defScope (top 15)) := mkSc
theorem ok_sexa {f : Addr} {fd : FuncData} (F : Fun K "sex_after" "sex_after" (top 15) f fd) (T : Txt K mg C e) (hE : NoE CX) (D_partner_sex : Def P w K mg base CX "partner_sex" 1 ["sex"] spPartnerSex) : FnOk P w K mg base CX 2 f fd ["sex", "letter"] spSexAfter := by
 refine F.okN sc_sexa (fun vs H Q E h => ?_) (fun cdv A outer s H vs Q E hr h => ?_)
 . obtain ⟨m, l, rfl, _⟩ := h; rfl
 . obtain ⟨m, l, rfl, hl, k⟩ := h
   refine ⟨_, (pss_cons (ps_if (pt_cmpR op_eq (pv 1) pe_str (nomark _)) (pss_one (ps_ret (pe_callD D_partner_sex hE hr rfl (pa_cons (pv 0) pa_nil)))) pss_nil)
    (pss_one (ps_ret (pe_ifExp (pt_cmpR op_in_str (pv 1) (pe_globE rfl T.g_LETTERS_TO_MEN) (by with_unfolding_all rfl)) pe_str pe_str)))), ?_⟩
   refine ⟨_, rfl, rfl, _, rfl, iteD2 (fun e => ?_) (fun e => ?_)⟩
   . rw [sgn_iff c_p] at e
     subst e
     exact ⟨_, rfl, m, rfl, k⟩
   . rw [sgn_iff c_p] at e
     refine ⟨_, rfl, _, _, rfl, rfl, _, rfl, ?_⟩
     rw [in_men hl]
     have q : stS m l = (l == 102 || l == 115 || l == 98) := by unfold stS; rw [if_neg e]
     rw [<- q]
     generalize stS m l = z at k
     cases z
     . exact iteF k
     . exact iteT k
end
def spWalked (C : Addr) (e : Ad) : Sp := fun vs H Q E => ∃ (p : Addr) (n : Nat) (w h : List Nat) (m : Bool) (c : Int) (l : List Nat), vs = [.ref p, sexV m, .int c, .str (txt l)] /\ TableAt C H p n w h /\ c.natAbs.log2 < 1920 /\ l.length <= 1000 /\ Sg l /\
 (IsW l -> InC n c -> ∀ t, H t = none -> Q (.ref t) (upd H t (.tup (pairV (led w h (m, c.toNat) l))))) /\ (¬ IsW l -> E (.ref e.Zd) none H) /\ (IsW l -> ¬ InC n c -> E (.ref e.Zc) none H)
def spWalkedN (C : Addr) : Sp := fun vs H Q _ => ∃ p n w h m c l, vs = [.ref p, sexV m, nat c, .str (txt l)] /\ TableAt C H p n w h /\ c < n /\ IsW l /\ ∀ t, H t = none -> Q (.ref t) (upd H t (.tup (pairV (led w h (m, c) l))))
theorem walkedN {C : Addr} {e : Ad} : ∀ vs H Q E, spWalkedN C vs H Q E -> spWalked C e vs H Q E := by
 rintro vs H Q E ⟨p, n, w, h, m, c, l, rfl, TA, hc, hw, k⟩
 have n8 := TA.n8
 have p9 : (8 : Nat) < 10 ^ 9 := by decide
 exact ⟨p, n, w, h, m, (c : Int), l, rfl, TA, log_small (by show ((c : Nat) : Int).natAbs < 10 ^ 9; omega), Nat.le_trans hw.1 (by decide), hw.sg, fun _ _ => by rw [Int.toNat_natCast]; exact k, fun z => absurd hw z, fun _ z => absurd ⟨by omega, by omega⟩ z⟩
section
variable {P : Program} {w : World} {K : W.Frag} {mg : Str -> Option Value} {base : Heap} {CX : CXT} {C : Addr} {e : Ad}
theorem no_size (a b c d : Addr) : (flds a b c d).lookup ("size" : Str) = none := flds_no _ _ _ _ (by decide +kernel) (by decide +kernel) (by decide +kernel) (by decide +kernel)
theorem no_check (a b c d : Addr) : (flds a b c d).lookup ("check_class" : Str) = none := flds_no _ _ _ _ (by decide +kernel) (by decide +kernel) (by decide +kernel) (by decide +kernel)
theorem no_wife (a b c d : Addr) : (flds a b c d).lookup ("wife_of" : Str) = none := flds_no _ _ _ _ (by decide +kernel) (by decide +kernel) (by decide +kernel) (by decide +kernel)
theorem no_husband (a b c d : Addr) : (flds a b c d).lookup ("husband_of" : Str) = none := flds_no _ _ _ _ (by decide +kernel) (by decide +kernel) (by decide +kernel) (by decide +kernel)
theorem no_heir (a b c d : Addr) : (flds a b c d).lookup ("heir_of" : Str) = none := flds_no _ _ _ _ (by decide +kernel) (by decide +kernel) (by decide +kernel) (by decide +kernel)
theorem no_father (a b c d : Addr) : (flds a b c d).lookup ("father_of" : Str) = none := flds_no _ _ _ _ (by decide +kernel) (by decide +kernel) (by decide +kernel) (by decide +kernel)
theorem sc_pcls : FnScope ["table", "sex", "c"] ["table", "sex", "c"] (defScope (top 16)) := mkSc
theorem ok_pcls {f : Addr} {fd : FuncData} (F : Fun K "partner_class" "partner_class" (top 16) f fd) (T : Txt K mg C e) (D_wife_of : MDef P w K mg base (CXR P w) C "wife_of" 2 ["self", "c"] (spWife C e)) (D_husband_of : MDef P w K mg base (CXR P w) C "husband_of" 2 ["self", "c"] (spHusband C e)) :
 FnOk P w K mg base (CXR P w) 3 f fd ["table", "sex", "c"] (spPartnerClass C) := by
 refine F.okX sc_pcls (fun vs H Q E h => ?_) (fun cdv A outer s H vs Q E hr hx h => ?_)
 . obtain ⟨p, n, w, h, m, c, rfl, _⟩ := h; rfl
 . obtain ⟨p, n, w', h', m, c, rfl, TA, hc, k⟩ := h
   obtain ⟨dx, a, b, c1, d, e1, e2, e3, e4, e5⟩ := TA.ob
   have D_husband_of := D_husband_of.imp (askN (e := e))
   have D_wife_of := D_wife_of.imp (askN (e := e))
   refine ⟨_, (pss_one (ps_ret (pe_ifExp (pt_cmpR op_eq (pv 1) pe_str (nomark _)) (pe_methX (pv 0) T.cl_Table D_wife_of hx.s hr (pa_cons (pv 2) pa_nil)) (pe_methX (pv 0) T.cl_Table D_husband_of hx.s hr (pa_cons (pv 2) pa_nil))))), ?_⟩
   refine ⟨_, rfl, rfl, _, rfl, ?_⟩
   rw [sex_man]
   cases m
   . exact iteF ⟨_, rfl, p, dx, _, rfl, e1, no_husband .., _, rfl, p, n, w', h', c, rfl, TA, hc, k⟩
   . exact iteT ⟨_, rfl, p, dx, _, rfl, e1, no_wife .., _, rfl, p, n, w', h', c, rfl, TA, hc, k⟩
theorem sc_ccls : FnScope ["table", "sex", "c"] ["table", "sex", "c"] (defScope (top 17)) := mkSc
theorem ok_ccls {f : Addr} {fd : FuncData} (F : Fun K "child_class" "child_class" (top 17) f fd) (T : Txt K mg C e) (D_heir_of : MDef P w K mg base (CXR P w) C "heir_of" 2 ["self", "c"] (spHeir C e)) (D_husband_of : MDef P w K mg base (CXR P w) C "husband_of" 2 ["self", "c"] (spHusband C e)) :
 FnOk P w K mg base (CXR P w) 3 f fd ["table", "sex", "c"] (spChildClass C) := by
 refine F.okX sc_ccls (fun vs H Q E h => ?_) (fun cdv A outer s H vs Q E hr hx h => ?_)
 . obtain ⟨p, n, w, h, m, c, rfl, _⟩ := h; rfl
 . obtain ⟨p, n, w', h', m, c, rfl, TA, hc, k⟩ := h
   obtain ⟨dx, a, b, c1, d, e1, e2, e3, e4, e5⟩ := TA.ob
   have D_husband_of := D_husband_of.imp (askN (e := e))
   have D_heir_of := D_heir_of.imp (askN (e := e))
   refine ⟨_, (pss_one (ps_ret (pe_methX (pv 0) T.cl_Table D_heir_of hx.s hr (pa_cons (pe_ifExp (pt_cmpR op_eq (pv 1) pe_str (nomark _)) (pv 2) (pe_methX (pv 0) T.cl_Table D_husband_of hx.s hr (pa_cons (pv 2) pa_nil))) pa_nil)))), ?_⟩
   refine ⟨_, rfl, p, dx, _, rfl, e1, no_heir .., _, rfl, rfl, _, rfl, ?_⟩
   rw [sex_man]
   cases m
   . exact iteF ⟨_, rfl, p, dx, _, rfl, e1, no_husband .., _, rfl, p, n, w', h', c, rfl, TA, hc, p, n, w', h', bw w' c, rfl, TA, bw_lt TA.tw hc, k⟩
   . exact iteT ⟨_, rfl, p, n, w', h', c, rfl, TA, hc, k⟩
theorem sc_clsa : FnScope ["table", "sex", "c", "letter"] ["table", "sex", "c", "letter"] (defScope (top 18)) := mkSc
theorem ok_clsa {f : Addr} {fd : FuncData} (F : Fun K "class_after" "class_after" (top 18) f fd) (T : Txt K mg C e) (D_wife_of : MDef P w K mg base (CXR P w) C "wife_of" 2 ["self", "c"] (spWife C e)) (D_father_of : MDef P w K mg base (CXR P w) C "father_of" 2 ["self", "c"] (spFather C e))
 (D_partner_class : Def P w K mg base (CXR P w) "partner_class" 3 ["table", "sex", "c"] (spPartnerClass C)) (D_child_class : Def P w K mg base (CXR P w) "child_class" 3 ["table", "sex", "c"] (spChildClass C)) : FnOk P w K mg base (CXR P w) 4 f fd ["table", "sex", "c", "letter"] (spClassAfter C) := by
 refine F.okX sc_clsa (fun vs H Q E h => ?_) (fun cdv A outer s H vs Q E hr hx h => ?_)
 . obtain ⟨p, n, w, h, m, c, l, rfl, _⟩ := h; rfl
 . obtain ⟨p, n, w', h', m, c, l, rfl, TA, hc, hl, k⟩ := h
   obtain ⟨dx, a, b, c1, d, e1, e2, e3, e4, e5⟩ := TA.ob
   have D_father_of := D_father_of.imp (askN (e := e))
   have D_wife_of := D_wife_of.imp (askN (e := e))
   refine ⟨_, (pss_cons (ps_if (pt_cmpR op_eq (pv 3) pe_str (nomark _)) (pss_one (ps_ret (pe_methX (pv 0) T.cl_Table D_father_of hx.s hr (pa_cons (pv 2) pa_nil)))) pss_nil)
    (pss_cons (ps_if (pt_cmpR op_eq (pv 3) pe_str (nomark _)) (pss_one (ps_ret (pe_methX (pv 0) T.cl_Table D_wife_of hx.s hr (pa_cons (pe_methX (pv 0) T.cl_Table D_father_of hx.s hr (pa_cons (pv 2) pa_nil)) pa_nil)))) pss_nil)
    (pss_cons (ps_if (pt_cmpR op_eq (pv 3) pe_str (nomark _)) (pss_one (ps_ret (pe_callX D_partner_class hx.s hr rfl (pa_cons (pv 0) (pa_cons (pv 1) (pa_cons (pv 2) pa_nil)))))) pss_nil)
    (pss_cons (ps_if (PW.pt (pw_or (pt_cmpR op_eq (pv 3) pe_str (nomark _)) (pw_or1 (pt_cmpR op_eq (pv 3) pe_str (nomark _))))) (pss_one (ps_ret (pe_callX D_child_class hx.s hr rfl (pa_cons (pv 0) (pa_cons (pv 1) (pa_cons (pv 2) pa_nil)))))) pss_nil)
    (pss_one (ps_ret (pv 2))))))), ?_⟩
   refine ⟨_, rfl, rfl, _, rfl, iteD2 (fun e => ?_) (fun e => ?_)⟩
   . rw [sgn_iff c_f] at e
     subst e
     exact ⟨_, rfl, p, dx, _, rfl, e1, no_father .., _, rfl, p, n, w', h', c, rfl, TA, hc, k⟩
   rw [sgn_iff c_f] at e
   refine ⟨_, rfl, rfl, _, rfl, iteD2 (fun e' => ?_) (fun e' => ?_)⟩
   . rw [sgn_iff c_m] at e'
     subst e'
     exact ⟨_, rfl, p, dx, _, rfl, e1, no_wife .., _, rfl, p, dx, _, rfl, e1, no_father .., _, rfl, p, n, w', h', c, rfl, TA, hc, p, n, w', h', bw h' c, rfl, TA, bw_lt TA.th hc, k⟩
   rw [sgn_iff c_m] at e'
   refine ⟨_, rfl, rfl, _, rfl, iteD2 (fun e2' => ?_) (fun e2' => ?_)⟩
   . rw [sgn_iff c_p] at e2'
     subst e2'
     exact ⟨_, rfl, _, rfl, _, rfl, p, n, w', h', m, c, rfl, TA, hc, k⟩
   rw [sgn_iff c_p] at e2'
   have kk : (l = 115 \/ l = 100) -> Q (nat (fw h' (if m then c else bw w' c))) H := fun q => by
    have z : stC w' h' m c l = fw h' (if m then c else bw w' c) := by unfold stC; rw [if_neg e, if_neg e', if_neg e2', if_pos q]
    rw [z] at k; exact k
   refine ⟨_, rfl, rfl, _, rfl, iteD2 (fun e3' => ?_) (fun e3' => ?_)⟩
   . rw [sgn_iff c_s] at e3'
     exact iteT ⟨_, rfl, _, rfl, _, rfl, p, n, w', h', m, c, rfl, TA, hc, kk (.inl e3')⟩
   rw [sgn_iff c_s] at e3'
   refine ⟨_, rfl, rfl, _, rfl, iteD2 (fun e4' => ?_) (fun e4' => ?_)⟩
   . rw [sgn_iff c_d] at e4'
     exact ⟨_, rfl, _, rfl, _, rfl, p, n, w', h', m, c, rfl, TA, hc, kk (.inr e4')⟩
   rw [sgn_iff c_d] at e4'
   have z : stC w' h' m c l = c := by unfold stC; rw [if_neg e, if_neg e', if_neg e2', if_neg (fun q => q.elim e3' e4')]
   rw [z] at k
   exact ⟨_, rfl, k⟩
theorem led_take {w h : List Nat} {s : Bool × Nat} {l : List Nat} {i x : Nat} (hi : l[i]? = some x) : led w h s (l.take (i + 1)) = step w h (led w h s (l.take i)) x := by
 rw [List.take_add_one, hi, led_append]
 rfl
theorem sc_walked : FnScope ["table", "sex", "c", "walk", "here_sex", "here", "letter"] ["table", "sex", "c", "walk"] (defScope (top 19)) := mkSc
theorem ok_walked {f : Addr} {fd : FuncData} (F : Fun K "walked" "walked" (top 19) f fd) (T : Txt K mg C e) (D_check_walk : Def P w K mg base (CXR P w) "check_walk" 1 ["walk"] (spCheckWalk e)) (D_check_class : MDef P w K mg base (CXR P w) C "check_class" 1 ["self", "c"] (spCheck C e))
 (D_class_after : Def P w K mg base (CXR P w) "class_after" 4 ["table", "sex", "c", "letter"] (spClassAfter C)) (D_sex_after : Def P w K mg base (CXR P w) "sex_after" 2 ["sex", "letter"] spSexAfter) : FnOk P w K mg base (CXR P w) 5 f fd ["table", "sex", "c", "walk"] (spWalked C e) := by
 refine F.okX sc_walked (fun vs H Q E h => ?_) (fun cdv A outer s H vs Q E hr hx h => ?_)
 . obtain ⟨p, n, w, h, m, c, l, rfl, _⟩ := h; rfl
 . obtain ⟨p, n, w', h', m, c, l, rfl, TA, sm, hl, hs, k, kE, kC⟩ := h
   have nd := sc_walked.nd
   obtain ⟨dx, a, b, c1, d, e1, e2, e3, e4, e5⟩ := TA.ob
   refine ⟨_, (pss_cons (ps_expr (pe_callX D_check_walk hx.s hr rfl (pa_cons (pv 3) pa_nil)))
    (pss_cons (ps_expr (pe_methX (pv 0) T.cl_Table D_check_class hx.s hr (pa_cons (pv 2) pa_nil)))
    (pss_cons (ps_set (i := 4) nd rfl (Or.inl rfl) (pv 1))
    (pss_cons (ps_set (i := 5) nd rfl (Or.inl rfl) (pv 2))
    (pss_cons (ps_for PassesOwn.leaving rfl (pi_str (pv 3)) (pg_name (i := 6) nd rfl (Or.inl rfl)) (pss_cons (ps_set (i := 5) nd rfl (Or.inl rfl) (pe_callX D_class_after hx.s hr rfl (pa_cons (pv 0) (pa_cons (pv 4) (pa_cons (pv 5) (pa_cons (pv 6) pa_nil))))))
    (pss_one (ps_set (i := 4) nd rfl (Or.inl rfl) (pe_callX D_sex_after hx.s hr rfl (pa_cons (pv 4) (pa_cons (pv 6) pa_nil)))))))
    (pss_one (ps_ret (pe_tup (pa_cons (pv 4) (pa_cons (pv 5) pa_nil)))))))))), ?_⟩
   refine ⟨_, rfl, l, rfl, hl, hs, fun hw => ?_, kE⟩
   refine ⟨_, rfl, p, dx, _, rfl, e1, no_check .., _, rfl, p, n, w', h', c, rfl, TA, sm, fun hc => ?_, kC hw⟩
   have hn : c.toNat < n := by obtain ⟨h1, h2⟩ := hc; omega
   have ec : c = ((c.toNat : Nat) : Int) := by obtain ⟨h1, h2⟩ := hc; omega
   have kk := k hw hc
   generalize c.toNat = c' at hn ec kk
   subst ec
   refine ⟨_, rfl, _, rfl, _, rfl, _, rfl, for_str (l := l) (fun i σ H2 => (∃ o, σ = [some (.ref p), some (sexV m), some (nat c'), some (.str (txt l)), some (sexV (led w' h' (m, c') (l.take i)).1), some (nat (led w' h' (m, c') (l.take i)).2), o]) /\ H2 = H) ⟨⟨none, rfl⟩, rfl⟩ ?_ ?_⟩
   . rintro i x σ H2 hi ⟨⟨o, rfl⟩, rfl⟩
     have hx : IsL x := hw.2 x (List.mem_of_getElem? hi)
     refine ⟨_, rfl, _, rfl, _, rfl, _, rfl, p, n, w', h', (led w' h' (m, c') (l.take i)).1, (led w' h' (m, c') (l.take i)).2, x, rfl, TA, led_lt TA.tw TA.th _ _ hn, hx, ?_⟩
     refine ⟨_, rfl, _, rfl, (led w' h' (m, c') (l.take i)).1, x, rfl, hx, ⟨some (sgn x), ?_⟩, rfl⟩
     rw [led_take hi]
     rfl
   . rintro σ H2 ⟨⟨o, rfl⟩, rfl⟩
     rw [List.take_length]
     exact ⟨_, rfl, _, rfl, two_fits, fun t ht => kk t ht⟩
end
def spCellAt (K : W.Frag) : Sp := fun vs H Q _ => ∃ (a : Addr) (ns : List Int) (k : Nat), vs = [.ref a, nat k] /\ SqL K H a (ns.map V.int) /\ ∀ z, z = (ns[k]?).getD 0 -> Q (.int z) H
def spWhole : Sp := fun vs H Q _ => ∃ i, vs = [.int i] /\ Q (.bl true) H
def spTurnBy : Sp := fun vs H Q _ => ∃ z n, vs = [.int z, nat n] /\ n <= 8 /\ ∀ w D H', IsTurn n w -> H D = none -> Same H H' -> H' D = some (.lst (natL w)) -> Q (.ref D) H'
def spLaw (K : W.Frag) : Sp := fun vs H Q _ => ∃ (a : Addr) (ns : List Int), vs = [.ref a] /\ ns.length <= 63 /\ SqL K H a (ns.map V.int) /\ ∀ H', Q (.bl true) H'
section
variable {P : Program} {w : World} {K : W.Frag} {mg : Str -> Option Value} {base : Heap} {CX : CXT} {C : Addr} {e : Ad}
theorem sc_cell : FnScope ["script", "k"] ["script", "k"] (defScope (top 35)) := mkSc
theorem ok_cell {f : Addr} {fd : FuncData} (F : Fun K "_law_cell_at" "_law_cell_at" (top 35) f fd) (T : Txt K mg C e) : FnOk P w K mg base CX 1 f fd ["script", "k"] (spCellAt K) := by
 refine F.okN sc_cell (fun vs H Q E h => ?_) (fun cdv A outer s H vs Q E hr h => ?_)
 . obtain ⟨a, ns, k, rfl, _⟩ := h; rfl
 . obtain ⟨a, ns, c, rfl, hS, k⟩ := h
   refine ⟨_, (pss_cons (ps_if (pt_cmpR op_lt (pv 1) (pe_callB call_len_seq rfl T.z_len PySem.boot_len (pa_cons (pv 0) pa_nil)) (nomark _)) (pss_one (ps_ret (pe_ix ix_list (pv 0) (pv 1) (fun _ _ => rfl)))) pss_nil)
    (pss_one (ps_ret pe_int))), ?_⟩
   refine ⟨_, rfl, _, rfl, a, _, rfl, .inl hS, _, _, rfl, rfl, _, rfl, iteD2 (fun e => ?_) (fun e => k 0 (by rw [List.length_map] at e; rw [List.getElem?_eq_none (by omega)]; rfl))⟩
   rw [List.length_map] at e
   have hlt : c < ns.length := by omega
   exact ⟨_, rfl, _, rfl, a, _, _, V.int ns[c], rfl, rfl, hS, atI_nat (by rw [List.getElem?_map, List.getElem?_eq_getElem hlt]; rfl), k _ (by rw [List.getElem?_eq_getElem hlt]; rfl)⟩
theorem sc_whole : FnScope ["found"] ["found"] (defScope (top 36)) := mkSc
theorem ok_whole {f : Addr} {fd : FuncData} (F : Fun K "_law_whole" "_law_whole" (top 36) f fd) (T : Txt K mg C e) : FnOk P w K mg base CX 1 f fd ["found"] spWhole := by
 refine F.okN sc_whole (fun vs H Q E h => ?_) (fun cdv A outer s H vs Q E hr h => ?_)
 . obtain ⟨i, rfl, _⟩ := h; rfl
 . obtain ⟨i, rfl, k⟩ := h
   refine ⟨_, (pss_one (ps_ret (pe_and (pe_callB call_isinst rfl T.z_isinstance bt_isinstance (pa_cons (pv 0) (pa_cons (pe_bltn (v := .ty "int") rfl T.z_int bt_int rfl) pa_nil))) (pe_one (pe_not (pe_callB call_isinst rfl T.z_isinstance bt_isinstance (pa_cons (pv 0) (pa_cons (pe_bltn (v := .ty "bool") rfl T.z_bool bt_bool rfl) pa_nil)))))))), ?_⟩
   refine ⟨_, rfl, V.int i, "int", _, true, rfl, TyOf.int i, kit_same, _, rfl, iteT ?_⟩
   exact ⟨_, rfl, V.int i, "bool", _, false, rfl, TyOf.int i, kit_ib, _, rfl, k⟩
theorem natL_erase : ∀ (l : List Nat) (k : Nat), (natL l).eraseIdx k = natL (l.eraseIdx k)
 | [], _ => rfl
 | _ :: _, 0 => rfl
 | a :: r, k + 1 => by
   show (nat a :: natL r).eraseIdx (k + 1) = _
   rw [List.eraseIdx_cons_succ, natL_erase r k]
   rfl
theorem natL_snoc (l : List Nat) (x : Nat) : natL l ++ [nat x] = natL (l ++ [x]) := by unfold natL; rw [List.map_append]; rfl
theorem sc_turnby : FnScope ["cell", "many", "rest", "out"] ["cell", "many"] (defScope (top 38)) := mkSc
theorem ok_turnby {f : Addr} {fd : FuncData} (F : Fun K "_law_turn_by" "_law_turn_by" (top 38) f fd) (T : Txt K mg C e) : FnOk P w K mg base CX 1 f fd ["cell", "many"] spTurnBy := by
 refine F.okN sc_turnby (fun vs H Q E h => ?_) (fun cdv A outer s H vs Q E hr h => ?_)
 . obtain ⟨z, n, rfl, _⟩ := h; rfl
 . obtain ⟨z, n, rfl, n8, k⟩ := h
   have nd := sc_turnby.nd
   refine ⟨_, (pss_cons (ps_setComp (i := 2) nd rfl (Or.inl rfl) (fv := []) ⟨rfl, by decide +kernel, rfl, by decide +kernel, rfl, by decide +kernel, trivial, rfl, rfl⟩ rfl (pi_range1 rfl T.z_range (pa_cons (pv 1) pa_nil)) (fun _ _ _ => (pv 0)))
    (pss_cons (ps_set (i := 3) nd rfl (Or.inl rfl) (pe_lst pa_nil))
    (pss_cons (ps_while PassesOwn.never (pt_cmpR op_gt (pe_callB call_len_seq rfl T.z_len PySem.boot_len (pa_cons (pv 2) pa_nil)) pe_int (nomark _)) (pss_cons (ps_set (i := 0) nd rfl (Or.inl rfl) (pe_op op_mod (pe_op op_add (pe_op op_mul (pv 0) pe_int) pe_int) pe_int))
    (pss_one (ps_expr (pe_bm PySem.F.plainAttrs_list PySem.F.slot_list_append PySem.F.type_list_append mt_append (pv 3) (pa_cons (pe_bm PySem.F.plainAttrs_list PySem.F.slot_list_pop PySem.F.type_list_pop mt_popAt (pv 2) (pa_cons (pe_op op_mod (pe_op op_fdiv (pv 0) pe_int) (pe_callB call_len_seq rfl T.z_len PySem.boot_len (pa_cons (pv 2) pa_nil))) pa_nil)) pa_nil))))))
    (pss_one (ps_ret (pv 3)))))), ?_⟩
   refine ⟨_, rfl, _, rfl, by omega, by omega, ?_⟩
   rw [Int.toNat_natCast]
   refine comp_range0 (fun i => nat i) (Nat.le_trans n8 (by decide)) (fun i H' R hi sm kk _ _ _ => ⟨_, rfl, kk H' (Same.refl _)⟩) fun r H1 hr1 s1 hl1 => ?_
   refine ⟨by decide, fun o ho => ?_⟩
   have nro : r ≠ o := ne_of_none hl1 ho
   have hoH : H o = none := s1.free ho
   refine ⟨fun m σ H2 => ∃ (z' : Int) (rest out : List Nat), m = rest.length /\ σ = [some (.int z'), some (nat n), some (.ref r), some (.ref o)] /\ Same H H2 /\ H2 r = some (.lst (natL rest)) /\ H2 o = some (.lst (natL out)) /\ (rest ++ out).Perm (List.range n),
    ⟨_, z, List.range n, [], rfl, rfl, same_upd s1 hoH, by rw [upd_ne nro]; exact hl1, upd_same, by rw [List.append_nil]⟩, ?_⟩
   rintro m σ H2 ⟨z', rest, out, rfl, rfl, s2, hr2, ho2, pm⟩
   have hlen := pm.length_eq
   rw [List.length_append, List.length_range] at hlen
   refine ⟨_, rfl, r, _, rfl, .inl (SqL.of hr2), _, _, rfl, rfl, _, rfl, ?_⟩
   rw [natL_len]
   refine iteD2 (fun hpos => ?_) (fun hz => ?_)
   . refine ⟨fun σ' H' => ∃ (z' : Int) (rest' out : List Nat), rest'.length + 1 = rest.length /\ σ' = [some (.int z'), some (nat n), some (.ref r), some (.ref o)] /\ Same H H' /\ H' r = some (.lst (natL rest')) /\ H' o = some (.lst (natL out)) /\ (rest' ++ out).Perm (List.range n),
      fun σ' H' ⟨z', rest', out, h1, h2⟩ => ⟨rest'.length, by omega, z', rest', out, rfl, h2⟩, ?_⟩
     refine ⟨_, rfl, _, _, rfl, rfl, .inr ⟨by decide, by decide⟩, _, _, rfl, rfl, _, _, rfl, rfl, (show (0 : Int) < 2147483647 by decide), ?_⟩
     refine ⟨_, rfl, .inl ⟨rfl, _, SqL.of ho2⟩, _, rfl, .inl ⟨rfl, _, SqL.of hr2⟩, _, rfl, _, _, rfl, rfl, ⟨by decide, by decide⟩, _, rfl, r, _, rfl, .inl (SqL.of hr2), _, _, rfl, rfl, by rw [natL_len]; exact hpos, ?_⟩
     rw [natL_len]
     dsimp only
     generalize hq : ((z' * 48271 + 29) % 2147483647 / 3 % (rest.length : Int)) = q
     have q0 : 0 <= q := by rw [<- hq]; exact Int.emod_nonneg _ (by omega)
     have q1 : q < rest.length := by rw [<- hq]; exact Int.emod_lt_of_pos _ hpos
     have qn : q.toNat < rest.length := by omega
     have hx : rest[q.toNat]? = some rest[q.toNat] := List.getElem?_eq_getElem qn
     refine ⟨r, _, q, q.toNat, nat rest[q.toNat], rfl, rfl, hr2, by omega, by omega, by rw [natL_len]; exact seqIndex_of q0 q1, natL_get hx, ?_⟩
     refine ⟨o, _, _, rfl, rfl, by rw [upd_ne (Ne.symm nro)]; exact ho2, by rw [natL_len]; have : 8 < sizeLine := by decide
                                                                            omega, ?_⟩
     refine ⟨_, rest.eraseIdx q.toNat, out ++ [rest[q.toNat]], ?_, rfl, ?_, ?_, ?_, perm_pick pm hx⟩
     . rw [List.length_eraseIdx, if_pos qn]; omega
     . exact same_upd (same_upd s2 hr1) hoH
     . rw [upd_ne nro, upd_same, natL_erase]
     . rw [upd_same, natL_snoc]
   . have hz' : rest = [] := List.length_eq_zero_iff.mp (by omega)
     subst hz'
     exact ⟨_, rfl, k out o H2 pm hoH s2 ho2⟩
end
abbrev Per := Bool × Option (Nat × Nat)
structure Bk where
 ps : List Per
 prs : List (Nat × Nat)
def faV (x : Per) : V := match x.2 with
 | none => .non
 | some q => nat q.1
def moV (x : Per) : V := match x.2 with
 | none => .non
 | some q => nat q.2
def perSex (x : Per) : V := sexV x.1
def IsS (bk : Bk) (i : Nat) (s : Bool) : Prop := ∃ x, bk.ps[i]? = some x /\ x.1 = s
def mates (prs : List (Nat × Nat)) (i : Nat) : List Nat := (prs.filter fun q => decide (q.1 = i)).map (·.2) ++ (prs.filter fun q => decide (q.2 = i)).map (·.1)
structure BkOk (bk : Bk) : Prop where
 n60 : bk.ps.length <= 60
 pl : bk.prs.length <= 1000
 par : ∀ x ∈ bk.ps, ∀ q, x.2 = some q -> IsS bk q.1 true /\ IsS bk q.2 false /\ q ∈ bk.prs
 pr : ∀ q ∈ bk.prs, IsS bk q.1 true /\ IsS bk q.2 false
 nd : bk.prs.Nodup
def Bk.add (bk : Bk) (x : Per) : Bk := ⟨bk.ps ++ [x], bk.prs⟩
def Bk.pair (bk : Bk) (q : Nat × Nat) : Bk := ⟨bk.ps, if q ∈ bk.prs then bk.prs else bk.prs ++ [q]⟩
theorem IsS.lt {bk : Bk} {i : Nat} {s : Bool} (h : IsS bk i s) : i < bk.ps.length := by
 obtain ⟨x, hx, _⟩ := h
 exact (List.getElem?_eq_some_iff.mp hx).1
theorem IsS.uniq {bk : Bk} {i : Nat} {s t : Bool} (h : IsS bk i s) (g : IsS bk i t) : s = t := by
 obtain ⟨x, hx, rfl⟩ := h
 obtain ⟨y, hy, rfl⟩ := g
 rw [hx] at hy
 cases Option.some.inj hy
 rfl
theorem IsS.add {bk : Bk} {i : Nat} {s : Bool} {x : Per} (h : IsS bk i s) : IsS (bk.add x) i s := by
 obtain ⟨y, hy, rfl⟩ := h
 exact ⟨y, by show (bk.ps ++ [x])[i]? = some y; rw [List.getElem?_append_left (List.getElem?_eq_some_iff.mp hy).1]; exact hy, rfl⟩
theorem BkOk.added {bk : Bk} (h : BkOk bk) {x : Per} (n : bk.ps.length < 60) (hx : ∀ q, x.2 = some q -> IsS bk q.1 true /\ IsS bk q.2 false /\ q ∈ bk.prs) : BkOk (bk.add x) := by
 refine ⟨by show (bk.ps ++ [x]).length <= 60; rw [List.length_append]; show _ + 1 <= 60; omega, h.pl, fun y hy q hq => ?_, fun q hq => ⟨(h.pr q hq).1.add, (h.pr q hq).2.add⟩, h.nd⟩
 rcases List.mem_append.mp hy with z | z
 . obtain ⟨a, b, c⟩ := h.par y z q hq
   exact ⟨a.add, b.add, c⟩
 . rw [List.mem_singleton.mp z] at hq
   obtain ⟨a, b, c⟩ := hx q hq
   exact ⟨a.add, b.add, c⟩
theorem BkOk.paired {bk : Bk} (h : BkOk bk) {q : Nat × Nat} (n : bk.prs.length < 1000) (h1 : IsS bk q.1 true) (h2 : IsS bk q.2 false) : BkOk (bk.pair q) := by
 unfold Bk.pair
 by_cases z : q ∈ bk.prs
 . rw [if_pos z]; exact h
 . rw [if_neg z]
   refine ⟨h.n60, by show (bk.prs ++ [q]).length <= 1000; rw [List.length_append]; show _ + 1 <= 1000; omega, fun x hx r hr => ?_, fun r hr => ?_, ?_⟩
   . obtain ⟨a, b, c⟩ := h.par x hx r hr
     exact ⟨a, b, List.mem_append_left _ c⟩
   . rcases List.mem_append.mp hr with y | y
     . exact h.pr r y
     . rw [List.mem_singleton.mp y]; exact ⟨h1, h2⟩
   . rw [List.nodup_append]
     exact ⟨h.nd, List.nodup_cons.mpr ⟨fun y => (List.not_mem_nil y), List.nodup_nil⟩, fun a ha b hb e => z (by rw [<- List.mem_singleton.mp hb, <- e]; exact ha)⟩
theorem mem_pair {bk : Bk} {q : Nat × Nat} : q ∈ (bk.pair q).prs := by
 unfold Bk.pair
 by_cases z : q ∈ bk.prs
 . rw [if_pos z]; exact z
 . rw [if_neg z]; exact List.mem_append_right _ (List.mem_singleton.mpr rfl)
theorem mates_snoc (prs : List (Nat × Nat)) (q : Nat × Nat) (i : Nat) (h : q.1 = i -> ∀ r ∈ prs, r.2 ≠ i) : mates (prs ++ [q]) i = mates prs i ++ ((if q.1 = i then [q.2] else []) ++ (if q.2 = i then [q.1] else [])) := by
 unfold mates
 rw [List.filter_append, List.filter_append, List.map_append, List.map_append]
 by_cases a : q.1 = i
 . have e : prs.filter (fun q => decide (q.2 = i)) = [] := List.filter_eq_nil_iff.mpr fun r hr => by rw [decide_eq_false (h a r hr)]; exact Bool.false_ne_true
   rw [e, if_pos a]
   by_cases b : q.2 = i
   . simp [a, b]
   . simp [a, b]
 . rw [if_neg a]
   by_cases b : q.2 = i
   . simp [a, b]
   . simp [a, b]
theorem u12 : ¬ (("sexes" : Str) = "fathers") := by decide +kernel
theorem u13 : ¬ (("sexes" : Str) = "mothers") := by decide +kernel
theorem u14 : ¬ (("sexes" : Str) = "partner_lists") := by decide +kernel
theorem u23 : ¬ (("fathers" : Str) = "mothers") := by decide +kernel
theorem u24 : ¬ (("fathers" : Str) = "partner_lists") := by decide +kernel
theorem u34 : ¬ (("mothers" : Str) = "partner_lists") := by decide +kernel
def bfl (a b c d : Addr) : List (Str × V) := putF "partner_lists" (.ref d) (putF "mothers" (.ref c) (putF "fathers" (.ref b) (putF "sexes" (.ref a) [])))
theorem bfl_s (a b c d : Addr) : (bfl a b c d).lookup ("sexes" : Str) = some (.ref a) := by
 unfold bfl
 rw [lookup_putF, if_neg u14, lookup_putF, if_neg u13, lookup_putF, if_neg u12, lookup_putF, if_pos rfl]
theorem bfl_f (a b c d : Addr) : (bfl a b c d).lookup ("fathers" : Str) = some (.ref b) := by
 unfold bfl
 rw [lookup_putF, if_neg u24, lookup_putF, if_neg u23, lookup_putF, if_pos rfl]
theorem bfl_m (a b c d : Addr) : (bfl a b c d).lookup ("mothers" : Str) = some (.ref c) := by
 unfold bfl
 rw [lookup_putF, if_neg u34, lookup_putF, if_pos rfl]
theorem bfl_p (a b c d : Addr) : (bfl a b c d).lookup ("partner_lists" : Str) = some (.ref d) := by
 unfold bfl
 rw [lookup_putF, if_pos rfl]
theorem bfl_no (a b c d : Addr) {m : Str} (h1 : ¬ m = "partner_lists") (h2 : ¬ m = "mothers") (h3 : ¬ m = "fathers") (h4 : ¬ m = "sexes") : (bfl a b c d).lookup m = none := by
 unfold bfl
 rw [lookup_putF, if_neg h1, lookup_putF, if_neg h2, lookup_putF, if_neg h3, lookup_putF, if_neg h4]
 all_goals rfl
structure BookAt (B : Addr) (H : Hp) (p : Addr) (fp : List Addr) (bk : Bk) : Prop where
 ok : BkOk bk
 nd : fp.Nodup
 ob : ∃ dx a b c d qs, fp = a :: b :: c :: d :: qs /\ H p = some (.ins B dx (bfl a b c d)) /\ H a = some (.lst (bk.ps.map perSex)) /\ H b = some (.lst (bk.ps.map faV)) /\ H c = some (.lst (bk.ps.map moV)) /\ H d = some (.lst (qs.map V.ref)) /\
  qs.length = bk.ps.length /\ ∀ (i : Nat) q, qs[i]? = some q -> H q = some (.lst (natL (mates bk.prs i)))
theorem BookAt.keep {B : Addr} {H H' : Hp} {p : Addr} {fp : List Addr} {bk : Bk} (T : BookAt B H p fp bk) (s : ∀ c o, H c = some o -> c ∈ p :: fp -> H' c = some o) : BookAt B H' p fp bk := by
 obtain ⟨ok, nd, dx, a, b, c, d, qs, rfl, e1, e2, e3, e4, e5, e6, e7⟩ := T
 exact ⟨ok, nd, dx, a, b, c, d, qs, rfl, s _ _ e1 (by simp), s _ _ e2 (by simp), s _ _ e3 (by simp), s _ _ e4 (by simp), s _ _ e5 (by simp), e6, fun i q h => s _ _ (e7 i q h) (by simp [List.mem_of_getElem? h])⟩
theorem BookAt.same {B : Addr} {H H' : Hp} {p : Addr} {fp : List Addr} {bk : Bk} (T : BookAt B H p fp bk) (s : Same H H') : BookAt B H' p fp bk := T.keep fun c o h _ => s c o h
theorem BookAt.held {B : Addr} {H : Hp} {p : Addr} {fp : List Addr} {bk : Bk} (T : BookAt B H p fp bk) {c : Addr} (hc : c ∈ p :: fp) : ∃ o, H c = some o := by
 obtain ⟨ok, nd, dx, a, b, c1, d, qs, rfl, e1, e2, e3, e4, e5, e6, e7⟩ := T
 simp only [List.mem_cons] at hc
 rcases hc with rfl | rfl | rfl | rfl | rfl | h
 . exact ⟨_, e1⟩
 . exact ⟨_, e2⟩
 . exact ⟨_, e3⟩
 . exact ⟨_, e4⟩
 . exact ⟨_, e5⟩
 . obtain ⟨i, hi⟩ := List.getElem?_of_mem h
   exact ⟨_, e7 i c hi⟩
def After (B : Addr) (H : Hp) (p : Addr) (fp : List Addr) (bk' : Bk) (K : Hp -> Prop) : Prop :=
 ∀ fp' H', BookAt B H' p fp' bk' -> (∀ c o, H c = some o -> c ∉ fp -> H' c = some o) -> (∀ c ∈ fp', c ∈ fp \/ H c = none) -> (∀ c ∈ fp, c ∈ fp') -> K H'
theorem gone {B : Addr} {H H' : Hp} {p : Addr} {fp fp' : List Addr} {bk' : Bk} (BA : BookAt B H' p fp' bk') (kp : ∀ c o, H c = some o -> c ∉ fp -> H' c = some o) (sb : ∀ c ∈ fp, c ∈ fp') (c : Addr) (h : H' c = none) : H c = none := by
 cases y : H c with
 | none => rfl
 | some o =>
   by_cases q : c ∈ fp
   . obtain ⟨o', ho'⟩ := BA.held (List.mem_cons_of_mem p (sb c q))
     rw [h] at ho'; cases ho'
   . rw [kp c o y q] at h; cases h
def Cpl (bk : Bk) (i j : Int) : Prop := ∃ m f : Nat, i = (m : Int) /\ j = (f : Int) /\ IsS bk m true /\ IsS bk f false
abbrev InB (bk : Bk) (i : Int) : Prop := InC bk.ps.length i
abbrev Sn (i : Int) : Prop := i.natAbs.log2 < 1920
def spAskB (e : Ad) (R : Bk -> Nat -> V -> Prop) : Sp := fun vs H Q E => ∃ (p : Addr) (fp : List Addr) (bk : Bk) (i : Int), vs = [.ref p, .int i] /\ BookAt e.Book H p fp bk /\ Sn i /\ (InB bk i -> ∀ v, R bk i.toNat v -> Q v H) /\ (¬ InB bk i -> E (.ref e.Zf) none H)
abbrev spCheckP (e : Ad) : Sp := spAskB e fun _ _ v => v = .non
abbrev spSexOf (e : Ad) : Sp := spAskB e fun bk i v => ∃ x, bk.ps[i]? = some x /\ v = sexV x.1
def spListB (e : Ad) (R : Bk -> Nat -> List Nat -> Prop) : Sp := fun vs H Q E => ∃ (p : Addr) (fp : List Addr) (bk : Bk) (i : Int), vs = [.ref p, .int i] /\ BookAt e.Book H p fp bk /\ Sn i /\ (InB bk i -> ∀ l D H', R bk i.toNat l -> H D = none -> Same H H' -> H' D = some (.lst (natL l)) -> Q (.ref D) H') /\ (¬ InB bk i -> E (.ref e.Zf) none H)
def kids (bk : Bk) (a : Nat) : List Nat := (List.range bk.ps.length).filter fun i => match bk.ps[i]? with
 | some x => inV (nat a) [faV x, moV x]
 | none => false
abbrev spChildrenB (e : Ad) : Sp := spListB e fun bk i l => l = kids bk i
def spSizeB (e : Ad) : Sp := fun vs H Q _ => ∃ (p : Addr) (fp : List Addr) (bk : Bk), vs = [.ref p] /\ BookAt e.Book H p fp bk /\ Q (nat bk.ps.length) H
def spCouple (e : Ad) : Sp := fun vs H Q E => ∃ (p : Addr) (fp : List Addr) (bk : Bk) (i j : Int), vs = [.ref p, .int i, .int j] /\ BookAt e.Book H p fp bk /\ Sn i /\ Sn j /\ (Cpl bk i j -> Q .non H) /\ (¬ (InB bk i /\ InB bk j) -> E (.ref e.Zf) none H) /\ (InB bk i -> InB bk j -> ¬ Cpl bk i j -> E (.ref e.Zg) none H)
def spRoom (e : Ad) : Sp := fun vs H Q E => ∃ (p : Addr) (fp : List Addr) (bk : Bk), vs = [.ref p] /\ BookAt e.Book H p fp bk /\ (bk.ps.length < 60 -> Q .non H) /\ (60 <= bk.ps.length -> E (.ref e.Zh) none H)
def spEnter (e : Ad) : Sp := fun vs H Q _ => ∃ (p : Addr) (fp : List Addr) (bk : Bk) (x : Per), vs = [.ref p, sexV x.1, faV x, moV x] /\ BookAt e.Book H p fp bk /\ bk.ps.length < 60 /\ (∀ q, x.2 = some q -> IsS bk q.1 true /\ IsS bk q.2 false /\ q ∈ bk.prs) /\ After e.Book H p fp (bk.add x) (Q (nat bk.ps.length))
def spPair (e : Ad) : Sp := fun vs H Q _ => ∃ (p : Addr) (fp : List Addr) (bk : Bk) (m f : Nat), vs = [.ref p, nat m, nat f] /\ BookAt e.Book H p fp bk /\ bk.prs.length < 1000 /\ IsS bk m true /\ IsS bk f false /\ After e.Book H p fp (bk.pair (m, f)) (Q .non)
def spCome (e : Ad) : Sp := fun vs H Q E => ∃ (p : Addr) (fp : List Addr) (bk : Bk) (s : Bool), vs = [.ref p, sexV s] /\ BookAt e.Book H p fp bk /\ (bk.ps.length < 60 -> After e.Book H p fp (bk.add (s, none)) (Q (nat bk.ps.length))) /\ (60 <= bk.ps.length -> E (.ref e.Zh) none H)
def spBorn (e : Ad) : Sp := fun vs H Q E => ∃ (p : Addr) (fp : List Addr) (bk : Bk) (s : Bool) (i j : Int), vs = [.ref p, sexV s, .int i, .int j] /\ BookAt e.Book H p fp bk /\ Sn i /\ Sn j /\
 (∀ m f : Nat, i = (m : Int) -> j = (f : Int) -> IsS bk m true -> IsS bk f false -> bk.ps.length < 60 -> bk.prs.length < 1000 /\ After e.Book H p fp ((bk.pair (m, f)).add (s, some (m, f))) (Q (nat bk.ps.length))) /\
 (¬ (InB bk i /\ InB bk j) -> E (.ref e.Zf) none H) /\ (InB bk i -> InB bk j -> ¬ Cpl bk i j -> E (.ref e.Zg) none H) /\ (Cpl bk i j -> 60 <= bk.ps.length -> E (.ref e.Zh) none H)
def spWed (e : Ad) : Sp := fun vs H Q E => ∃ (p : Addr) (fp : List Addr) (bk : Bk) (i j : Int), vs = [.ref p, .int i, .int j] /\ BookAt e.Book H p fp bk /\ Sn i /\ Sn j /\
 (∀ m f : Nat, i = (m : Int) -> j = (f : Int) -> IsS bk m true -> IsS bk f false -> bk.prs.length < 1000 /\ After e.Book H p fp (bk.pair (m, f)) (Q .non)) /\
 (¬ (InB bk i /\ InB bk j) -> E (.ref e.Zf) none H) /\ (InB bk i -> InB bk j -> ¬ Cpl bk i j -> E (.ref e.Zg) none H)
def spBookInit (e : Ad) : Sp := fun vs H Q _ => ∃ (x dx : Addr), vs = [.ref x] /\ H x = some (.ins e.Book dx []) /\
 ∀ fp H', (∀ c o, H c = some o -> c ≠ x -> H' c = some o) -> (∀ c ∈ fp, H c = none) -> BookAt e.Book H' x fp ⟨[], []⟩ -> Q .non H'
theorem toN {n : Nat} {i : Int} (h : InC n i) : ∃ k : Nat, i = (k : Int) /\ k < n /\ i.toNat = k := ⟨i.toNat, by have := h.1; omega, by have := h.1; have := h.2; omega, rfl⟩
theorem sexs_at {bk : Bk} {k : Nat} {x : Per} (h : bk.ps[k]? = some x) (f : Per -> V) : atI (bk.ps.map f) (k : Int) = some (f x) := atI_nat (by rw [List.getElem?_map, h]; rfl)
section
variable {P : Program} {w : World} {K : W.Frag} {mg : Str -> Option Value} {base : Heap} {CX : CXT} {C : Addr} {e : Ad}
theorem bno {m : Str} (a b c d : Addr) (h1 : ¬ m = "partner_lists" := by decide +kernel) (h2 : ¬ m = "mothers" := by decide +kernel) (h3 : ¬ m = "fathers" := by decide +kernel) (h4 : ¬ m = "sexes" := by decide +kernel) : (bfl a b c d).lookup m = none := bfl_no a b c d h1 h2 h3 h4
theorem sc_checkp : FnScope ["self", "a"] ["self", "a"] (defScope (inClass (top 28) 1)) := mkSc
theorem ok_checkp {f : Addr} {fd : FuncData} (F : Fun K "check_person" "Book.check_person" (inClass (top 28) 1) f fd) (T : Txt K mg C e) : FnOk P w K mg base (CXR P w) 1 f fd ["self", "a"] (spCheckP e) := by
 refine F.okX sc_checkp (fun vs H Q E h => ?_) (fun cdv A outer s H vs Q E hr hx h => ?_)
 . obtain ⟨p, fp, bk, i, rfl, _⟩ := h; rfl
 . obtain ⟨p, fp, bk, i, rfl, BA, sm, k, kE⟩ := h
   obtain ⟨dx, a, b, c, d, qs, rfl, e1, e2, e3, e4, e5, e6, e7⟩ := BA.ob
   refine ⟨_, (pss_one (ps_if (PW.pt (pw_or (pt_cmpR op_lt (pv 1) pe_int (nomark _)) (pw_or1 (pt_cmpR op_ge (pv 1) (pe_callB call_len_seq rfl T.z_len PySem.boot_len (pa_cons (pe_fld (pv 0) rfl) pa_nil)) (nomark _))))) (pss_one (ps_rais hx T.m_Zf T.x_Zf hr rfl (pa_cons (pe_join (pj_cst (pj_int (pv 1) pj_nil))) pa_nil))) pss_nil)), ?_⟩
   refine ⟨_, rfl, _, _, rfl, rfl, _, rfl, iteD2 (fun q => ?_) (fun q => ?_)⟩
   . exact iteT ⟨by decide, _, rfl, _, rfl, sm, by decide, by decide, fun _ => ⟨one_fits, kE fun z => absurd z.1 (by omega)⟩⟩
   refine ⟨_, rfl, _, rfl, p, e.Book, dx, _, _, rfl, e1, T.cl_Book, T.n_sexes, bfl_s .., a, _, rfl, .inl (SqL.of e2), _, _, rfl, rfl, _, rfl, ?_⟩
   rw [List.length_map]
   refine iteD2 (fun q' => ?_) (fun q' => ?_)
   . exact ⟨by decide, _, rfl, _, rfl, sm, by decide, by decide, fun _ => ⟨one_fits, kE fun z => absurd z.2 (by omega)⟩⟩
   . exact k ⟨by omega, by omega⟩ _ rfl
theorem sc_couple : FnScope ["self", "man", "woman"] ["self", "man", "woman"] (defScope (inClass (top 28) 2)) := mkSc
theorem ok_couple {f : Addr} {fd : FuncData} (F : Fun K "check_couple" "Book.check_couple" (inClass (top 28) 2) f fd) (T : Txt K mg C e) (D_check_person : MDef P w K mg base (CXR P w) e.Book "check_person" 1 ["self", "a"] (spCheckP e)) : FnOk P w K mg base (CXR P w) 2 f fd ["self", "man", "woman"] (spCouple e) := by
 refine F.okX sc_couple (fun vs H Q E h => ?_) (fun cdv A outer s H vs Q E hr hx h => ?_)
 . obtain ⟨p, fp, bk, i, j, rfl, _⟩ := h; rfl
 . obtain ⟨p, fp, bk, i, j, rfl, BA, si, sj, k, kP, kN⟩ := h
   obtain ⟨dx, a, b, c, d, qs, rfl, e1, e2, e3, e4, e5, e6, e7⟩ := id BA.ob
   refine ⟨_, (pss_cons (ps_expr (pe_methX (pv 0) T.cl_Book D_check_person hx.s hr (pa_cons (pv 1) pa_nil)))
    (pss_cons (ps_expr (pe_methX (pv 0) T.cl_Book D_check_person hx.s hr (pa_cons (pv 2) pa_nil)))
    (pss_one (ps_if (PW.pt (pw_or (pt_cmpR op_ne (pe_ix ix_list (pe_fld (pv 0) rfl) (pv 1) (fun _ _ => rfl)) pe_str (nomark _)) (pw_or1 (pt_cmpR op_ne (pe_ix ix_list (pe_fld (pv 0) rfl) (pv 2) (fun _ _ => rfl)) pe_str (nomark _))))) (pss_one (ps_rais hx T.m_Zg T.x_Zg hr rfl (pa_cons (pe_join (pj_cst (pj_int (pv 1) (pj_cst (pj_int (pv 2) pj_nil))))) pa_nil))) pss_nil)))), ?_⟩
   refine ⟨_, rfl, p, dx, _, rfl, e1, bno .., _, rfl, p, _, bk, i, rfl, BA, si, fun hi v hv => ?_, fun z => kP fun q => z q.1⟩
   refine ⟨_, rfl, p, dx, _, rfl, e1, bno .., _, rfl, p, _, bk, j, rfl, BA, sj, fun hj v hv => ?_, fun z => kP fun q => z q.2⟩
   have kN := kN hi hj
   obtain ⟨m, rfl, hm, _⟩ := toN hi
   obtain ⟨f', rfl, hf, _⟩ := toN hj
   obtain ⟨x, hx⟩ : ∃ x, bk.ps[m]? = some x := ⟨_, List.getElem?_eq_getElem hm⟩
   obtain ⟨y, hy⟩ : ∃ y, bk.ps[f']? = some y := ⟨_, List.getElem?_eq_getElem hf⟩
   have no : ∀ z : ¬ Cpl bk (m : Int) (f' : Int), E (.ref e.Zg) none H := kN
   have rs : ∀ z : ¬ Cpl bk (m : Int) (f' : Int), _ := fun z => no z
   refine ⟨_, rfl, p, e.Book, dx, _, _, rfl, e1, T.cl_Book, T.n_sexes, bfl_s .., _, rfl, a, _, _, _, rfl, rfl, SqL.of e2, sexs_at hx perSex, rfl, _, rfl, ?_⟩
   show if (!decide (sexV x.1 = V.str "man")) = true then _ else _
   rw [sex_man]
   cases s1 : x.1
   . refine iteT (iteT ⟨by decide, _, rfl, _, rfl, si, by decide, by decide, _, rfl, _, rfl, sj, by decide, by decide, fun _ => ⟨one_fits, no fun ⟨m', f2, h1, h2, h3, h4⟩ => ?_⟩⟩)
     have := Int.ofNat.inj h1
     subst this
     have := h3.uniq ⟨x, hx, s1⟩
     cases this
   refine iteF ?_
   refine ⟨_, rfl, p, e.Book, dx, _, _, rfl, e1, T.cl_Book, T.n_sexes, bfl_s .., _, rfl, a, _, _, _, rfl, rfl, SqL.of e2, sexs_at hy perSex, rfl, _, rfl, ?_⟩
   show if (!decide (sexV y.1 = V.str "woman")) = true then _ else _
   rw [sex_woman]
   cases s2 : y.1
   . exact iteF (k ⟨m, f', rfl, rfl, ⟨x, hx, s1⟩, ⟨y, hy, s2⟩⟩)
   . refine iteT ⟨by decide, _, rfl, _, rfl, si, by decide, by decide, _, rfl, _, rfl, sj, by decide, by decide, fun _ => ⟨one_fits, no fun ⟨m', f2, h1, h2, h3, h4⟩ => ?_⟩⟩
     have := Int.ofNat.inj h2
     subst this
     have := h4.uniq ⟨y, hy, s2⟩
     cases this
theorem sc_room : FnScope ["self"] ["self"] (defScope (inClass (top 28) 3)) := mkSc
theorem ok_room {f : Addr} {fd : FuncData} (F : Fun K "check_room" "Book.check_room" (inClass (top 28) 3) f fd) (T : Txt K mg C e) : FnOk P w K mg base (CXR P w) 1 f fd ["self"] (spRoom e) := by
 refine F.okX sc_room (fun vs H Q E h => ?_) (fun cdv A outer s H vs Q E hr hx h => ?_)
 . obtain ⟨p, fp, bk, rfl, _⟩ := h; rfl
 . obtain ⟨p, fp, bk, rfl, BA, k, kE⟩ := h
   obtain ⟨dx, a, b, c, d, qs, rfl, e1, e2, e3, e4, e5, e6, e7⟩ := BA.ob
   refine ⟨_, (pss_one (ps_if (pt_cmpR op_ge (pe_callB call_len_seq rfl T.z_len PySem.boot_len (pa_cons (pe_fld (pv 0) rfl) pa_nil)) (pe_globE rfl T.g_MOST_PERSONS) (nomark _)) (pss_one (ps_rais hx T.m_Zh T.x_Zh hr rfl (pa_cons (pe_join (pj_cst (pj_int (pe_globE rfl T.g_MOST_PERSONS) (pj_cst pj_nil)))) pa_nil))) pss_nil)), ?_⟩
   refine ⟨_, rfl, p, e.Book, dx, _, _, rfl, e1, T.cl_Book, T.n_sexes, bfl_s .., a, _, rfl, .inl (SqL.of e2), _, _, rfl, rfl, _, rfl, ?_⟩
   rw [List.length_map]
   refine iteD2 (fun q => ?_) (fun q => k (by omega))
   exact ⟨by decide, _, rfl, log_small (by decide), by decide, by decide, by decide, fun _ => ⟨one_fits, kE (by omega)⟩⟩
end
theorem inV_natL (f : Nat) (l : List Nat) : inV (nat f) (natL l) = decide (f ∈ l) := by
 unfold inV natL
 rw [List.any_map]
 by_cases h : f ∈ l
 . rw [decide_eq_true h]
   exact List.any_eq_true.mpr ⟨f, h, by show ((f : Int) == (f : Int)) = true; simp⟩
 . rw [decide_eq_false h]
   refine List.any_eq_false.mpr fun x hx z => h ?_
   have z' : ((x : Int) == (f : Int)) = true := z
   have : x = f := by have := eq_of_beq z'; omega
   rw [<- this]; exact hx
theorem flat_natL (l : List Nat) : (natL l).all flatV = true := by
 unfold natL
 rw [List.all_map]
 exact List.all_eq_true.mpr fun _ _ => rfl
theorem mates_none {bk : Bk} (h : BkOk bk) {i : Nat} (hi : bk.ps.length <= i) : mates bk.prs i = [] := by
 unfold mates
 have a : bk.prs.filter (fun q => decide (q.1 = i)) = [] := List.filter_eq_nil_iff.mpr fun r hr => by
  rw [decide_eq_false (fun z => by have := (h.pr r hr).1.lt; omega)]; exact Bool.false_ne_true
 have b : bk.prs.filter (fun q => decide (q.2 = i)) = [] := List.filter_eq_nil_iff.mpr fun r hr => by
  rw [decide_eq_false (fun z => by have := (h.pr r hr).2.lt; omega)]; exact Bool.false_ne_true
 rw [a, b]; rfl
theorem mem_mates {prs : List (Nat × Nat)} {i j : Nat} : j ∈ mates prs i ↔ (i, j) ∈ prs \/ (j, i) ∈ prs := by
 unfold mates
 rw [List.mem_append, List.mem_map, List.mem_map]
 constructor
 . rintro (⟨q, hq, rfl⟩ | ⟨q, hq, rfl⟩)
   . obtain ⟨h1, h2⟩ := List.mem_filter.mp hq
     have h2 : q.1 = i := of_decide_eq_true h2
     subst h2; exact .inl h1
   . obtain ⟨h1, h2⟩ := List.mem_filter.mp hq
     have h2 : q.2 = i := of_decide_eq_true h2
     subst h2; exact .inr h1
 . rintro (h | h)
   . exact .inl ⟨(i, j), List.mem_filter.mpr ⟨h, decide_eq_true rfl⟩, rfl⟩
   . exact .inr ⟨(j, i), List.mem_filter.mpr ⟨h, decide_eq_true rfl⟩, rfl⟩
theorem mates_len (prs : List (Nat × Nat)) (i : Nat) : (mates prs i).length <= 2 * prs.length := by
 unfold mates
 rw [List.length_append, List.length_map, List.length_map]
 have := List.length_filter_le (fun q : Nat × Nat => decide (q.1 = i)) prs
 have := List.length_filter_le (fun q : Nat × Nat => decide (q.2 = i)) prs
 omega
section
variable {P : Program} {w : World} {K : W.Frag} {mg : Str -> Option Value} {base : Heap} {CX : CXT} {C : Addr} {e : Ad}
theorem sc_enter : FnScope ["self", "sex", "father", "mother"] ["self", "sex", "father", "mother"] (defScope (inClass (top 28) 4)) := mkSc
theorem ok_enter {f : Addr} {fd : FuncData} (F : Fun K "enter" "Book.enter" (inClass (top 28) 4) f fd) (T : Txt K mg C e) : FnOk P w K mg base CX 1 f fd ["self", "sex", "father", "mother"] (spEnter e) := by
 refine F.okN sc_enter (fun vs H Q E h => ?_) (fun cdv A outer s H vs Q E hr h => ?_)
 . obtain ⟨p, fp, bk, x, rfl, _⟩ := h; rfl
 . obtain ⟨p, fp, bk, x, rfl, BA, n60, hx, k⟩ := h
   have ok := BA.ok
   have ndf := BA.nd
   obtain ⟨dx, a, b, c, d, qs, rfl, e1, e2, e3, e4, e5, e6, e7⟩ := id BA.ob
   have big : 100 <= sizeLine := by decide
   have pa : p ≠ a := ne_of e1 e2 (by intro z; cases z)
   have pb : p ≠ b := ne_of e1 e3 (by intro z; cases z)
   have pc : p ≠ c := ne_of e1 e4 (by intro z; cases z)
   have pd : p ≠ d := ne_of e1 e5 (by intro z; cases z)
   have nd := ndf
   simp only [List.nodup_cons, List.mem_cons, not_or] at nd
   obtain ⟨⟨ab, ac, ad, aq⟩, ⟨bc, bd, bq⟩, ⟨cd, cq⟩, dq, nq⟩ := nd
   refine ⟨_, (pss_cons (ps_expr (pe_bm PySem.F.plainAttrs_list PySem.F.slot_list_append PySem.F.type_list_append mt_append (pe_fld (pv 0) rfl) (pa_cons (pv 1) pa_nil)))
    (pss_cons (ps_expr (pe_bm PySem.F.plainAttrs_list PySem.F.slot_list_append PySem.F.type_list_append mt_append (pe_fld (pv 0) rfl) (pa_cons (pv 2) pa_nil)))
    (pss_cons (ps_expr (pe_bm PySem.F.plainAttrs_list PySem.F.slot_list_append PySem.F.type_list_append mt_append (pe_fld (pv 0) rfl) (pa_cons (pv 3) pa_nil)))
    (pss_cons (ps_expr (pe_bm PySem.F.plainAttrs_list PySem.F.slot_list_append PySem.F.type_list_append mt_append (pe_fld (pv 0) rfl) (pa_cons (pe_lst pa_nil) pa_nil)))
    (pss_one (ps_ret (pe_op op_sub (pe_callB call_len_seq rfl T.z_len PySem.boot_len (pa_cons (pe_fld (pv 0) rfl) pa_nil)) pe_int))))))), ?_⟩
   refine ⟨_, rfl, p, e.Book, dx, _, _, rfl, e1, T.cl_Book, T.n_sexes, bfl_s .., .inl ⟨rfl, _, SqL.of e2⟩, _, rfl, a, _, _, rfl, rfl, e2, by rw [List.length_map]; omega, ?_⟩
   generalize hH1 : upd H a _ = H1
   have p1 : H1 p = some (.ins e.Book dx (bfl a b c d)) := by rw [<- hH1, upd_ne pa]; exact e1
   have b1 : H1 b = some (.lst (bk.ps.map faV)) := by rw [<- hH1, upd_ne (Ne.symm ab)]; exact e3
   refine ⟨_, rfl, p, e.Book, dx, _, _, rfl, p1, T.cl_Book, T.n_fathers, bfl_f .., .inl ⟨rfl, _, SqL.of b1⟩, _, rfl, b, _, _, rfl, rfl, b1, by rw [List.length_map]; omega, ?_⟩
   generalize hH2 : upd H1 b _ = H2
   have p2 : H2 p = some (.ins e.Book dx (bfl a b c d)) := by rw [<- hH2, upd_ne pb]; exact p1
   have c2 : H2 c = some (.lst (bk.ps.map moV)) := by rw [<- hH2, upd_ne (Ne.symm bc), <- hH1, upd_ne (Ne.symm ac)]; exact e4
   refine ⟨_, rfl, p, e.Book, dx, _, _, rfl, p2, T.cl_Book, T.n_mothers, bfl_m .., .inl ⟨rfl, _, SqL.of c2⟩, _, rfl, c, _, _, rfl, rfl, c2, by rw [List.length_map]; omega, ?_⟩
   generalize hH3 : upd H2 c _ = H3
   have p3 : H3 p = some (.ins e.Book dx (bfl a b c d)) := by rw [<- hH3, upd_ne pc]; exact p2
   have d3 : H3 d = some (.lst (qs.map V.ref)) := by rw [<- hH3, upd_ne (Ne.symm cd), <- hH2, upd_ne (Ne.symm bd), <- hH1, upd_ne (Ne.symm ad)]; exact e5
   have o3 : ∀ r o, H r = some o -> r ≠ a -> r ≠ b -> r ≠ c -> H3 r = some o := fun r o h z1 z2 z3 => by rw [<- hH3, upd_ne z3, <- hH2, upd_ne z2, <- hH1, upd_ne z1]; exact h
   have a3 : H3 a = some (.lst (bk.ps.map perSex ++ [sexV x.1])) := by rw [<- hH3, upd_ne ac, <- hH2, upd_ne ab, <- hH1, upd_same]
   have b3 : H3 b = some (.lst (bk.ps.map faV ++ [faV x])) := by rw [<- hH3, upd_ne bc, <- hH2, upd_same]
   have c3 : H3 c = some (.lst (bk.ps.map moV ++ [moV x])) := by rw [<- hH3, upd_same]
   clear hH3 hH2 hH1
   refine ⟨_, rfl, p, e.Book, dx, _, _, rfl, p3, T.cl_Book, T.n_partner_lists, bfl_p .., .inl ⟨rfl, _, SqL.of d3⟩, by decide, fun q hq => ?_⟩
   have qd : d ≠ q := ne_of_none d3 hq
   have qH : H q = none := by
    cases z : H q with
    | none => rfl
    | some o =>
      have w1 : q ≠ a := fun y => by subst y; rw [a3] at hq; cases hq
      have w2 : q ≠ b := fun y => by subst y; rw [b3] at hq; cases hq
      have w3 : q ≠ c := fun y => by subst y; rw [c3] at hq; cases hq
      rw [o3 q o z w1 w2 w3] at hq; cases hq
   refine ⟨d, _, _, rfl, rfl, by rw [upd_ne qd]; exact d3, by rw [List.length_map, e6]; omega, ?_⟩
   generalize hH5 : upd (upd H3 q _) d _ = H5
   have o5 : ∀ r o, H3 r = some o -> r ≠ d -> H5 r = some o := fun r o h z => by rw [<- hH5, upd_ne z, upd_ne (ne_of_none h hq)]; exact h
   have d5 : H5 d = some (.lst ((qs ++ [q]).map V.ref)) := by rw [<- hH5, upd_same, List.map_append]; rfl
   have q5 : H5 q = some (.lst []) := by rw [<- hH5, upd_ne (Ne.symm qd), upd_same]
   have p5 := o5 p _ p3 pd
   have a5 := o5 a _ a3 ad
   refine ⟨_, rfl, p, e.Book, dx, _, _, rfl, p5, T.cl_Book, T.n_sexes, bfl_s .., a, _, rfl, .inl (SqL.of a5), _, _, rfl, rfl, ?_⟩
   have ev : V.int (((bk.ps.map perSex ++ [sexV x.1]).length : Nat) - (1 : Int)) = nat bk.ps.length := by
    rw [List.length_append, List.length_map]; show V.int _ = V.int _; congr 1; show ((bk.ps.length + 1 : Nat) : Int) - 1 = _; omega
   show Q (V.int (((bk.ps.map perSex ++ [sexV x.1]).length : Nat) - (1 : Int))) H5
   rw [ev]
   refine k ((a :: b :: c :: d :: qs) ++ [q]) H5 ⟨ok.added n60 hx, ?_, dx, a, b, c, d, qs ++ [q], rfl, p5, ?_, ?_, ?_, d5, ?_, fun i r hi => ?_⟩ (fun r o hr hn => ?_) (fun r hr => ?_) (fun r hr => ?_)
   . rw [List.nodup_append]
     refine ⟨ndf, List.nodup_cons.mpr ⟨fun y => (List.not_mem_nil y), List.nodup_nil⟩, fun r hr t ht z => ?_⟩
     rw [List.mem_singleton.mp ht] at z
     subst z
     obtain ⟨o, ho⟩ := BA.held (List.mem_cons_of_mem _ hr)
     rw [qH] at ho; cases ho
   . rw [a5]; show _ = some (HO.lst ((bk.ps ++ [x]).map perSex)); rw [List.map_append]; rfl
   . rw [o5 b _ b3 bd]; show _ = some (HO.lst ((bk.ps ++ [x]).map faV)); rw [List.map_append]; rfl
   . rw [o5 c _ c3 cd]; show _ = some (HO.lst ((bk.ps ++ [x]).map moV)); rw [List.map_append]; rfl
   . show (qs ++ [q]).length = (bk.ps ++ [x]).length; rw [List.length_append, List.length_append, e6]; rfl
   . show H5 r = some (.lst (natL (mates bk.prs i)))
     by_cases z : i < qs.length
     . rw [List.getElem?_append_left z] at hi
       have rm := List.mem_of_getElem? hi
       exact o5 r _ (o3 r _ (e7 i r hi) (fun y => aq (y ▸ rm)) (fun y => bq (y ▸ rm)) (fun y => cq (y ▸ rm))) (fun y => dq (y ▸ rm))
     . have hlt := (List.getElem?_eq_some_iff.mp hi).1
       rw [List.length_append] at hlt
       have h1 : [q].length = 1 := rfl
       have hi' : i = qs.length := by omega
       subst hi'
       rw [List.getElem?_append_right (Nat.le_refl _), Nat.sub_self] at hi
       cases Option.some.inj hi
       rw [mates_none ok (by omega)]
       exact q5
   . simp only [List.mem_cons, not_or] at hn
     exact o5 r o (o3 r o hr hn.1 hn.2.1 hn.2.2.1) hn.2.2.2.1
   . rcases List.mem_append.mp hr with z | z
     . exact .inl z
     . rw [List.mem_singleton.mp z]; exact .inr qH
   . exact List.mem_append_left _ hr
theorem sc_pair : FnScope ["self", "man", "woman"] ["self", "man", "woman"] (defScope (inClass (top 28) 5)) := mkSc
theorem ok_pair {f : Addr} {fd : FuncData} (F : Fun K "pair" "Book.pair" (inClass (top 28) 5) f fd) (T : Txt K mg C e) : FnOk P w K mg base CX 1 f fd ["self", "man", "woman"] (spPair e) := by
 refine F.okN sc_pair (fun vs H Q E h => ?_) (fun cdv A outer s H vs Q E hr h => ?_)
 . obtain ⟨p, fp, bk, m, f, rfl, _⟩ := h; rfl
 . obtain ⟨p, fp, bk, m, f, rfl, BA, l1000, hm, hf, k⟩ := h
   have ok := BA.ok
   have ndf := BA.nd
   obtain ⟨dx, a, b, c, d, qs, rfl, e1, e2, e3, e4, e5, e6, e7⟩ := id BA.ob
   have big : 4000 <= sizeLine := by decide
   have nd := ndf
   simp only [List.nodup_cons, List.mem_cons, not_or] at nd
   obtain ⟨⟨ab, ac, ad, aq⟩, ⟨bc, bd, bq⟩, ⟨cd, cq⟩, dq, nq⟩ := nd
   have mf : m ≠ f := fun z => by subst z; cases hm.uniq hf
   have lm : m < qs.length := by rw [e6]; exact hm.lt
   have lf : f < qs.length := by rw [e6]; exact hf.lt
   obtain ⟨qm, hqm⟩ : ∃ q, qs[m]? = some q := ⟨_, List.getElem?_eq_getElem lm⟩
   obtain ⟨qf, hqf⟩ : ∃ q, qs[f]? = some q := ⟨_, List.getElem?_eq_getElem lf⟩
   have nqq : qm ≠ qf := fun z => mf ((List.getElem?_inj lm nq).mp (by rw [hqm, hqf, z]))
   have atm : atI (qs.map V.ref) (m : Int) = some (.ref qm) := atI_nat (by rw [List.getElem?_map, hqm]; rfl)
   have atf : atI (qs.map V.ref) (f : Int) = some (.ref qf) := atI_nat (by rw [List.getElem?_map, hqf]; rfl)
   have pm : p ≠ qm := ne_of e1 (e7 m qm hqm) (by intro z; cases z)
   have dm : d ≠ qm := fun z => dq (z ▸ List.mem_of_getElem? hqm)
   have iff : f ∈ mates bk.prs m ↔ (m, f) ∈ bk.prs := by
    rw [mem_mates]
    refine ⟨fun h => h.elim id fun z => ?_, .inl⟩
    cases (ok.pr _ z).1.uniq hf
   refine ⟨_, (pss_one (ps_if (pt_cmpR op_notIn_seq (pv 2) (pe_ix ix_list (pe_fld (pv 0) rfl) (pv 1) (fun _ _ => rfl)) (by with_unfolding_all rfl)) (pss_cons (ps_expr (pe_bm PySem.F.plainAttrs_list PySem.F.slot_list_append PySem.F.type_list_append mt_append (pe_ix ix_list (pe_fld (pv 0) rfl) (pv 1) (fun _ _ => rfl)) (pa_cons (pv 2) pa_nil)))
    (pss_one (ps_expr (pe_bm PySem.F.plainAttrs_list PySem.F.slot_list_append PySem.F.type_list_append mt_append (pe_ix ix_list (pe_fld (pv 0) rfl) (pv 2) (fun _ _ => rfl)) (pa_cons (pv 1) pa_nil))))) pss_nil)), ?_⟩
   refine ⟨_, rfl, _, rfl, p, e.Book, dx, _, _, rfl, e1, T.cl_Book, T.n_partner_lists, bfl_p .., _, rfl, d, _, _, _, rfl, rfl, SqL.of e5, atm, qm, _, rfl, .inl (SqL.of (e7 m qm hqm)), rfl, flat_natL _, _, rfl, ?_⟩
   show if (!inV (nat f) (natL (mates bk.prs m))) = true then _ else _
   rw [inV_natL]
   by_cases q : (m, f) ∈ bk.prs
   . rw [decide_eq_true (iff.mpr q)]
     have eb : bk.pair (m, f) = bk := by unfold Bk.pair; rw [if_pos q]
     rw [eb] at k
     exact iteF (k _ H BA (fun c o h _ => h) (fun c h => .inl h) fun c h => h)
   . rw [decide_eq_false (fun z => q (iff.mp z))]
     refine iteT ?_
     have lenm := mates_len bk.prs m
     have lenf := mates_len bk.prs f
     have pl := ok.pl
     refine ⟨_, rfl, p, e.Book, dx, _, _, rfl, e1, T.cl_Book, T.n_partner_lists, bfl_p .., _, rfl, d, _, _, _, rfl, rfl, SqL.of e5, atm, .inl ⟨rfl, _, SqL.of (e7 m qm hqm)⟩, _, rfl, qm, _, _, rfl, rfl, e7 m qm hqm, by rw [natL_len]; omega, ?_⟩
     generalize hH1 : upd H qm _ = H1
     have p1 : H1 p = some (.ins e.Book dx (bfl a b c d)) := by rw [<- hH1, upd_ne pm]; exact e1
     have d1 : H1 d = some (.lst (qs.map V.ref)) := by rw [<- hH1, upd_ne dm]; exact e5
     have f1 : H1 qf = some (.lst (natL (mates bk.prs f))) := by rw [<- hH1, upd_ne (Ne.symm nqq)]; exact e7 f qf hqf
     refine ⟨_, rfl, p, e.Book, dx, _, _, rfl, p1, T.cl_Book, T.n_partner_lists, bfl_p .., _, rfl, d, _, _, _, rfl, rfl, SqL.of d1, atf, .inl ⟨rfl, _, SqL.of f1⟩, _, rfl, qf, _, _, rfl, rfl, f1, by rw [natL_len]; omega, ?_⟩
     generalize hH2 : upd H1 qf _ = H2
     have o2 : ∀ r o, H r = some o -> r ≠ qm -> r ≠ qf -> H2 r = some o := fun r o h z1 z2 => by rw [<- hH2, upd_ne z2, <- hH1, upd_ne z1]; exact h
     have m2 : H2 qm = some (.lst (natL (mates bk.prs m ++ [f]))) := by rw [<- hH2, upd_ne nqq, <- hH1, upd_same]; unfold natL; rw [List.map_append]; rfl
     have f2 : H2 qf = some (.lst (natL (mates bk.prs f ++ [m]))) := by rw [<- hH2, upd_same]; unfold natL; rw [List.map_append]; rfl
     clear hH1 hH2
     have eb : bk.pair (m, f) = ⟨bk.ps, bk.prs ++ [(m, f)]⟩ := by unfold Bk.pair; rw [if_neg q]
     have okp := ok.paired (q := (m, f)) l1000 hm hf
     rw [eb] at k okp
     have inq : ∀ {r}, r ∈ [a, b, c, d] -> r ≠ qm /\ r ≠ qf := fun {r} hr => by
      simp only [List.mem_cons, List.not_mem_nil, or_false] at hr
      have hm := List.mem_of_getElem? hqm
      have hf := List.mem_of_getElem? hqf
      rcases hr with rfl | rfl | rfl | rfl
      . exact ⟨fun z => aq (z ▸ hm), fun z => aq (z ▸ hf)⟩
      . exact ⟨fun z => bq (z ▸ hm), fun z => bq (z ▸ hf)⟩
      . exact ⟨fun z => cq (z ▸ hm), fun z => cq (z ▸ hf)⟩
      . exact ⟨fun z => dq (z ▸ hm), fun z => dq (z ▸ hf)⟩
     have pf : p ≠ qf := ne_of e1 (e7 f qf hqf) (by intro z; cases z)
     refine k (a :: b :: c :: d :: qs) H2 ⟨okp, ndf, dx, a, b, c, d, qs, rfl, o2 _ _ e1 pm pf, o2 _ _ e2 (inq (by simp)).1 (inq (by simp)).2, o2 _ _ e3 (inq (by simp)).1 (inq (by simp)).2, o2 _ _ e4 (inq (by simp)).1 (inq (by simp)).2, o2 _ _ e5 (inq (by simp)).1 (inq (by simp)).2, e6, fun i r hi => ?_⟩ (fun r o hr hn => ?_) (fun r hr => .inl hr) fun r hr => hr
     . have sn := mates_snoc bk.prs (m, f) i fun z r hr y => by
        have z' : m = i := z
        subst z'
        have := (ok.pr r hr).2
        rw [y] at this
        cases this.uniq hm
       show H2 r = some (.lst (natL (mates (bk.prs ++ [(m, f)]) i)))
       rw [sn]
       by_cases z1 : i = m
       . subst z1
         rw [hqm] at hi
         cases Option.some.inj hi
         rw [if_pos rfl, if_neg (Ne.symm mf), List.append_nil]
         exact m2
       . by_cases z2 : i = f
         . subst z2
           rw [hqf] at hi
           cases Option.some.inj hi
           rw [if_neg (Ne.symm z1), if_pos rfl, List.nil_append]
           exact f2
         . rw [if_neg (fun y => z1 y.symm), if_neg (fun y => z2 y.symm), List.nil_append, List.append_nil]
           have li : i < qs.length := (List.getElem?_eq_some_iff.mp hi).1
           exact o2 r _ (e7 i r hi) (fun y => z1 ((List.getElem?_inj li nq).mp (by rw [hi, hqm, y]))) (fun y => z2 ((List.getElem?_inj li nq).mp (by rw [hi, hqf, y])))
     . simp only [List.mem_cons, not_or] at hn
       exact o2 r o hr (fun z => hn.2.2.2.2 (z ▸ List.mem_of_getElem? hqm)) (fun z => hn.2.2.2.2 (z ▸ List.mem_of_getElem? hqf))
theorem sc_come : FnScope ["self", "sex"] ["self", "sex"] (defScope (inClass (top 28) 6)) := mkSc
theorem ok_come {f : Addr} {fd : FuncData} (F : Fun K "come" "Book.come" (inClass (top 28) 6) f fd) (T : Txt K mg C e) (D_check_room : MDef P w K mg base (CXR P w) e.Book "check_room" 1 ["self"] (spRoom e)) (D_enter : MDef P w K mg base (CXR P w) e.Book "enter" 1 ["self", "sex", "father", "mother"] (spEnter e)) : FnOk P w K mg base (CXR P w) 2 f fd ["self", "sex"] (spCome e) := by
 refine F.okX sc_come (fun vs H Q E h => ?_) (fun cdv A outer s H vs Q E hr hx h => ?_)
 . obtain ⟨p, fp, bk, s, rfl, _⟩ := h; rfl
 . obtain ⟨p, fp, bk, s, rfl, BA, k, kE⟩ := h
   obtain ⟨dx, a, b, c, d, qs, rfl, e1, e2, e3, e4, e5, e6, e7⟩ := id BA.ob
   refine ⟨_, (pss_cons (ps_expr (pe_methX0 (pv 0) T.cl_Book D_check_room hx.s hr))
    (pss_one (ps_ret (pe_methX (pv 0) T.cl_Book D_enter hx.s hr (pa_cons (pv 1) (pa_cons pe_non (pa_cons pe_non pa_nil))))))), ?_⟩
   exact ⟨_, rfl, p, dx, _, rfl, e1, bno .., p, _, bk, rfl, BA, fun n60 => ⟨_, rfl, p, dx, _, rfl, e1, bno .., _, rfl, p, _, bk, (s, none), rfl, BA, n60, (fun q z => by cases z), k n60⟩, kE⟩
theorem sc_born : FnScope ["self", "sex", "father", "mother"] ["self", "sex", "father", "mother"] (defScope (inClass (top 28) 7)) := mkSc
theorem ok_born {f : Addr} {fd : FuncData} (F : Fun K "born" "Book.born" (inClass (top 28) 7) f fd) (T : Txt K mg C e) (D_check_couple : MDef P w K mg base (CXR P w) e.Book "check_couple" 2 ["self", "man", "woman"] (spCouple e)) (D_check_room : MDef P w K mg base (CXR P w) e.Book "check_room" 1 ["self"] (spRoom e)) (D_pair : MDef P w K mg base (CXR P w) e.Book "pair" 1 ["self", "man", "woman"] (spPair e)) (D_enter : MDef P w K mg base (CXR P w) e.Book "enter" 1 ["self", "sex", "father", "mother"] (spEnter e)) : FnOk P w K mg base (CXR P w) 3 f fd ["self", "sex", "father", "mother"] (spBorn e) := by
 refine F.okX sc_born (fun vs H Q E h => ?_) (fun cdv A outer s H vs Q E hr hx h => ?_)
 . obtain ⟨p, fp, bk, s, i, j, rfl, _⟩ := h; rfl
 . obtain ⟨p, fp, bk, s, i, j, rfl, BA, si, sj, k, kP, kN, kM⟩ := h
   obtain ⟨dx, a, b, c, d, qs, hfp, e1, e2, e3, e4, e5, e6, e7⟩ := id BA.ob
   refine ⟨_, (pss_cons (ps_expr (pe_methX (pv 0) T.cl_Book D_check_couple hx.s hr (pa_cons (pv 2) (pa_cons (pv 3) pa_nil))))
    (pss_cons (ps_expr (pe_methX0 (pv 0) T.cl_Book D_check_room hx.s hr))
    (pss_cons (ps_expr (pe_methX (pv 0) T.cl_Book D_pair hx.s hr (pa_cons (pv 2) (pa_cons (pv 3) pa_nil))))
    (pss_one (ps_ret (pe_methX (pv 0) T.cl_Book D_enter hx.s hr (pa_cons (pv 1) (pa_cons (pv 2) (pa_cons (pv 3) pa_nil))))))))), ?_⟩
   refine ⟨_, rfl, p, dx, _, rfl, e1, bno .., _, rfl, _, rfl, p, fp, bk, i, j, rfl, BA, si, sj, fun cp => ?_, kP, kN⟩
   refine ⟨_, rfl, p, dx, _, rfl, e1, bno .., p, fp, bk, rfl, BA, fun n60 => ?_, kM cp⟩
   obtain ⟨m, f', rfl, rfl, hm, hf⟩ := cp
   obtain ⟨l1000, k⟩ := k m f' rfl rfl hm hf n60
   refine ⟨_, rfl, p, dx, _, rfl, e1, bno .., _, rfl, _, rfl, p, fp, bk, m, f', rfl, BA, l1000, hm, hf, fun fp1 H1 BA1 kp1 fr1 sb1 => ?_⟩
   obtain ⟨dx1, a1, b1, c1, d1, qs1, hfp1, f1, _⟩ := id BA1.ob
   refine ⟨_, rfl, p, dx1, _, rfl, f1, bno .., _, rfl, _, rfl, _, rfl, p, fp1, bk.pair (m, f'), (s, some (m, f')), rfl, BA1, n60, fun q z => ?_, fun fp2 H2 BA2 kp2 fr2 sb2 => ?_⟩
   . cases Option.some.inj z
     exact ⟨hm, hf, mem_pair⟩
   . refine k fp2 H2 BA2 (fun c o hc hn => ?_) (fun c hc => ?_) fun c hc => sb2 c (sb1 c hc)
     . refine kp2 c o (kp1 c o hc hn) fun z => ?_
       rcases fr1 c z with y | y
       . exact hn y
       . rw [y] at hc; cases hc
     . rcases fr2 c hc with z | z
       . exact fr1 c z
       . exact .inr (gone BA1 kp1 sb1 c z)
theorem sc_wed : FnScope ["self", "man", "woman"] ["self", "man", "woman"] (defScope (inClass (top 28) 8)) := mkSc
theorem ok_wed {f : Addr} {fd : FuncData} (F : Fun K "wed" "Book.wed" (inClass (top 28) 8) f fd) (T : Txt K mg C e) (D_check_couple : MDef P w K mg base (CXR P w) e.Book "check_couple" 2 ["self", "man", "woman"] (spCouple e)) (D_pair : MDef P w K mg base (CXR P w) e.Book "pair" 1 ["self", "man", "woman"] (spPair e)) : FnOk P w K mg base (CXR P w) 3 f fd ["self", "man", "woman"] (spWed e) := by
 refine F.okX sc_wed (fun vs H Q E h => ?_) (fun cdv A outer s H vs Q E hr hx h => ?_)
 . obtain ⟨p, fp, bk, i, j, rfl, _⟩ := h; rfl
 . obtain ⟨p, fp, bk, i, j, rfl, BA, si, sj, k, kP, kN⟩ := h
   obtain ⟨dx, a, b, c, d, qs, hfp, e1, e2, e3, e4, e5, e6, e7⟩ := id BA.ob
   refine ⟨_, (pss_cons (ps_expr (pe_methX (pv 0) T.cl_Book D_check_couple hx.s hr (pa_cons (pv 1) (pa_cons (pv 2) pa_nil))))
    (pss_one (ps_expr (pe_methX (pv 0) T.cl_Book D_pair hx.s hr (pa_cons (pv 1) (pa_cons (pv 2) pa_nil)))))), ?_⟩
   refine ⟨_, rfl, p, dx, _, rfl, e1, bno .., _, rfl, _, rfl, p, fp, bk, i, j, rfl, BA, si, sj, fun cp => ?_, kP, kN⟩
   obtain ⟨m, f', rfl, rfl, hm, hf⟩ := cp
   obtain ⟨l1000, k⟩ := k m f' rfl rfl hm hf
   exact ⟨_, rfl, p, dx, _, rfl, e1, bno .., _, rfl, _, rfl, p, fp, bk, m, f', rfl, BA, l1000, hm, hf, k⟩
theorem sc_sizeb : FnScope ["self"] ["self"] (defScope (inClass (top 28) 9)) := mkSc
theorem ok_sizeb {f : Addr} {fd : FuncData} (F : Fun K "size" "Book.size" (inClass (top 28) 9) f fd) (T : Txt K mg C e) : FnOk P w K mg base CX 1 f fd ["self"] (spSizeB e) := by
 refine F.okN sc_sizeb (fun vs H Q E h => ?_) (fun cdv A outer s H vs Q E hr h => ?_)
 . obtain ⟨p, fp, bk, rfl, _⟩ := h; rfl
 . obtain ⟨p, fp, bk, rfl, BA, k⟩ := h
   obtain ⟨dx, a, b, c, d, qs, hfp, e1, e2, e3, e4, e5, e6, e7⟩ := id BA.ob
   refine ⟨_, (pss_one (ps_ret (pe_callB call_len_seq rfl T.z_len PySem.boot_len (pa_cons (pe_fld (pv 0) rfl) pa_nil)))), ?_⟩
   refine ⟨_, rfl, p, e.Book, dx, _, _, rfl, e1, T.cl_Book, T.n_sexes, bfl_s .., a, _, rfl, .inl (SqL.of e2), ?_⟩
   rw [List.length_map]
   exact k
theorem sc_sexof : FnScope ["self", "a"] ["self", "a"] (defScope (inClass (top 28) 10)) := mkSc
theorem ok_sexof {f : Addr} {fd : FuncData} (F : Fun K "sex_of" "Book.sex_of" (inClass (top 28) 10) f fd) (T : Txt K mg C e) (D_check_person : MDef P w K mg base (CXR P w) e.Book "check_person" 1 ["self", "a"] (spCheckP e)) : FnOk P w K mg base (CXR P w) 2 f fd ["self", "a"] (spSexOf e) := by
 refine F.okX sc_sexof (fun vs H Q E h => ?_) (fun cdv A outer s H vs Q E hr hx h => ?_)
 . obtain ⟨p, fp, bk, i, rfl, _⟩ := h; rfl
 . obtain ⟨p, fp, bk, i, rfl, BA, sm, k, kE⟩ := h
   obtain ⟨dx, a, b, c, d, qs, hfp, e1, e2, e3, e4, e5, e6, e7⟩ := id BA.ob
   refine ⟨_, (pss_cons (ps_expr (pe_methX (pv 0) T.cl_Book D_check_person hx.s hr (pa_cons (pv 1) pa_nil)))
    (pss_one (ps_ret (pe_ix ix_list (pe_fld (pv 0) rfl) (pv 1) (fun _ _ => rfl))))), ?_⟩
   refine ⟨_, rfl, p, dx, _, rfl, e1, bno .., _, rfl, p, fp, bk, i, rfl, BA, sm, fun hi v hv => ?_, kE⟩
   have k := k hi
   obtain ⟨n, rfl, hn, _⟩ := toN hi
   rw [Int.toNat_natCast] at k
   have hx : bk.ps[n]? = some bk.ps[n] := List.getElem?_eq_getElem hn
   exact ⟨_, rfl, p, e.Book, dx, _, _, rfl, e1, T.cl_Book, T.n_sexes, bfl_s .., _, rfl, a, _, _, _, rfl, rfl, SqL.of e2, sexs_at hx perSex, k _ ⟨_, hx, rfl⟩⟩
end
theorem nodup_len : ∀ (n : Nat) (l : List Nat), l.Nodup -> (∀ x ∈ l, x < n) -> l.length <= n
 | 0, l, _, h => by
   cases l with
   | nil => exact Nat.le_refl _
   | cons a r => exact absurd (h a (List.mem_cons_self ..)) (Nat.not_lt_zero _)
 | n + 1, l, nd, h => by
   by_cases m : n ∈ l
   . have e := List.length_erase_of_mem m
     have := nodup_len n (l.erase n) (nd.erase n) fun x hx => by
      have := (nd.mem_erase_iff).mp hx
      have := h x this.2
      omega
     omega
   . have := nodup_len n l nd fun x hx => by
      have := h x hx
      have : x ≠ n := fun z => m (z ▸ hx)
      omega
     omega
theorem mates_lt {bk : Bk} (ok : BkOk bk) {i j : Nat} (h : j ∈ mates bk.prs i) : j < bk.ps.length := by
 rcases mem_mates.mp h with z | z
 . exact (ok.pr _ z).2.lt
 . exact (ok.pr _ z).1.lt
theorem natL_int (w : List Nat) : natL w = (w.map fun (k : Nat) => (k : Int)).map V.int := by
 unfold natL
 rw [List.map_map]
 rfl
theorem toNats {ns : List Int} {l : List Nat} (h : ns.Perm (l.map fun (k : Nat) => (k : Int))) (s : ns.Pairwise (· <= ·)) : ∃ r : List Nat, ns.map V.int = natL r /\ r.Perm l /\ r.Pairwise (· <= ·) := by
 have nn : ∀ i ∈ ns, 0 <= i := fun i hi => by
  obtain ⟨c, _, rfl⟩ := List.mem_map.mp (h.mem_iff.mp hi)
  exact Int.natCast_nonneg c
 refine ⟨ns.map Int.toNat, ?_, ?_, ?_⟩
 . rw [natL_int, List.map_map (f := Int.toNat)]
   have e : ns = ns.map ((fun (k : Nat) => (k : Int)) ∘ Int.toNat) := by
    conv => lhs; rw [<- List.map_id ns]
    exact List.map_congr_left fun i hi => (Int.toNat_of_nonneg (nn i hi)).symm
   rw [<- e]
 . have q := h.map Int.toNat
   rw [List.map_map] at q
   have e : l.map (Int.toNat ∘ fun (k : Nat) => (k : Int)) = l := by
    conv => rhs; rw [<- List.map_id l]
    exact List.map_congr_left fun i _ => Int.toNat_natCast i
   rw [e] at q
   exact q
 . refine List.pairwise_map.mpr (s.imp_of_mem fun {a b} ha hb hab => ?_)
   have := nn a ha
   have := nn b hb
   omega
theorem filter_idx {α β : Type} (xs : List α) (p : α -> Bool) (f : α -> β) (p' : Nat -> Bool) (f' : Nat -> β) (h : ∀ (i : Nat) x, xs[i]? = some x -> p' i = p x /\ f' i = f x) : ((List.range xs.length).filter p').map f' = (xs.filter p).map f := by
 induction xs generalizing p' f' with
 | nil => rfl
 | cons x xs ih =>
   rw [List.length_cons, List.range_succ_eq_map, List.filter_cons, List.filter_cons]
   obtain ⟨h1, h2⟩ := h 0 x rfl
   have ih := ih (p' ∘ Nat.succ) (f' ∘ Nat.succ) fun i y hy => h (i + 1) y (by simpa using hy)
   rw [List.filter_map, h1]
   cases p x
   . simp only [Bool.false_eq_true, if_false]
     rw [List.map_map]
     exact ih
   . simp only [if_true, List.map_cons, h2]
     rw [List.map_map]
     congr 1
section
variable {P : Program} {w : World} {K : W.Frag} {mg : Str -> Option Value} {base : Heap} {CX : CXT} {C : Addr} {e : Ad}
theorem sc_binit : FnScope ["self"] ["self"] (defScope (inClass (top 28) 0)) := mkSc
theorem ok_binit {f : Addr} {fd : FuncData} (F : Fun K "__init__" "Book.__init__" (inClass (top 28) 0) f fd) (T : Txt K mg C e) : FnOk P w K mg base CX 1 f fd ["self"] (spBookInit e) := by
 refine F.okN sc_binit (fun vs H Q E h => ?_) (fun cdv A outer s H vs Q E hr h => ?_)
 . obtain ⟨x, dx, rfl, _⟩ := h; rfl
 . obtain ⟨x, dx, rfl, hx, k⟩ := h
   refine ⟨_, (pss_cons (ps_fld (pv 0) (pe_lst pa_nil) rfl)
    (pss_cons (ps_fld (pv 0) (pe_lst pa_nil) rfl)
    (pss_cons (ps_fld (pv 0) (pe_lst pa_nil) rfl)
    (pss_one (ps_fld (pv 0) (pe_lst pa_nil) rfl))))), ?_⟩
   refine ⟨by decide, fun a ha => ?_⟩
   have xa : x ≠ a := ne_of_none hx ha
   refine ⟨_, rfl, x, e.Book, dx, [], rfl, (by rw [upd_ne xa]; exact hx), T.cl_Book, T.n_sexes, (by show 0 < 1000; decide), ?_⟩
   generalize hH1 : upd (upd H a _) x _ = H1
   have x1 : H1 x = some (.ins e.Book dx (putF "sexes" (.ref a) [])) := by rw [<- hH1, upd_same]
   have a1 : H1 a = some (.lst []) := by rw [<- hH1, upd_ne (Ne.symm xa), upd_same]
   have o1 : ∀ r o, H r = some o -> r ≠ x -> H1 r = some o := fun r o h z => by rw [<- hH1, upd_ne z, upd_ne (ne_of_none h ha)]; exact h
   clear hH1
   refine ⟨by decide, fun b hb => ?_⟩
   have xb : x ≠ b := ne_of_none x1 hb
   refine ⟨_, rfl, x, e.Book, dx, _, rfl, (by rw [upd_ne xb]; exact x1), T.cl_Book, T.n_fathers, (by show 1 < 1000; decide), ?_⟩
   generalize hH2 : upd (upd H1 b _) x _ = H2
   have x2 : H2 x = some (.ins e.Book dx (putF "fathers" (.ref b) (putF "sexes" (.ref a) []))) := by rw [<- hH2, upd_same]
   have b2 : H2 b = some (.lst []) := by rw [<- hH2, upd_ne (Ne.symm xb), upd_same]
   have o2 : ∀ r o, H1 r = some o -> r ≠ x -> H2 r = some o := fun r o h z => by rw [<- hH2, upd_ne z, upd_ne (ne_of_none h hb)]; exact h
   clear hH2
   refine ⟨by decide, fun c hc => ?_⟩
   have xc : x ≠ c := ne_of_none x2 hc
   refine ⟨_, rfl, x, e.Book, dx, _, rfl, (by rw [upd_ne xc]; exact x2), T.cl_Book, T.n_mothers, (by show 2 < 1000; decide), ?_⟩
   generalize hH3 : upd (upd H2 c _) x _ = H3
   have x3 : H3 x = some (.ins e.Book dx (putF "mothers" (.ref c) (putF "fathers" (.ref b) (putF "sexes" (.ref a) [])))) := by rw [<- hH3, upd_same]
   have c3 : H3 c = some (.lst []) := by rw [<- hH3, upd_ne (Ne.symm xc), upd_same]
   have o3 : ∀ r o, H2 r = some o -> r ≠ x -> H3 r = some o := fun r o h z => by rw [<- hH3, upd_ne z, upd_ne (ne_of_none h hc)]; exact h
   clear hH3
   refine ⟨by decide, fun d hd => ?_⟩
   have xd : x ≠ d := ne_of_none x3 hd
   refine ⟨_, rfl, x, e.Book, dx, _, rfl, (by rw [upd_ne xd]; exact x3), T.cl_Book, T.n_partner_lists, (by show 3 < 1000; decide), ?_⟩
   generalize hH4 : upd (upd H3 d _) x _ = H4
   have x4 : H4 x = some (.ins e.Book dx (bfl a b c d)) := by rw [<- hH4, upd_same]; rfl
   have d4 : H4 d = some (.lst []) := by rw [<- hH4, upd_ne (Ne.symm xd), upd_same]
   have o4 : ∀ r o, H3 r = some o -> r ≠ x -> H4 r = some o := fun r o h z => by rw [<- hH4, upd_ne z, upd_ne (ne_of_none h hd)]; exact h
   clear hH4
   have fb : H b = none := by
    cases z : H b with
    | none => rfl
    | some o => rw [o1 b o z (Ne.symm xb)] at hb; cases hb
   have fc : H c = none := by
    cases z : H c with
    | none => rfl
    | some o => rw [o2 c o (o1 c o z (Ne.symm xc)) (Ne.symm xc)] at hc; cases hc
   have fd' : H d = none := by
    cases z : H d with
    | none => rfl
    | some o => rw [o3 d o (o2 d o (o1 d o z (Ne.symm xd)) (Ne.symm xd)) (Ne.symm xd)] at hd; cases hd
   have ab : a ≠ b := ne_of_none a1 hb
   have ac : a ≠ c := ne_of_none (o2 a _ a1 (Ne.symm xa)) hc
   have ad : a ≠ d := ne_of_none (o3 a _ (o2 a _ a1 (Ne.symm xa)) (Ne.symm xa)) hd
   have bc : b ≠ c := ne_of_none b2 hc
   have bd : b ≠ d := ne_of_none (o3 b _ b2 (Ne.symm xb)) hd
   have cd : c ≠ d := ne_of_none c3 hd
   refine k [a, b, c, d] H4 (fun r o hr z => o4 r o (o3 r o (o2 r o (o1 r o hr z) z) z) z) (fun r hr => ?_) ⟨⟨by show 0 <= 60; decide, by show 0 <= 1000; decide, (fun x hx => by cases hx), (fun q hq => by cases hq), List.nodup_nil⟩, ?_, dx, a, b, c, d, [], rfl, x4, o4 a _ (o3 a _ (o2 a _ a1 (Ne.symm xa)) (Ne.symm xa)) (Ne.symm xa), o4 b _ (o3 b _ b2 (Ne.symm xb)) (Ne.symm xb), o4 c _ c3 (Ne.symm xc), d4, rfl, fun i q hi => by cases hi⟩
   . simp only [List.mem_cons, List.not_mem_nil, or_false] at hr
     rcases hr with rfl | rfl | rfl | rfl
     . exact ha
     . exact fb
     . exact fc
     . exact fd'
   . simp only [List.nodup_cons, List.mem_cons, List.not_mem_nil, or_false, not_or, not_false_eq_true, and_true]
     exact ⟨⟨ab, ac, ad⟩, ⟨bc, bd⟩, cd, trivial, List.nodup_nil⟩
theorem sc_childrenb : FnScope ["self", "a"] ["self", "a"] (defScope (inClass (top 28) 14)) := mkSc
theorem fa_flat (x : Per) : flatV (faV x) = true := by unfold faV; cases x.2 <;> rfl
theorem mo_flat (x : Per) : flatV (moV x) = true := by unfold moV; cases x.2 <;> rfl
theorem ok_childrenb {f : Addr} {fd : FuncData} (F : Fun K "children" "Book.children" (inClass (top 28) 14) f fd) (T : Txt K mg C e) (D_check_person : MDef P w K mg base (CXR P w) e.Book "check_person" 1 ["self", "a"] (spCheckP e)) : FnOk P w K mg base (CXR P w) 2 f fd ["self", "a"] (spChildrenB e) := by
 refine F.okX sc_childrenb (fun vs H Q E h => ?_) (fun cdv A outer s H vs Q E hr hx h => ?_)
 . obtain ⟨p, fp, bk, i, rfl, _⟩ := h; rfl
 . obtain ⟨p, fp, bk, i, rfl, BA, sm, k, kE⟩ := h
   obtain ⟨dx, a, b, c, d, qs, hfp, e1, e2, e3, e4, e5, e6, e7⟩ := id BA.ob
   have n60 := BA.ok.n60
   refine ⟨_, (pss_cons (ps_expr (pe_methX (pv 0) T.cl_Book D_check_person hx.s hr (pa_cons (pv 1) pa_nil)))
    (pss_one (ps_ret (pe_compF (fv := [("a", 1), ("self", 0)]) ⟨rfl, by decide +kernel, rfl, by decide +kernel, rfl, by decide +kernel, ⟨⟨rfl, Or.inl rfl, Or.inl rfl, rfl⟩, ⟨⟨rfl, Or.inl rfl, Or.inl rfl, rfl⟩, trivial⟩⟩, rfl, rfl⟩ rfl (pi_range1 rfl T.z_range (pa_cons (pe_callB call_len_seq rfl T.z_len PySem.boot_len (pa_cons (pe_fld (pv 0) rfl) pa_nil)) pa_nil)) (fun _ _ _ => (pv 0)) (fun _ _ _ => (pt_cmpR op_in_seq (pv 1) (pe_tup (pa_cons (pe_ix ix_list (pe_fld (pv 2) rfl) (pv 0) (fun _ _ => rfl)) (pa_cons (pe_ix ix_list (pe_fld (pv 2) rfl) (pv 0) (fun _ _ => rfl)) pa_nil))) (by with_unfolding_all rfl))))))), ?_⟩
   refine ⟨_, rfl, p, dx, _, rfl, e1, bno .., _, rfl, p, fp, bk, i, rfl, BA, sm, fun hi v hv => ?_, kE⟩
   have k := k hi
   obtain ⟨n, rfl, hn, _⟩ := toN hi
   rw [Int.toNat_natCast] at k
   refine ⟨_, rfl, p, e.Book, dx, _, _, rfl, e1, T.cl_Book, T.n_sexes, bfl_s .., a, _, rfl, .inl (SqL.of e2), _, rfl, by rw [List.length_map]; omega, by rw [List.length_map]; omega, ?_⟩
   rw [List.length_map, Int.toNat_natCast]
   refine comp_rangeF0 (fun i => match bk.ps[i]? with
    | some x => inV (nat n) [faV x, moV x]
    | none => false) nat (Nat.le_trans n60 (by decide)) (fun i H' R hi sm kk _ _ _ => ?_) (fun i H' R hi pi sm kk _ _ _ => ⟨_, rfl, kk _ (Same.refl _)⟩) fun D H2 hD s2 hl2 => k (kids bk n) D H2 rfl hD s2 hl2
   have hx : bk.ps[i]? = some bk.ps[i] := List.getElem?_eq_getElem hi
   rw [hx] at kk
   refine ⟨_, rfl, _, rfl, p, e.Book, dx, _, _, rfl, sm _ _ e1, T.cl_Book, T.n_fathers, bfl_f .., _, rfl, b, _, _, _, rfl, rfl, SqL.of (sm _ _ e3), sexs_at hx faV, _, rfl, p, e.Book, dx, _, _, rfl, sm _ _ e1, T.cl_Book, T.n_mothers, bfl_m .., _, rfl, c, _, _, _, rfl, rfl, SqL.of (sm _ _ e4), sexs_at hx moV, two_fits, fun t ht => ?_⟩
   refine ⟨t, _, rfl, .inr (SqT.of upd_same), rfl, ?_, _, rfl, kk _ (same_new ht)⟩
   show (flatV (faV bk.ps[i]) && (flatV (moV bk.ps[i]) && true)) = true
   rw [fa_flat, mo_flat]; rfl
end
def perT (x : Per) : List V := [sexV x.1, faV x, moV x]
def prT (q : Nat × Nat) : List V := [nat q.1, nat q.2]
structure PeopleAt (H : Hp) (LP : Addr) (ts : List Addr) (ps : List Per) : Prop where
 l : H LP = some (.lst (ts.map V.ref))
 t : TsAt H ts (ps.map perT)
structure PairsAt (H : Hp) (LR : Addr) (us : List Addr) (prs : List (Nat × Nat)) : Prop where
 l : H LR = some (.lst (us.map V.ref))
 t : TsAt H us (prs.map prT)
theorem PeopleAt.same {H H' : Hp} {LP : Addr} {ts : List Addr} {ps : List Per} (h : PeopleAt H LP ts ps) (s : Same H H') : PeopleAt H' LP ts ps := ⟨s _ _ h.l, h.t.same s⟩
theorem PairsAt.same {H H' : Hp} {LR : Addr} {us : List Addr} {prs : List (Nat × Nat)} (h : PairsAt H LR us prs) (s : Same H H') : PairsAt H' LR us prs := ⟨s _ _ h.l, h.t.same s⟩
theorem PeopleAt.len {H : Hp} {LP : Addr} {ts : List Addr} {ps : List Per} (h : PeopleAt H LP ts ps) : ts.length = ps.length := by rw [h.t.len, List.length_map]
theorem PairsAt.len {H : Hp} {LR : Addr} {us : List Addr} {prs : List (Nat × Nat)} (h : PairsAt H LR us prs) : us.length = prs.length := by rw [h.t.len, List.length_map]
theorem PeopleAt.at_ {H : Hp} {LP : Addr} {ts : List Addr} {ps : List Per} (h : PeopleAt H LP ts ps) {i : Nat} {x : Per} (hx : ps[i]? = some x) : ∃ t, ts[i]? = some t /\ atI (ts.map V.ref) (i : Int) = some (.ref t) /\ H t = some (.tup (perT x)) := by
 obtain ⟨t, h1, h2⟩ := h.t.get (i := i) (xs := perT x) (by rw [List.getElem?_map, hx]; rfl)
 exact ⟨t, h1, atI_nat (by rw [List.getElem?_map, h1]; rfl), h2⟩
theorem PairsAt.at_ {H : Hp} {LR : Addr} {us : List Addr} {prs : List (Nat × Nat)} (h : PairsAt H LR us prs) {i : Nat} {q : Nat × Nat} (hx : prs[i]? = some q) : ∃ t, us[i]? = some t /\ H t = some (.tup (prT q)) :=
 h.t.get (by rw [List.getElem?_map, hx]; rfl)
structure Acc (B : Addr) (H : Hp) (b LP LR : Addr) (fp ts us : List Addr) (bk : Bk) : Prop where
 bo : BookAt B H b fp bk
 pe : PeopleAt H LP ts bk.ps
 pa : PairsAt H LR us bk.prs
 nP : LP ∉ fp
 nR : LR ∉ fp
 ne : LP ≠ LR
theorem Acc.same {B : Addr} {H H' : Hp} {b LP LR : Addr} {fp ts us : List Addr} {bk : Bk} (h : Acc B H b LP LR fp ts us bk) (s : Same H H') : Acc B H' b LP LR fp ts us bk := ⟨h.bo.same s, h.pe.same s, h.pa.same s, h.nP, h.nR, h.ne⟩
theorem BookAt.lists {B : Addr} {H : Hp} {p : Addr} {fp : List Addr} {bk : Bk} (T : BookAt B H p fp bk) {c : Addr} (hc : c ∈ fp) : ∃ xs, H c = some (.lst xs) := by
 obtain ⟨ok, nd, dx, a, b, c1, d, qs, rfl, e1, e2, e3, e4, e5, e6, e7⟩ := T
 simp only [List.mem_cons] at hc
 rcases hc with rfl | rfl | rfl | rfl | h
 . exact ⟨_, e2⟩
 . exact ⟨_, e3⟩
 . exact ⟨_, e4⟩
 . exact ⟨_, e5⟩
 . obtain ⟨i, hi⟩ := List.getElem?_of_mem h
   exact ⟨_, e7 i c hi⟩
theorem BookAt.notin {B : Addr} {H : Hp} {p : Addr} {fp : List Addr} {bk : Bk} (T : BookAt B H p fp bk) {t : Addr} {xs : List V} (h : H t = some (.tup xs)) : t ∉ fp := fun z => by
 obtain ⟨ys, hy⟩ := T.lists z
 rw [h] at hy; cases hy
inductive Com where
 | come (s : Bool)
 | wed (m f : Nat)
 | born (s : Bool) (m f : Nat)
def comT : Com -> List V
 | .come s => [sexV s, .non, .non]
 | .wed m f => [.str "wed", nat m, nat f]
 | .born s m f => [sexV s, nat m, nat f]
def ComOk (bk : Bk) : Com -> Prop
 | .come _ => True
 | .wed m f => IsS bk m true /\ IsS bk f false
 | .born _ m f => IsS bk m true /\ IsS bk f false
def doC (bk : Bk) : Com -> Bk
 | .come s => bk.add (s, none)
 | .wed m f => bk.pair (m, f)
 | .born s m f => (bk.pair (m, f)).add (s, some (m, f))
theorem sex_wed (s : Bool) : ¬ (sexV s = V.str "wed") := by cases s <;> decide +kernel
theorem any_prs (prs : List (Nat × Nat)) (q : Nat × Nat) : ((prs.map prT).any fun ys => eqVs ys [nat q.1, nat q.2]) = decide (q ∈ prs) := by
 rw [List.any_map]
 have e : ∀ r : Nat × Nat, eqVs (prT r) [nat q.1, nat q.2] = decide (r = q) := fun r => by
  show (((r.1 : Int) == (q.1 : Int)) && (((r.2 : Int) == (q.2 : Int)) && true)) = decide (r = q)
  by_cases h : r = q
  . subst h; rw [decide_eq_true rfl]; simp
  . rw [decide_eq_false h, Bool.eq_false_iff]
    intro z
    rw [Bool.and_true, Bool.and_eq_true] at z
    have z1 := eq_of_beq z.1
    have z2 := eq_of_beq z.2
    exact h (Prod.ext (by omega) (by omega))
 by_cases h : q ∈ prs
 . rw [decide_eq_true h]
   exact List.any_eq_true.mpr ⟨q, h, by show eqVs (prT q) _ = true; rw [e]; exact decide_eq_true rfl⟩
 . rw [decide_eq_false h]
   refine List.any_eq_false.mpr fun r hr z => h ?_
   have z' : eqVs (prT r) [nat q.1, nat q.2] = true := z
   rw [e] at z'
   rw [<- of_decide_eq_true z']; exact hr
theorem fl_pr (prs : List (Nat × Nat)) : ∀ ys ∈ prs.map prT, ys.all flatV = true := fun ys hy => by
 obtain ⟨q, _, rfl⟩ := List.mem_map.mp hy
 rfl
def spComer : Sp := fun vs H Q _ => ∃ (LP : Addr) (ts : List Addr) (bk : Bk) (z : Int), vs = [.ref LP, .int z] /\ PeopleAt H LP ts bk.ps /\ bk.ps.length <= 60 /\ ∀ t c H', H t = none -> Same H H' -> H' t = some (.tup (comT c)) -> ComOk bk c -> Q (.ref t) H'
def AfterA (B : Addr) (H : Hp) (b LP LR : Addr) (fp : List Addr) (bk' : Bk) (K : Hp -> Prop) : Prop :=
 ∀ fp' ts' us' H', Acc B H' b LP LR fp' ts' us' bk' -> (∀ c o, H c = some o -> c ∉ LP :: LR :: fp -> H' c = some o) -> (∀ c ∈ fp', c ∈ fp \/ H c = none) -> K H'
def spPut (e : Ad) : Sp := fun vs H Q _ => ∃ (b LP LR t : Addr) (fp ts us : List Addr) (bk : Bk) (c : Com), vs = [.ref b, .ref LP, .ref LR, .ref t] /\ Acc e.Book H b LP LR fp ts us bk /\ H t = some (.tup (comT c)) /\ ComOk bk c /\ bk.ps.length < 60 /\ bk.prs.length < 1000 /\ AfterA e.Book H b LP LR fp (doC bk c) (Q (.bl true))
theorem men_at {bk : Bk} {H : Hp} {LP : Addr} {ts : List Addr} (h : PeopleAt H LP ts bk.ps) {i : Nat} (hi : i < bk.ps.length) : ∃ t x, ts[i]? = some t /\ bk.ps[i]? = some x /\ atI (ts.map V.ref) (i : Int) = some (.ref t) /\ H t = some (.tup (perT x)) := by
 obtain ⟨t, a, b, c⟩ := h.at_ (List.getElem?_eq_getElem hi)
 exact ⟨t, _, a, List.getElem?_eq_getElem hi, b, c⟩
def ScrAt (K : W.Frag) (H : Hp) (a : Addr) (xs : List V) (av : List Addr) : Prop :=
 (∀ H', SqL K H' a xs) \/ (Rd H a (.lst xs) /\ a ∉ av)
theorem ScrAt.sq {K : W.Frag} {H : Hp} {a : Addr} {xs : List V} {av : List Addr} (h : ScrAt K H a xs av) : SqL K H a xs := by
 rcases h with h | h
 . exact h H
 . exact .inl h.1
theorem ScrAt.of {K : W.Frag} {H : Hp} {a : Addr} {xs : List V} {av : List Addr} (h : SqL K H a xs) (n : ∀ o, H a = some o -> a ∉ av) : ScrAt K H a xs av := by
 rcases h with h | h
 . refine .inr ⟨h, ?_⟩
   rcases h with h | ⟨o, h⟩
   . exact n _ h
   . exact n _ h
 . exact .inl fun H' => .inr h
theorem ScrAt.go {K : W.Frag} {H H' : Hp} {a : Addr} {xs : List V} {av av' : List Addr} (h : ScrAt K H a xs av) (kp : ∀ c o, H c = some o -> c ∉ av -> H' c = some o) (fr : ∀ c ∈ av', c ∈ av \/ H c = none) : ScrAt K H' a xs av' := by
 rcases h with h | ⟨h, n⟩
 . exact .inl h
 . have key : ∀ o, H a = some o -> H' a = some o /\ a ∉ av' := fun o ho => ⟨kp a o ho n, fun z => (fr a z).elim n fun y => by rw [y] at ho; cases ho⟩
   rcases h with h | ⟨o, h⟩
   . exact .inr ⟨.inl (key _ h).1, (key _ h).2⟩
   . exact .inr ⟨.inr ⟨o, (key _ h).1⟩, (key _ h).2⟩
theorem ScrAt.same {K : W.Frag} {H H' : Hp} {a : Addr} {xs : List V} {av : List Addr} (h : ScrAt K H a xs av) (s : Same H H') : ScrAt K H' a xs av := h.go (fun c o hc _ => s c o hc) fun c hc => .inl hc
theorem doC_len (bk : Bk) (c : Com) : (doC bk c).prs.length <= bk.prs.length + 1 := by
 have pl : ∀ q, (bk.pair q).prs.length <= bk.prs.length + 1 := fun q => by
  unfold Bk.pair
  by_cases z : q ∈ bk.prs
  . rw [if_pos z]; exact Nat.le_succ _
  . rw [if_neg z, List.length_append]; exact Nat.le_refl _
 cases c with
 | come s => exact Nat.le_succ _
 | wed m f => exact pl _
 | born s m f => exact pl _
def ofSex (bk : Bk) (s : Bool) (i : Nat) : Bool := match bk.ps[i]? with
 | some x => x.1 == s
 | none => false
theorem ofSex_eq {bk : Bk} {i : Nat} {x : Per} (hx : bk.ps[i]? = some x) (s : Bool) : ofSex bk s i = (x.1 == s) := by unfold ofSex; rw [hx]
theorem eq_true_b (b : Bool) : b = (b == true) := by cases b <;> rfl
theorem eq_false_b (b : Bool) : (!b) = (b == false) := by cases b <;> rfl
def sexL (bk : Bk) (s : Bool) : List Nat := (List.range bk.ps.length).filter (ofSex bk s)
theorem mem_sexL {bk : Bk} {s : Bool} {i : Nat} : i ∈ sexL bk s ↔ IsS bk i s := by
 unfold sexL ofSex
 rw [List.mem_filter, List.mem_range]
 constructor
 . rintro ⟨h1, h2⟩
   rw [List.getElem?_eq_getElem h1] at h2
   exact ⟨_, List.getElem?_eq_getElem h1, eq_of_beq h2⟩
 . rintro ⟨x, hx, rfl⟩
   refine ⟨(List.getElem?_eq_some_iff.mp hx).1, ?_⟩
   rw [hx]; simp
theorem pick_of (l : List Nat) (z : Int) (h : 0 < l.length) : ∃ i, i ∈ l /\ atI (natL l) (z % ((natL l).length : Nat)) = some (nat i) := by
 rw [natL_len]
 obtain ⟨q, hq, lt⟩ := emod_nat z h
 rw [hq]
 exact ⟨l[q], List.getElem_mem lt, atI_nat (natL_get (List.getElem?_eq_getElem lt))⟩
section
variable {P : Program} {w : World} {K : W.Frag} {mg : Str -> Option Value} {base : Heap} {CX : CXT} {C : Addr} {e : Ad}
theorem sc_comer : FnScope ["people", "cell", "sex", "men", "women", "kind", "man", "woman"] ["people", "cell"] (defScope (top 39)) := mkSc
theorem ok_comer {f : Addr} {fd : FuncData} (F : Fun K "_law_comer" "_law_comer" (top 39) f fd) (T : Txt K mg C e) : FnOk P w K mg base CX 1 f fd ["people", "cell"] spComer := by
 refine F.okN sc_comer (fun vs H Q E h => ?_) (fun cdv A outer s H vs Q E hr h => ?_)
 . obtain ⟨LP, ts, bk, z, rfl, _⟩ := h; rfl
 . obtain ⟨LP, ts, bk, z, rfl, pe, n60, k⟩ := h
   have nd := sc_comer.nd
   refine ⟨_, (pss_cons (ps_set (i := 2) nd rfl (Or.inl rfl) (pe_ix ix_list (pe_lst (pa_cons pe_str (pa_cons pe_str pa_nil))) (pe_op op_mod (pv 1) pe_int) (fun _ _ => rfl)))
    (pss_cons (ps_setCompF (i := 3) nd rfl (Or.inl rfl) (fv := [("people", 0)]) ⟨rfl, by decide +kernel, rfl, by decide +kernel, rfl, by decide +kernel, ⟨⟨rfl, Or.inl rfl, Or.inl rfl, rfl⟩, trivial⟩, rfl, rfl⟩ rfl (pi_range1 rfl T.z_range (pa_cons (pe_callB call_len_seq rfl T.z_len PySem.boot_len (pa_cons (pv 0) pa_nil)) pa_nil)) (fun _ _ _ => (pv 0)) (fun _ _ _ => (pt_cmpR op_eq (pe_ix ix_tup (pe_ix ix_list (pv 1) (pv 0) (fun _ _ => rfl)) pe_int (fun _ _ => rfl)) pe_str (nomark _))))
    (pss_cons (ps_setCompF (i := 4) nd rfl (Or.inl rfl) (fv := [("people", 0)]) ⟨rfl, by decide +kernel, rfl, by decide +kernel, rfl, by decide +kernel, ⟨⟨rfl, Or.inl rfl, Or.inl rfl, rfl⟩, trivial⟩, rfl, rfl⟩ rfl (pi_range1 rfl T.z_range (pa_cons (pe_callB call_len_seq rfl T.z_len PySem.boot_len (pa_cons (pv 0) pa_nil)) pa_nil)) (fun _ _ _ => (pv 0)) (fun _ _ _ => (pt_cmpR op_eq (pe_ix ix_tup (pe_ix ix_list (pv 1) (pv 0) (fun _ _ => rfl)) pe_int (fun _ _ => rfl)) pe_str (nomark _))))
    (pss_cons (ps_set (i := 5) nd rfl (Or.inl rfl) (pe_op op_mod (pe_op op_fdiv (pv 1) pe_int) pe_int))
    (pss_cons (ps_if (PW.pt (pw_or (pt_cmpR op_eq (pv 5) pe_int (nomark _)) (pw_or (pt_cmpR op_eq (pe_callB call_len_seq rfl T.z_len PySem.boot_len (pa_cons (pv 3) pa_nil)) pe_int (nomark _)) (pw_or1 (pt_cmpR op_eq (pe_callB call_len_seq rfl T.z_len PySem.boot_len (pa_cons (pv 4) pa_nil)) pe_int (nomark _)))))) (pss_one (ps_ret (pe_tup (pa_cons (pv 2) (pa_cons pe_non (pa_cons pe_non pa_nil)))))) pss_nil)
    (pss_cons (ps_set (i := 6) nd rfl (Or.inl rfl) (pe_ix ix_list (pv 3) (pe_op op_mod (pe_op op_fdiv (pv 1) pe_int) (pe_callB call_len_seq rfl T.z_len PySem.boot_len (pa_cons (pv 3) pa_nil))) (fun _ _ => rfl)))
    (pss_cons (ps_set (i := 7) nd rfl (Or.inl rfl) (pe_ix ix_list (pv 4) (pe_op op_mod (pe_op op_fdiv (pv 1) pe_int) (pe_callB call_len_seq rfl T.z_len PySem.boot_len (pa_cons (pv 4) pa_nil))) (fun _ _ => rfl)))
    (pss_cons (ps_if (pt_cmpR op_eq (pv 5) pe_int (nomark _)) (pss_one (ps_ret (pe_tup (pa_cons pe_str (pa_cons (pv 6) (pa_cons (pv 7) pa_nil)))))) pss_nil)
    (pss_one (ps_ret (pe_tup (pa_cons (pv 2) (pa_cons (pv 6) (pa_cons (pv 7) pa_nil)))))))))))))), ?_⟩
   have tl := pe.len
   obtain ⟨sx, hsx⟩ := pick_sex (z % 2) (Int.emod_nonneg _ (by decide)) (Int.emod_lt_of_pos _ (by decide))
   refine ⟨(show 2 <= sizeLine by decide), fun L hL => ⟨_, rfl, _, _, rfl, rfl, (show (0 : Int) < 2 by decide), L, _, _, _, rfl, rfl, SqL.of upd_same, hsx, ?_⟩⟩
   have s1 := same_new (o := .lst [V.str "man", V.str "woman"]) hL
   generalize upd H L _ = H1 at s1
   walk_at "ns"
   refine ⟨_, rfl, LP, _, rfl, .inl (SqL.of (s1 _ _ pe.l)), _, rfl, by rw [List.length_map, tl]; omega, by rw [List.length_map, tl]; omega, ?_⟩
   rw [List.length_map, tl, Int.toNat_natCast]
   refine comp_rangeF0 (ofSex bk true) nat (Nat.le_trans n60 (by decide)) (fun i H' R hi sm kk _ _ _ => ?_) (fun i H' R hi pi sm kk _ _ _ => ⟨_, rfl, kk _ (Same.refl _)⟩) fun D1 H2 hD1 s2 hl2 => ?_
   . obtain ⟨t, x, _, hx, h1, h2⟩ := men_at (pe.same (s1.trans sm)) hi
     refine ⟨_, rfl, _, rfl, LP, _, _, _, rfl, rfl, SqL.of ((s1.trans sm) _ _ pe.l), h1, t, _, 0, _, rfl, rfl, SqT.of h2, rfl, rfl, _, rfl, ?_⟩
     have : decide (sexV x.1 = V.str "man") = ofSex bk true i := by rw [sex_man, ofSex_eq hx]; exact eq_true_b _
     show R (decide (sexV x.1 = V.str "man")) H'
     rw [this]; exact kk _ (Same.refl _)
   walk_at "ns"
   have s12 := s1.trans s2
   refine ⟨_, rfl, LP, _, rfl, .inl (SqL.of (s12 _ _ pe.l)), _, rfl, by rw [List.length_map, tl]; omega, by rw [List.length_map, tl]; omega, ?_⟩
   rw [List.length_map, tl, Int.toNat_natCast]
   refine comp_rangeF0 (ofSex bk false) nat (Nat.le_trans n60 (by decide)) (fun i H' R hi sm kk _ _ _ => ?_) (fun i H' R hi pi sm kk _ _ _ => ⟨_, rfl, kk _ (Same.refl _)⟩) fun D2 H3 hD2 s3 hl3 => ?_
   . obtain ⟨t, x, _, hx, h1, h2⟩ := men_at (pe.same (s12.trans sm)) hi
     refine ⟨_, rfl, _, rfl, LP, _, _, _, rfl, rfl, SqL.of ((s12.trans sm) _ _ pe.l), h1, t, _, 0, _, rfl, rfl, SqT.of h2, rfl, rfl, _, rfl, ?_⟩
     have : decide (sexV x.1 = V.str "woman") = ofSex bk false i := by rw [sex_woman, ofSex_eq hx]; exact eq_false_b _
     show R (decide (sexV x.1 = V.str "woman")) H'
     rw [this]; exact kk _ (Same.refl _)
   have g2 : H3 D1 = some (.lst (natL (sexL bk true))) := s3 _ _ hl2
   have g3 : H3 D2 = some (.lst (natL (sexL bk false))) := hl3
   have s13 := s12.trans s3
   walk_at "ns"
   refine ⟨_, rfl, _, _, rfl, rfl, ⟨by decide, by decide⟩, _, _, rfl, rfl, (show (0 : Int) < 6 by decide), ?_⟩
   have nobody : ∀ H4 t, Same H3 H4 -> H4 t = none -> Q (.ref t) (upd H4 t (.tup [sexV sx, .non, .non])) := fun H4 t s4 ht => k t (.come sx) _ ((s13.trans s4).free ht) ((s13.trans s4).trans (same_new ht)) upd_same trivial
   walk_at "ns"
   refine ⟨_, rfl, rfl, _, rfl, iteD2 (fun _ => iteT ?_) (fun _ => ?_)⟩
   . exact ⟨_, rfl, (show 3 <= sizeLine by decide), fun t ht => nobody _ t (Same.refl _) ht⟩
   refine ⟨_, rfl, D1, _, rfl, .inl (SqL.of g2), rfl, _, rfl, iteD2 (fun _ => iteT ?_) (fun z1 => ?_)⟩
   . exact ⟨_, rfl, (show 3 <= sizeLine by decide), fun t ht => nobody _ t (Same.refl _) ht⟩
   refine ⟨_, rfl, D2, _, rfl, .inl (SqL.of g3), rfl, _, rfl, iteD2 (fun _ => ?_) (fun z2 => ?_)⟩
   . exact ⟨_, rfl, (show 3 <= sizeLine by decide), fun t ht => nobody _ t (Same.refl _) ht⟩
   have l1 : 0 < (sexL bk true).length := by
    rcases Nat.eq_zero_or_pos (sexL bk true).length with q | q
    . exact absurd (by rw [natL_len, q]; rfl) z1
    . exact q
   have l2 : 0 < (sexL bk false).length := by
    rcases Nat.eq_zero_or_pos (sexL bk false).length with q | q
    . exact absurd (by rw [natL_len, q]; rfl) z2
    . exact q
   obtain ⟨m, hm, am⟩ := pick_of (sexL bk true) (z / 12) l1
   obtain ⟨f', hf, af⟩ := pick_of (sexL bk false) (z / 97) l2
   have sm := mem_sexL.mp hm
   have sf := mem_sexL.mp hf
   have p1 : (0 : Int) < ((natL (sexL bk true)).length : Nat) := by rw [natL_len]; omega
   have p2 : (0 : Int) < ((natL (sexL bk false)).length : Nat) := by rw [natL_len]; omega
   refine ⟨_, rfl, _, rfl, _, _, rfl, rfl, ⟨by decide, by decide⟩, _, rfl, D1, _, rfl, .inl (SqL.of g2), _, _, rfl, rfl, p1, D1, _, _, _, rfl, rfl, SqL.of g2, am, ?_⟩
   walk_at "ns"
   refine ⟨_, rfl, _, rfl, _, _, rfl, rfl, ⟨by decide, by decide⟩, _, rfl, D2, _, rfl, .inl (SqL.of g3), _, _, rfl, rfl, p2, D2, _, _, _, rfl, rfl, SqL.of g3, af, ?_⟩
   walk_at "ns"
   refine ⟨_, rfl, rfl, _, rfl, iteD2 (fun _ => ?_) (fun _ => ?_)⟩
   . exact ⟨_, rfl, _, rfl, (show 3 <= sizeLine by decide), fun t ht => k t (.wed m f') _ (s13.free ht) (s13.trans (same_new ht)) upd_same ⟨sm, sf⟩⟩
   . exact ⟨_, rfl, _, rfl, _, rfl, (show 3 <= sizeLine by decide), fun t ht => k t (.born sx m f') _ (s13.free ht) (s13.trans (same_new ht)) upd_same ⟨sm, sf⟩⟩
end
theorem BookAt.pne {B : Addr} {H : Hp} {p : Addr} {fp : List Addr} {bk : Bk} (T : BookAt B H p fp bk) {l : Addr} {xs : List V} (h : H l = some (.lst xs)) : p ≠ l := fun z => by
 obtain ⟨dx, a, b, c1, d, qs, _, e1, _⟩ := T.ob
 rw [z, h] at e1; cases e1
theorem Acc.person {B : Addr} {H : Hp} {b LP LR t : Addr} {fp ts us : List Addr} {bk : Bk} {x : Per} (h : Acc B H b LP LR fp ts us bk) (ht : H t = some (.tup (perT x))) {H1 : Hp} (hH : upd H LP (.lst (ts.map V.ref ++ [.ref t])) = H1) :
 BookAt B H1 b fp bk /\ PeopleAt H1 LP (ts ++ [t]) (bk.ps ++ [x]) /\ PairsAt H1 LR us bk.prs /\ ∀ r o, H r = some o -> r ≠ LP -> H1 r = some o := by
 have o1 : ∀ r o, H r = some o -> r ≠ LP -> H1 r = some o := fun r o h z => by rw [<- hH, upd_ne z]; exact h
 have tn : ∀ r xs, H r = some (.tup xs) -> H1 r = some (.tup xs) := fun r xs hr => o1 r _ hr fun z => by rw [z, h.pe.l] at hr; cases hr
 refine ⟨h.bo.keep fun c o hc hm => o1 c o hc fun z => ?_, ⟨by rw [<- hH, upd_same, List.map_append]; rfl, ?_⟩, ⟨o1 _ _ h.pa.l (Ne.symm h.ne), h.pa.t.keep fun p xs _ hp => tn p xs hp⟩, o1⟩
 . rcases List.mem_cons.mp hm with y | y
   . exact h.bo.pne h.pe.l (y.symm.trans z)
   . exact h.nP (z ▸ y)
 . rw [List.map_append]
   exact (h.pe.t.keep fun p xs _ hp => tn p xs hp).snoc (tn _ _ ht)
theorem len_sub (n : Nat) (l : List V) (h : l.length = n + 1) : V.int ((l.length : Nat) - (1 : Int)) = nat n := by
 rw [h]; show V.int _ = V.int _; congr 1; omega
section
variable {P : Program} {w : World} {K : W.Frag} {mg : Str -> Option Value} {base : Heap} {CX : CXT} {C : Addr} {e : Ad}
theorem sc_put : FnScope ["book", "people", "pairs", "comer"] ["book", "people", "pairs", "comer"] (defScope (top 40)) := mkSc
theorem ok_put {f : Addr} {fd : FuncData} (F : Fun K "_law_put" "_law_put" (top 40) f fd) (T : Txt K mg C e) (hE : NoE (CXR P w)) (D_come : MDef P w K mg base (CXR P w) e.Book "come" 2 ["self", "sex"] (spCome e)) (D_born : MDef P w K mg base (CXR P w) e.Book "born" 3 ["self", "sex", "father", "mother"] (spBorn e)) (D_wed : MDef P w K mg base (CXR P w) e.Book "wed" 3 ["self", "man", "woman"] (spWed e)) : FnOk P w K mg base (CXR P w) 4 f fd ["book", "people", "pairs", "comer"] (spPut e) := by
 refine F.okN sc_put (fun vs H Q E h => ?_) (fun cdv A outer s H vs Q E hr h => ?_)
 . obtain ⟨b, LP, LR, t, fp, ts, us, bk, c, rfl, _⟩ := h; rfl
 . obtain ⟨b, LP, LR, t, fp, ts, us, bk, c, rfl, ac, ht, ok, n60, l1000, k⟩ := h
   have big : 4000 <= sizeLine := by decide
   have tl := ac.pe.len
   have ul := ac.pa.len
   have p9 : (60 : Nat) < 10 ^ 9 := by decide
   have sn : ∀ i : Nat, i < 60 -> Sn (i : Int) := fun i h => log_small (by show ((i : Nat) : Int).natAbs < 10 ^ 9; omega)
   have pstep : ∀ (m f' : Nat) (H1 : Hp) (us : List Addr), PairsAt H1 LR us bk.prs -> us.length = bk.prs.length -> ∀ u H2, upd H1 LR (.lst (us.map V.ref ++ [.ref u])) = H2 -> H1 u = some (.tup [nat m, nat f']) -> (m, f') ∉ bk.prs -> PairsAt H2 LR (us ++ [u]) (bk.pair (m, f')).prs := by
    intro m f' H1 us pa ul u H2 hH hu q
    have e1 : (bk.pair (m, f')).prs = bk.prs ++ [(m, f')] := by unfold Bk.pair; rw [if_neg q]
    have tn : ∀ r xs, H1 r = some (.tup xs) -> H2 r = some (.tup xs) := fun r xs hr => by
     rw [<- hH, upd_ne (fun z => by rw [z, pa.l] at hr; cases hr)]; exact hr
    rw [e1]
    refine ⟨by rw [<- hH, upd_same, List.map_append]; rfl, ?_⟩
    rw [List.map_append]
    exact (pa.t.keep fun p xs _ hp => tn p xs hp).snoc (tn _ _ hu)
   have pnone : ∀ (m f' : Nat), (m, f') ∈ bk.prs -> (bk.pair (m, f')).prs = bk.prs := fun m f' q => by unfold Bk.pair; rw [if_pos q]
   refine ⟨_, (pss_cons (ps_if (pt_cmpR op_ne (pe_ix ix_tup (pv 3) pe_int (fun _ _ => rfl)) pe_str (nomark _)) (pss_one (ps_expr (pe_bm PySem.F.plainAttrs_list PySem.F.slot_list_append PySem.F.type_list_append mt_append (pv 1) (pa_cons (pv 3) pa_nil)))) pss_nil)
    (pss_cons (ps_if (pt_cmpR op_isN (pe_ix ix_tup (pv 3) pe_int (fun _ _ => rfl)) pe_non (nomark _)) (pss_one (ps_ret (pe_cmpR op_eq (pe_methD (pv 0) T.cl_Book D_come hE hr (pa_cons (pe_ix ix_tup (pv 3) pe_int (fun _ _ => rfl)) pa_nil)) (pe_op op_sub (pe_callB call_len_seq rfl T.z_len PySem.boot_len (pa_cons (pv 1) pa_nil)) pe_int) (nomark _)))) pss_nil)
    (pss_cons (ps_join (ps_if (pt_cmpR (op_notIn_ts (hu_of hr)) (pe_tup (pa_cons (pe_ix ix_tup (pv 3) pe_int (fun _ _ => rfl)) (pa_cons (pe_ix ix_tup (pv 3) pe_int (fun _ _ => rfl)) pa_nil))) (pv 2) (by with_unfolding_all rfl)) (pss_one (ps_expr (pe_bm PySem.F.plainAttrs_list PySem.F.slot_list_append PySem.F.type_list_append mt_append (pv 2) (pa_cons (pe_tup (pa_cons (pe_ix ix_tup (pv 3) pe_int (fun _ _ => rfl)) (pa_cons (pe_ix ix_tup (pv 3) pe_int (fun _ _ => rfl)) pa_nil))) pa_nil)))) pss_nil))
    (pss_cons (ps_if (pt_cmpR op_eq (pe_ix ix_tup (pv 3) pe_int (fun _ _ => rfl)) pe_str (nomark _)) (pss_one (ps_ret (pe_cmpR op_isN (pe_methD (pv 0) T.cl_Book D_wed hE hr (pa_cons (pe_ix ix_tup (pv 3) pe_int (fun _ _ => rfl)) (pa_cons (pe_ix ix_tup (pv 3) pe_int (fun _ _ => rfl)) pa_nil))) pe_non (nomark _)))) pss_nil)
    (pss_one (ps_ret (pe_cmpR op_eq (pe_methD (pv 0) T.cl_Book D_born hE hr (pa_cons (pe_ix ix_tup (pv 3) pe_int (fun _ _ => rfl)) (pa_cons (pe_ix ix_tup (pv 3) pe_int (fun _ _ => rfl)) (pa_cons (pe_ix ix_tup (pv 3) pe_int (fun _ _ => rfl)) pa_nil)))) (pe_op op_sub (pe_callB call_len_seq rfl T.z_len PySem.boot_len (pa_cons (pv 1) pa_nil)) pe_int) (nomark _)))))))), ?_⟩
   cases c with
   | come sx =>
     refine ⟨_, rfl, t, _, 0, _, rfl, rfl, SqT.of ht, rfl, rfl, _, rfl, ?_⟩
     show if (!decide (sexV sx = V.str "wed")) = true then _ else _
     rw [decide_eq_false (sex_wed sx)]
     refine iteT ?_
     refine ⟨_, rfl, .inl ⟨rfl, _, SqL.of ac.pe.l⟩, _, rfl, LP, _, _, rfl, rfl, ac.pe.l, by rw [List.length_map, tl]; omega, ?_⟩
     generalize hH1 : upd H LP _ = H1
     obtain ⟨BA1, PE1, PA1, o1⟩ := ac.person (x := (sx, none)) ht hH1
     have tP : t ≠ LP := fun z => by rw [z, ac.pe.l] at ht; cases ht
     have ht1 := o1 _ _ ht tP
     obtain ⟨dx, a1, b1, c1, d1, qs1, hfp1, f1, _⟩ := id BA1.ob
     refine ⟨_, rfl, t, _, 1, _, rfl, rfl, SqT.of ht1, rfl, rfl, _, rfl, iteD rfl ?_⟩
     refine ⟨_, rfl, b, dx, _, rfl, f1, bno .., _, rfl, t, _, 0, _, rfl, rfl, SqT.of ht1, rfl, b, fp, bk, sx, rfl, BA1, fun _ fp2 H2 BA2 kp2 fr2 sb2 => ?_, fun z => absurd z (by omega)⟩
     have nP2 : LP ∉ fp2 := fun z => (fr2 _ z).elim ac.nP fun y => by rw [PE1.l] at y; cases y
     have nR2 : LR ∉ fp2 := fun z => (fr2 _ z).elim ac.nR fun y => by rw [PA1.l] at y; cases y
     have PE2 : PeopleAt H2 LP (ts ++ [t]) (bk.ps ++ [(sx, none)]) := ⟨kp2 _ _ PE1.l ac.nP, PE1.t.keep fun p xs _ hp => kp2 _ _ hp (BA1.notin hp)⟩
     have PA2 : PairsAt H2 LR us bk.prs := ⟨kp2 _ _ PA1.l ac.nR, PA1.t.keep fun p xs _ hp => kp2 _ _ hp (BA1.notin hp)⟩
     refine ⟨_, rfl, LP, _, rfl, .inl (SqL.of PE2.l), _, _, rfl, rfl, rfl, ?_⟩
     have ev := len_sub bk.ps.length ((ts ++ [t]).map V.ref) (by rw [List.length_map, List.length_append, tl]; rfl)
     show Q (.bl (decide (nat bk.ps.length = V.int ((((ts ++ [t]).map V.ref).length : Nat) - (1 : Int))))) H2
     rw [ev, decide_eq_true rfl]
     refine k fp2 (ts ++ [t]) us H2 ⟨BA2, PE2, PA2, nP2, nR2, ac.ne⟩ (fun c o hc hn => ?_) fun c hc => ?_
     . simp only [List.mem_cons, not_or] at hn
       exact kp2 c o (o1 c o hc hn.1) hn.2.2
     . rcases fr2 c hc with z | z
       . exact .inl z
       . refine .inr ?_
         cases y : H c with
         | none => rfl
         | some o =>
           have : c ≠ LP := fun q => nP2 (q ▸ hc)
           rw [o1 c o y this] at z; cases z
   | wed m f' =>
     obtain ⟨hm, hf⟩ := ok
     refine ⟨_, rfl, t, _, 0, _, rfl, rfl, SqT.of ht, rfl, rfl, _, rfl, iteF ?_⟩
     refine ⟨_, rfl, t, _, 1, _, rfl, rfl, SqT.of ht, rfl, rfl, _, rfl, iteDn (by intro z; cases z) ?_⟩
     refine ⟨fun σ' H' => σ' = [some (.ref b), some (.ref LP), some (.ref LR), some (.ref t)] /\ ∃ us', PairsAt H' LR us' (bk.pair (m, f')).prs /\ ∀ r o, H r = some o -> r ≠ LR -> H' r = some o, ?_, ?_⟩
     . refine ⟨_, rfl, t, _, 1, _, rfl, rfl, SqT.of ht, rfl, _, rfl, t, _, 2, _, rfl, rfl, SqT.of ht, rfl, two_fits, fun u hu => ?_⟩
       have s1 := same_new (o := .tup [nat m, nat f']) hu
       have g1 : (upd H u (.tup [nat m, nat f'])) u = some (.tup [nat m, nat f']) := upd_same
       generalize upd H u (.tup [nat m, nat f']) = H1 at s1 g1
       have pa1 := ac.pa.same s1
       refine ⟨_, rfl, u, LR, us, _, _, rfl, rfl, g1, SqL.of pa1.l, pa1.t, rfl, fl_pr _, _, rfl, ?_⟩
       show if (!((bk.prs.map prT).any fun ys => eqVs ys [nat m, nat f'])) = true then _ else _
       rw [any_prs _ (m, f')]
       by_cases q : (m, f') ∈ bk.prs
       . rw [decide_eq_true q]
         exact iteF ⟨rfl, us, by rw [pnone m f' q]; exact pa1, fun r o hr _ => s1 _ _ hr⟩
       . rw [decide_eq_false q]
         refine iteT ?_
         refine ⟨_, rfl, .inl ⟨rfl, _, SqL.of pa1.l⟩, _, rfl, t, _, 1, _, rfl, rfl, SqT.of (s1 _ _ ht), rfl, _, rfl, t, _, 2, _, rfl, rfl, SqT.of (s1 _ _ ht), rfl, two_fits, fun u2 hu2 => ?_⟩
         have s2 := same_new (o := .tup [nat m, nat f']) hu2
         have g2 : (upd H1 u2 (.tup [nat m, nat f'])) u2 = some (.tup [nat m, nat f']) := upd_same
         generalize upd H1 u2 (.tup [nat m, nat f']) = H2 at s2 g2
         have pa2 := pa1.same s2
         refine ⟨LR, _, _, rfl, rfl, pa2.l, by rw [List.length_map, ul]; omega, rfl, us ++ [u2], pstep m f' H2 us pa2 ul u2 _ rfl g2 q, fun r o hr z => ?_⟩
         rw [upd_ne z]; exact (s1.trans s2) _ _ hr
     rintro σ' H1 ⟨rfl, us1, PA1, o1⟩
     have BA1 : BookAt e.Book H1 b fp bk := ac.bo.keep fun c o hc hm => o1 c o hc fun z => by
      rcases List.mem_cons.mp hm with y | y
      . exact ac.bo.pne ac.pa.l (y.symm.trans z)
      . exact ac.nR (z ▸ y)
     have PE1 : PeopleAt H1 LP ts bk.ps := ⟨o1 _ _ ac.pe.l ac.ne, ac.pe.t.keep fun p xs _ hp => o1 _ _ hp fun z => by rw [z, ac.pa.l] at hp; cases hp⟩
     have ht1 := o1 _ _ ht fun z => by rw [z, ac.pa.l] at ht; cases ht
     obtain ⟨dx, a1, b1, c1, d1, qs1, hfp1, f1, _⟩ := id BA1.ob
     refine ⟨_, rfl, t, _, 0, _, rfl, rfl, SqT.of ht1, rfl, rfl, _, rfl, iteD rfl ?_⟩
     have lm := hm.lt
     have lf := hf.lt
     refine ⟨_, rfl, b, dx, _, rfl, f1, bno .., _, rfl, t, _, 1, _, rfl, rfl, SqT.of ht1, rfl, _, rfl, t, _, 2, _, rfl, rfl, SqT.of ht1, rfl, b, fp, bk, (m : Int), (f' : Int), rfl, BA1, sn m (by omega), sn f' (by omega), fun m2 f2 em ef _ _ => ⟨l1000, fun fp2 H2 BA2 kp2 fr2 sb2 => ?_⟩, fun z => absurd ⟨⟨by omega, by omega⟩, ⟨by omega, by omega⟩⟩ z, fun _ _ z => absurd ⟨m, f', rfl, rfl, hm, hf⟩ z⟩
     have em' := Int.ofNat.inj em
     have ef' := Int.ofNat.inj ef
     subst em' ef'
     have nP2 : LP ∉ fp2 := fun z => (fr2 _ z).elim ac.nP fun y => by rw [PE1.l] at y; cases y
     have nR2 : LR ∉ fp2 := fun z => (fr2 _ z).elim ac.nR fun y => by rw [PA1.l] at y; cases y
     have PE2 : PeopleAt H2 LP ts bk.ps := ⟨kp2 _ _ PE1.l ac.nP, PE1.t.keep fun p xs _ hp => kp2 _ _ hp (BA1.notin hp)⟩
     have PA2 : PairsAt H2 LR us1 (bk.pair (m, f')).prs := ⟨kp2 _ _ PA1.l ac.nR, PA1.t.keep fun p xs _ hp => kp2 _ _ hp (BA1.notin hp)⟩
     refine ⟨rfl, ?_⟩
     show Q (.bl (decide (V.non = V.non))) H2
     rw [decide_eq_true rfl]
     refine k fp2 ts us1 H2 ⟨BA2, PE2, PA2, nP2, nR2, ac.ne⟩ (fun c o hc hn => ?_) fun c hc => ?_
     . simp only [List.mem_cons, not_or] at hn
       exact kp2 c o (o1 c o hc hn.2.1) hn.2.2
     . rcases fr2 c hc with z | z
       . exact .inl z
       . refine .inr ?_
         cases y : H c with
         | none => rfl
         | some o =>
           have : c ≠ LR := fun q => nR2 (q ▸ hc)
           rw [o1 c o y this] at z; cases z
   | born sx m f' =>
     obtain ⟨hm, hf⟩ := ok
     refine ⟨_, rfl, t, _, 0, _, rfl, rfl, SqT.of ht, rfl, rfl, _, rfl, ?_⟩
     show if (!decide (sexV sx = V.str "wed")) = true then _ else _
     rw [decide_eq_false (sex_wed sx)]
     refine iteT ?_
     refine ⟨_, rfl, .inl ⟨rfl, _, SqL.of ac.pe.l⟩, _, rfl, LP, _, _, rfl, rfl, ac.pe.l, by rw [List.length_map, tl]; omega, ?_⟩
     generalize hH0 : upd H LP _ = H0
     obtain ⟨BA0, PE0, PA0, o0⟩ := ac.person (x := (sx, some (m, f'))) ht hH0
     have tP : t ≠ LP := fun z => by rw [z, ac.pe.l] at ht; cases ht
     have ht0 := o0 _ _ ht tP
     refine ⟨_, rfl, t, _, 1, _, rfl, rfl, SqT.of ht0, rfl, rfl, _, rfl, iteDn (by intro z; cases z) ?_⟩
     refine ⟨fun σ' H' => σ' = [some (.ref b), some (.ref LP), some (.ref LR), some (.ref t)] /\ ∃ us', PairsAt H' LR us' (bk.pair (m, f')).prs /\ ∀ r o, H0 r = some o -> r ≠ LR -> H' r = some o, ?_, ?_⟩
     . refine ⟨_, rfl, t, _, 1, _, rfl, rfl, SqT.of ht0, rfl, _, rfl, t, _, 2, _, rfl, rfl, SqT.of ht0, rfl, two_fits, fun u hu => ?_⟩
       have s1 := same_new (o := .tup [nat m, nat f']) hu
       have g1 : (upd H0 u (.tup [nat m, nat f'])) u = some (.tup [nat m, nat f']) := upd_same
       generalize upd H0 u (.tup [nat m, nat f']) = H1 at s1 g1
       have pa1 := PA0.same s1
       refine ⟨_, rfl, u, LR, us, _, _, rfl, rfl, g1, SqL.of pa1.l, pa1.t, rfl, fl_pr _, _, rfl, ?_⟩
       show if (!((bk.prs.map prT).any fun ys => eqVs ys [nat m, nat f'])) = true then _ else _
       rw [any_prs _ (m, f')]
       by_cases q : (m, f') ∈ bk.prs
       . rw [decide_eq_true q]
         exact iteF ⟨rfl, us, by rw [pnone m f' q]; exact pa1, fun r o hr _ => s1 _ _ hr⟩
       . rw [decide_eq_false q]
         refine iteT ?_
         refine ⟨_, rfl, .inl ⟨rfl, _, SqL.of pa1.l⟩, _, rfl, t, _, 1, _, rfl, rfl, SqT.of (s1 _ _ ht0), rfl, _, rfl, t, _, 2, _, rfl, rfl, SqT.of (s1 _ _ ht0), rfl, two_fits, fun u2 hu2 => ?_⟩
         have s2 := same_new (o := .tup [nat m, nat f']) hu2
         have g2 : (upd H1 u2 (.tup [nat m, nat f'])) u2 = some (.tup [nat m, nat f']) := upd_same
         generalize upd H1 u2 (.tup [nat m, nat f']) = H2 at s2 g2
         have pa2 := pa1.same s2
         refine ⟨LR, _, _, rfl, rfl, pa2.l, by rw [List.length_map, ul]; omega, rfl, us ++ [u2], pstep m f' H2 us pa2 ul u2 _ rfl g2 q, fun r o hr z => ?_⟩
         rw [upd_ne z]; exact (s1.trans s2) _ _ hr
     rintro σ' H1 ⟨rfl, us1, PA1, o1⟩
     have BA1 : BookAt e.Book H1 b fp bk := BA0.keep fun c o hc hm => o1 c o hc fun z => by
      rcases List.mem_cons.mp hm with y | y
      . exact BA0.pne PA0.l (y.symm.trans z)
      . exact ac.nR (z ▸ y)
     have PE1 : PeopleAt H1 LP (ts ++ [t]) (bk.ps ++ [(sx, some (m, f'))]) := ⟨o1 _ _ PE0.l ac.ne, PE0.t.keep fun p xs _ hp => o1 _ _ hp fun z => by rw [z, PA0.l] at hp; cases hp⟩
     have ht1 := o1 _ _ ht0 fun z => by rw [z, PA0.l] at ht0; cases ht0
     obtain ⟨dx, a1, b1, c1, d1, qs1, hfp1, f1, _⟩ := id BA1.ob
     refine ⟨_, rfl, t, _, 0, _, rfl, rfl, SqT.of ht1, rfl, rfl, _, rfl, iteDn (sex_wed sx) ?_⟩
     have lm := hm.lt
     have lf := hf.lt
     refine ⟨_, rfl, b, dx, _, rfl, f1, bno .., _, rfl, t, _, 0, _, rfl, rfl, SqT.of ht1, rfl, _, rfl, t, _, 1, _, rfl, rfl, SqT.of ht1, rfl, _, rfl, t, _, 2, _, rfl, rfl, SqT.of ht1, rfl, b, fp, bk, sx, (m : Int), (f' : Int), rfl, BA1, sn m (by omega), sn f' (by omega), fun m2 f2 em ef _ _ _ => ⟨l1000, fun fp2 H2 BA2 kp2 fr2 sb2 => ?_⟩, fun z => absurd ⟨⟨by omega, by omega⟩, ⟨by omega, by omega⟩⟩ z, fun _ _ z => absurd ⟨m, f', rfl, rfl, hm, hf⟩ z, fun _ z => absurd z (by omega)⟩
     have em' := Int.ofNat.inj em
     have ef' := Int.ofNat.inj ef
     subst em' ef'
     have nP2 : LP ∉ fp2 := fun z => (fr2 _ z).elim ac.nP fun y => by rw [PE1.l] at y; cases y
     have nR2 : LR ∉ fp2 := fun z => (fr2 _ z).elim ac.nR fun y => by rw [PA1.l] at y; cases y
     have PE2 : PeopleAt H2 LP (ts ++ [t]) (bk.ps ++ [(sx, some (m, f'))]) := ⟨kp2 _ _ PE1.l ac.nP, PE1.t.keep fun p xs _ hp => kp2 _ _ hp (BA1.notin hp)⟩
     have PA2 : PairsAt H2 LR us1 (bk.pair (m, f')).prs := ⟨kp2 _ _ PA1.l ac.nR, PA1.t.keep fun p xs _ hp => kp2 _ _ hp (BA1.notin hp)⟩
     refine ⟨_, rfl, LP, _, rfl, .inl (SqL.of PE2.l), _, _, rfl, rfl, rfl, ?_⟩
     have ev := len_sub bk.ps.length ((ts ++ [t]).map V.ref) (by rw [List.length_map, List.length_append, tl]; rfl)
     show Q (.bl (decide (nat bk.ps.length = V.int ((((ts ++ [t]).map V.ref).length : Nat) - (1 : Int))))) H2
     rw [ev, decide_eq_true rfl]
     refine k fp2 (ts ++ [t]) us1 H2 ⟨BA2, PE2, PA2, nP2, nR2, ac.ne⟩ (fun c o hc hn => ?_) fun c hc => ?_
     . simp only [List.mem_cons, not_or] at hn
       exact kp2 c o (o1 c o (o0 c o hc hn.1) hn.2.1) hn.2.2
     . rcases fr2 c hc with z | z
       . exact .inl z
       . refine .inr ?_
         cases y : H c with
         | none => rfl
         | some o =>
           have y1 : c ≠ LR := fun q => nR2 (q ▸ hc)
           have y2 : c ≠ LP := fun q => nP2 (q ▸ hc)
           rw [o1 c o (o0 c o y y2) y1] at z; cases z
end
def kvOf (ks : List Nat) : List (Key × V) := ks.map fun (k : Nat) => ((Sum.inl (k : Int) : Key), V.bl true)
theorem valV_kv (d : Nat) : ∀ ks : List Nat, (valV (kvOf ks) (Sum.inl (d : Int))).isSome = decide (d ∈ ks)
 | [] => rfl
 | k :: r => by
   have ih := valV_kv d r
   unfold valV kvOf at ih ⊢
   rw [List.map_cons, List.find?_cons]
   by_cases q : k = d
   . subst q; simp
   . have h : ¬ (Sum.inl (k : Int) : Key) = Sum.inl (d : Int) := fun z => q (by have := Sum.inl.inj z; omega)
     simp only [decide_eq_false h]
     rw [ih]
     simp [Ne.symm q]
theorem kvOf_snoc (ks : List Nat) (d : Nat) : kvOf ks ++ [(Sum.inl (d : Int), V.bl true)] = kvOf (ks ++ [d]) := by unfold kvOf; rw [List.map_append]; rfl
theorem putK_kv (y : Nat) (ks : List Nat) : putK (kvOf ks) (Sum.inl (y : Int) : Key) (V.bl true) = kvOf (if y ∈ ks then ks else ks ++ [y]) := by
 by_cases q : y ∈ ks
 . rw [if_pos q]
   unfold putK
   have h1 : ((kvOf ks).any fun kv => decide (kv.1 = (Sum.inl (y : Int) : Key))) = true := by
    unfold kvOf
    rw [List.any_map]
    exact List.any_eq_true.mpr ⟨y, q, decide_eq_true rfl⟩
   rw [if_pos h1]
   conv => rhs; rw [<- List.map_id (kvOf ks)]
   refine List.map_congr_left fun kv hkv => ?_
   unfold kvOf at hkv
   obtain ⟨k, _, rfl⟩ := List.mem_map.mp hkv
   by_cases c : (Sum.inl (k : Int) : Key) = Sum.inl (y : Int)
   . rw [if_pos c]; rfl
   . rw [if_neg c]; rfl
 . rw [if_neg q, putK_new, kvOf_snoc]
   have := valV_kv y ks
   rw [decide_eq_false q] at this
   exact Option.isNone_iff_eq_none.mp (by simpa using this)
theorem kvOf_keysN (ks : List Nat) : (kvOf ks).map (·.1) = (ks.map fun (k : Nat) => (k : Int)).map Sum.inl := by unfold kvOf; rw [List.map_map, List.map_map]; rfl
def sibs (bk : Bk) (a : Nat) : List Nat := match bk.ps[a]? with
 | none => []
 | some x => match x.2 with
   | none => []
   | some q => (List.range bk.ps.length).filter fun b => decide (b ≠ a) && (match bk.ps[b]? with
     | some y => decide (y.2 = some q)
     | none => false)
def nearL (bk : Bk) (a l : Nat) : List Nat := match bk.ps[a]? with
 | none => []
 | some x =>
   if l = 102 then (match x.2 with
    | none => []
    | some q => [q.1])
   else if l = 109 then (match x.2 with
    | none => []
    | some q => [q.2])
   else if l = 112 then mates bk.prs a
   else (if l = 115 \/ l = 100 then kids bk a else sibs bk a).filter (ofSex bk (stS x.1 l))
theorem mem_kids {bk : Bk} {a b : Nat} : b ∈ kids bk a ↔ ∃ y q, bk.ps[b]? = some y /\ y.2 = some q /\ (a = q.1 \/ a = q.2) := by
 unfold kids
 rw [List.mem_filter, List.mem_range]
 have key : ∀ y : Per, inV (nat a) [faV y, moV y] = true ↔ ∃ q, y.2 = some q /\ (a = q.1 \/ a = q.2) := fun y => by
  unfold inV faV moV
  cases hq : y.2 with
  | none =>
    constructor
    . intro z; cases z
    . rintro ⟨q, z, _⟩; cases z
  | some q =>
    show ((((q.1 : Int) == (a : Int)) || (((q.2 : Int) == (a : Int)) || false)) = true) ↔ _
    rw [Bool.or_false, Bool.or_eq_true]
    constructor
    . rintro (z | z)
      . exact ⟨q, rfl, .inl (by have := eq_of_beq z; omega)⟩
      . exact ⟨q, rfl, .inr (by have := eq_of_beq z; omega)⟩
    . rintro ⟨q', z, y⟩
      cases Option.some.inj z
      rcases y with rfl | rfl
      . exact .inl (by simp)
      . exact .inr (by simp)
 constructor
 . rintro ⟨h1, h2⟩
   rw [List.getElem?_eq_getElem h1] at h2
   obtain ⟨q, z1, z2⟩ := (key _).mp h2
   exact ⟨_, q, List.getElem?_eq_getElem h1, z1, z2⟩
 . rintro ⟨y, q, h1, h2, h3⟩
   refine ⟨(List.getElem?_eq_some_iff.mp h1).1, ?_⟩
   rw [h1]
   exact (key y).mpr ⟨q, h2, h3⟩
theorem mem_sibs {bk : Bk} {a b : Nat} (h : b ∈ sibs bk a) : ∃ x y q, bk.ps[a]? = some x /\ bk.ps[b]? = some y /\ x.2 = some q /\ y.2 = some q /\ b ≠ a := by
 unfold sibs at h
 cases hx : bk.ps[a]? with
 | none => rw [hx] at h; cases h
 | some x =>
   rw [hx] at h
   simp only at h
   cases hq : x.2 with
   | none => rw [hq] at h; cases h
   | some q =>
     rw [hq] at h
     obtain ⟨h1, h2⟩ := List.mem_filter.mp h
     have lt := List.mem_range.mp h1
     rw [Bool.and_eq_true, List.getElem?_eq_getElem lt] at h2
     exact ⟨x, _, q, rfl, List.getElem?_eq_getElem lt, hq, of_decide_eq_true h2.2, of_decide_eq_true h2.1⟩
theorem near_lt {bk : Bk} (ok : BkOk bk) {a l b : Nat} (h : b ∈ nearL bk a l) : b < bk.ps.length := by
 unfold nearL at h
 cases hx : bk.ps[a]? with
 | none => rw [hx] at h; cases h
 | some x =>
   rw [hx] at h
   simp only at h
   have hm := List.mem_of_getElem? hx
   split at h
   . cases hq : x.2 with
     | none => rw [hq] at h; cases h
     | some q => rw [hq] at h; rw [List.mem_singleton.mp h]; exact (ok.par x hm q hq).1.lt
   . split at h
     . cases hq : x.2 with
       | none => rw [hq] at h; cases h
       | some q => rw [hq] at h; rw [List.mem_singleton.mp h]; exact (ok.par x hm q hq).2.1.lt
     . split at h
       . exact mates_lt ok h
       . have h1 := (List.mem_filter.mp h).1
         split at h1
         . obtain ⟨y, q, hy, _⟩ := mem_kids.mp h1
           exact (List.getElem?_eq_some_iff.mp hy).1
         . obtain ⟨_, y, q, _, hy, _⟩ := mem_sibs h1
           exact (List.getElem?_eq_some_iff.mp hy).1
def reachP (bk : Bk) : (Nat -> Prop) -> List Nat -> Nat -> Prop
 | R, [] => R
 | R, l :: r => reachP bk (fun b => ∃ a, R a /\ b ∈ nearL bk a l) r
theorem reachP_snoc (bk : Bk) (l : Nat) : ∀ (w : List Nat) (R : Nat -> Prop) (b : Nat), reachP bk R (w ++ [l]) b ↔ ∃ a, reachP bk R w a /\ b ∈ nearL bk a l
 | [], _, _ => Iff.rfl
 | _ :: w, _, b => reachP_snoc bk l w _ b
def spSibs (e : Ad) : Sp := fun vs H Q _ => ∃ (p : Addr) (fp : List Addr) (bk : Bk) (a : Nat), vs = [.ref p, nat a] /\ BookAt e.Book H p fp bk /\ a < bk.ps.length /\ ∀ D H', Same H H' -> H' D = some (.lst (natL (sibs bk a))) -> Q (.ref D) H'
def spKinL (e : Ad) : Sp := fun vs H Q _ => ∃ (p : Addr) (fp : List Addr) (bk : Bk) (a l : Nat), vs = [.ref p, nat a, sgn l] /\ BookAt e.Book H p fp bk /\ a < bk.ps.length /\ IsL l /\ ∀ D H', Same H H' -> H' D = some (.lst (natL (nearL bk a l))) -> Q (.ref D) H'
def spKin (e : Ad) : Sp := fun vs H Q E => ∃ (p : Addr) (fp : List Addr) (bk : Bk) (i : Int) (l : List Nat), vs = [.ref p, .int i, .str (txt l)] /\ BookAt e.Book H p fp bk /\ Sn i /\ l.length <= 1000 /\ Sg l /\
 (InB bk i -> IsW l -> ∀ xs D H', xs.Pairwise (· < ·) -> (∀ b, b ∈ xs ↔ reachP bk (fun b => b = i.toNat) l b) -> (∀ b ∈ xs, b < bk.ps.length) -> H D = none -> Same H H' -> H' D = some (.lst (natL xs)) -> Q (.ref D) H') /\
 (¬ InB bk i -> E (.ref e.Zf) none H) /\ (InB bk i -> ¬ IsW l -> E (.ref e.Zd) none H)
theorem eqVs_par (x y : Per) : eqVs [faV y, moV y] [faV x, moV x] = decide (y.2 = x.2) := by
 unfold faV moV
 cases hx : x.2 with
 | none =>
   cases hy : y.2 with
   | none => rfl
   | some q => rfl
 | some p =>
   cases hy : y.2 with
   | none => rfl
   | some q =>
     show (((q.1 : Int) == (p.1 : Int)) && (((q.2 : Int) == (p.2 : Int)) && true)) = decide (some q = some p)
     by_cases h : q = p
     . subst h; rw [decide_eq_true rfl]; simp
     . rw [decide_eq_false (fun z => h (Option.some.inj z)), Bool.eq_false_iff]
       intro z
       rw [Bool.and_true, Bool.and_eq_true] at z
       have z1 := eq_of_beq z.1
       have z2 := eq_of_beq z.2
       exact h (Prod.ext (by omega) (by omega))
section
variable {P : Program} {w : World} {K : W.Frag} {mg : Str -> Option Value} {base : Heap} {CX : CXT} {C : Addr} {e : Ad}
theorem sc_sibs : FnScope ["self", "a", "parents"] ["self", "a"] (defScope (inClass (top 28) 15)) := mkSc
theorem ok_sibs {f : Addr} {fd : FuncData} (F : Fun K "siblings" "Book.siblings" (inClass (top 28) 15) f fd) (T : Txt K mg C e) : FnOk P w K mg base CX 1 f fd ["self", "a"] (spSibs e) := by
 refine F.okN sc_sibs (fun vs H Q E h => ?_) (fun cdv A outer s H vs Q E hr h => ?_)
 . obtain ⟨p, fp, bk, a, rfl, _⟩ := h; rfl
 . obtain ⟨p, fp, bk, i, rfl, BA, hi, k⟩ := h
   have nd := sc_sibs.nd
   have hu := hr.units0
   obtain ⟨dx, a, b, c, d, qs, hfp, e1, e2, e3, e4, e5, e6, e7⟩ := id BA.ob
   have n60 := BA.ok.n60
   obtain ⟨x, hx⟩ : ∃ x, bk.ps[i]? = some x := ⟨_, List.getElem?_eq_getElem hi⟩
   refine ⟨_, (pss_cons (ps_if (pt_cmpR op_isN (pe_ix ix_list (pe_fld (pv 0) rfl) (pv 1) (fun _ _ => rfl)) pe_non (nomark _)) (pss_one (ps_ret (pe_lst pa_nil))) pss_nil)
    (pss_cons (ps_set (i := 2) nd rfl (Or.inr rfl) (pe_tup (pa_cons (pe_ix ix_list (pe_fld (pv 0) rfl) (pv 1) (fun _ _ => rfl)) (pa_cons (pe_ix ix_list (pe_fld (pv 0) rfl) (pv 1) (fun _ _ => rfl)) pa_nil))))
    (pss_one (ps_ret (pe_compF (fv := [("a", 1), ("parents", 2), ("self", 0)]) ⟨rfl, by decide +kernel, rfl, by decide +kernel, rfl, by decide +kernel, ⟨⟨rfl, Or.inl rfl, Or.inl rfl, rfl⟩, ⟨⟨rfl, Or.inl rfl, Or.inl rfl, rfl⟩, ⟨⟨rfl, Or.inl rfl, Or.inl rfl, rfl⟩, trivial⟩⟩⟩, rfl, rfl⟩ rfl (pi_range1 rfl T.z_range (pa_cons (pe_callB call_len_seq rfl T.z_len PySem.boot_len (pa_cons (pe_fld (pv 0) rfl) pa_nil)) pa_nil)) (fun _ _ _ => (pv 0)) (fun _ _ _ => (PW.pt (pw_and (pt_cmpR op_ne (pv 0) (pv 1) (nomark _)) (pw_and1 (pt_cmpR (op_eqT hu) (pe_tup (pa_cons (pe_ix ix_list (pe_fld (pv 3) rfl) (pv 0) (fun _ _ => rfl)) (pa_cons (pe_ix ix_list (pe_fld (pv 3) rfl) (pv 0) (fun _ _ => rfl)) pa_nil))) (pv 2) (nomark _))))))))))), ?_⟩
   refine ⟨_, rfl, p, e.Book, dx, _, _, rfl, e1, T.cl_Book, T.n_fathers, bfl_f .., _, rfl, b, _, _, _, rfl, rfl, SqL.of e3, sexs_at hx faV, rfl, _, rfl, ?_⟩
   cases hq : x.2 with
   | none =>
     have es : sibs bk i = [] := by unfold sibs; rw [hx]; simp only; rw [hq]
     have ef : faV x = .non := by unfold faV; rw [hq]
     rw [ef]
     refine iteD rfl ⟨by decide, fun D hD => k D _ (same_new hD) ?_⟩
     rw [upd_same, es]; rfl
   | some q =>
     have ef : ¬ (faV x = .non) := by unfold faV; rw [hq]; intro z; cases z
     refine iteDn ef ?_
     refine ⟨_, rfl, p, e.Book, dx, _, _, rfl, e1, T.cl_Book, T.n_fathers, bfl_f .., _, rfl, b, _, _, _, rfl, rfl, SqL.of e3, sexs_at hx faV, _, rfl, p, e.Book, dx, _, _, rfl, e1, T.cl_Book, T.n_mothers, bfl_m .., _, rfl, c, _, _, _, rfl, rfl, SqL.of e4, sexs_at hx moV, two_fits, fun t ht => ?_⟩
     have s1 := same_new (o := .tup [faV x, moV x]) ht
     have gt : (upd H t (.tup [faV x, moV x])) t = some (.tup [faV x, moV x]) := upd_same
     generalize upd H t (.tup [faV x, moV x]) = H1 at s1 gt
     walk_at "ns"
     refine ⟨_, rfl, p, e.Book, dx, _, _, rfl, s1 _ _ e1, T.cl_Book, T.n_sexes, bfl_s .., a, _, rfl, .inl (SqL.of (s1 _ _ e2)), _, rfl, by rw [List.length_map]; omega, by rw [List.length_map]; omega, ?_⟩
     rw [List.length_map, Int.toNat_natCast]
     have es : sibs bk i = (List.range bk.ps.length).filter fun b => decide (b ≠ i) && (match bk.ps[b]? with
      | some y => decide (y.2 = some q)
      | none => false) := by unfold sibs; rw [hx]; simp only; rw [hq]
     refine comp_rangeF0 (fun b => decide (b ≠ i) && (match bk.ps[b]? with
      | some y => decide (y.2 = some q)
      | none => false)) nat (Nat.le_trans n60 (by decide)) (fun j H' R hj sm kk _ _ _ => ?_) (fun j H' R hj pj sm kk _ _ _ => ⟨_, rfl, kk _ (Same.refl _)⟩) fun D H2 hD s2 hl2 => k D H2 (s1.trans s2) (by rw [es]; exact hl2)
     have hy : bk.ps[j]? = some bk.ps[j] := List.getElem?_eq_getElem hj
     rw [hy] at kk
     have s1m := s1.trans sm
     refine ⟨_, rfl, _, rfl, rfl, _, rfl, ?_⟩
     show if (!decide (nat j = nat i)) = true then _ else _
     by_cases c0 : j = i
     . rw [decide_eq_true (show nat j = nat i by rw [c0])]
       refine iteF ?_
       rw [decide_eq_false (show ¬ (j ≠ i) from fun z => z c0), Bool.false_and] at kk
       exact kk _ (Same.refl _)
     . rw [decide_eq_false (show ¬ (nat j = nat i) from fun z => c0 (by have := V.int.inj z; omega))]
       refine iteT ?_
       rw [decide_eq_true (show j ≠ i from c0), Bool.true_and] at kk
       refine ⟨_, rfl, p, e.Book, dx, _, _, rfl, s1m _ _ e1, T.cl_Book, T.n_fathers, bfl_f .., _, rfl, b, _, _, _, rfl, rfl, SqL.of (s1m _ _ e3), sexs_at hy faV, _, rfl, p, e.Book, dx, _, _, rfl, s1m _ _ e1, T.cl_Book, T.n_mothers, bfl_m .., _, rfl, c, _, _, _, rfl, rfl, SqL.of (s1m _ _ e4), sexs_at hy moV, two_fits, fun t2 ht2 => ?_⟩
       refine ⟨_, rfl, t2, t, _, _, rfl, rfl, SqT.of upd_same, SqT.of (same_new ht2 _ _ (sm _ _ gt)), ?_, ?_, _, rfl, ?_⟩
       . show (flatV (faV bk.ps[j]) && (flatV (moV bk.ps[j]) && true)) = true
         rw [fa_flat, mo_flat]; rfl
       . show (flatV (faV x) && (flatV (moV x) && true)) = true
         rw [fa_flat, mo_flat]; rfl
       . show R (eqVs [faV bk.ps[j], moV bk.ps[j]] [faV x, moV x]) _
         rw [eqVs_par, hq]
         exact kk _ (same_new ht2)
theorem dec_sex (a b : Bool) : decide (sexV a = sexV b) = (a == b) := by cases a <;> cases b <;> decide +kernel
theorem sc_kinl : FnScope ["self", "a", "letter", "parent", "near", "sex"] ["self", "a", "letter"] (defScope (inClass (top 28) 16)) := mkSc
theorem ok_kinl {f : Addr} {fd : FuncData} (F : Fun K "kin_by_letter" "Book.kin_by_letter" (inClass (top 28) 16) f fd) (T : Txt K mg C e) (D_children : MDef P w K mg base (CXR P w) e.Book "children" 2 ["self", "a"] (spChildrenB e)) (D_siblings : MDef P w K mg base (CXR P w) e.Book "siblings" 1 ["self", "a"] (spSibs e)) (D_sex_after : Def P w K mg base (CXR P w) "sex_after" 2 ["sex", "letter"] spSexAfter) : FnOk P w K mg base (CXR P w) 3 f fd ["self", "a", "letter"] (spKinL e) := by
 refine F.okX sc_kinl (fun vs H Q E h => ?_) (fun cdv A outer s H vs Q E hr hx h => ?_)
 . obtain ⟨p, fp, bk, a, l, rfl, _⟩ := h; rfl
 . obtain ⟨p, fp, bk, i, l, rfl, BA, hi, hl, k⟩ := h
   have nd := sc_kinl.nd
   obtain ⟨dx, a, b, c, d, qs, hfp, e1, e2, e3, e4, e5, e6, e7⟩ := id BA.ob
   have n60 := BA.ok.n60
   have p9 : (100 : Nat) < 10 ^ 9 := by decide
   obtain ⟨x, hxx⟩ : ∃ x, bk.ps[i]? = some x := ⟨_, List.getElem?_eq_getElem hi⟩
   have en : ∀ r : List Nat, nearL bk i l = r -> ∀ D H', Same H H' -> H' D = some (.lst (natL r)) -> Q (.ref D) H' := fun r er D H' s g => k D H' s (by rw [er]; exact g)
   unfold nearL at en
   rw [hxx] at en
   simp only at en
   refine ⟨_, (pss_cons (ps_if (PW.pt (pw_or (pt_cmpR op_eq (pv 2) pe_str (nomark _)) (pw_or1 (pt_cmpR op_eq (pv 2) pe_str (nomark _))))) (pss_cons (ps_set (i := 3) nd rfl (Or.inl rfl) (pe_ifExp (pt_cmpR op_eq (pv 2) pe_str (nomark _)) (pe_ix ix_list (pe_fld (pv 0) rfl) (pv 1) (fun _ _ => rfl)) (pe_ix ix_list (pe_fld (pv 0) rfl) (pv 1) (fun _ _ => rfl))))
    (pss_one (ps_ret (pe_ifExp (pt_cmpR op_isN (pv 3) pe_non (nomark _)) (pe_lst pa_nil) (pe_lst (pa_cons (pv 3) pa_nil)))))) pss_nil)
    (pss_cons (ps_if (pt_cmpR op_eq (pv 2) pe_str (nomark _)) (pss_one (ps_ret (pe_ix ix_list (pe_fld (pv 0) rfl) (pv 1) (fun _ _ => rfl)))) pss_nil)
    (pss_cons (ps_set (i := 4) nd rfl (Or.inl rfl) (pe_ifExp (PW.pt (pw_or (pt_cmpR op_eq (pv 2) pe_str (nomark _)) (pw_or1 (pt_cmpR op_eq (pv 2) pe_str (nomark _))))) (pe_methX (pv 0) T.cl_Book D_children hx.s hr (pa_cons (pv 1) pa_nil)) (pe_methX (pv 0) T.cl_Book D_siblings hx.s hr (pa_cons (pv 1) pa_nil))))
    (pss_cons (ps_set (i := 5) nd rfl (Or.inr rfl) (pe_callX D_sex_after hx.s hr rfl (pa_cons (pe_ix ix_list (pe_fld (pv 0) rfl) (pv 1) (fun _ _ => rfl)) (pa_cons (pv 2) pa_nil))))
    (pss_one (ps_ret (pe_compF (fv := [("self", 0), ("sex", 5)]) ⟨rfl, by decide +kernel, rfl, by decide +kernel, rfl, by decide +kernel, ⟨⟨rfl, Or.inl rfl, Or.inl rfl, rfl⟩, ⟨⟨rfl, Or.inl rfl, Or.inl rfl, rfl⟩, trivial⟩⟩, rfl, rfl⟩ rfl (pi_list (pv 4)) (fun _ _ _ => (pv 0)) (fun _ _ _ => (pt_cmpR op_eq (pe_ix ix_list (pe_fld (pv 1) rfl) (pv 0) (fun _ _ => rfl)) (pv 2) (nomark _)))))))))), ?_⟩
   refine ⟨_, rfl, rfl, _, rfl, iteD2 (fun ef => iteT ?_) (fun nf => ?_)⟩
   . rw [sgn_iff c_f] at ef
     subst ef
     rw [if_pos rfl] at en
     refine ⟨_, rfl, rfl, _, rfl, iteD rfl ?_⟩
     refine ⟨_, rfl, p, e.Book, dx, _, _, rfl, e1, T.cl_Book, T.n_fathers, bfl_f .., _, rfl, b, _, _, _, rfl, rfl, SqL.of e3, sexs_at hxx faV, ?_⟩
     walk_at "ns"
     refine ⟨_, rfl, rfl, _, rfl, ?_⟩
     cases hq : x.2 with
     | none =>
       have e9 : faV x = .non := by unfold faV; rw [hq]
       rw [e9]
       exact iteD rfl ⟨by decide, fun D hD => en [] (by rw [hq]) D _ (same_new hD) upd_same⟩
     | some q =>
       have e9 : faV x = nat q.1 := by unfold faV; rw [hq]
       rw [e9]
       exact iteDn (by intro z; cases z) ⟨_, rfl, one_fits, fun D hD => en [q.1] (by rw [hq]) D _ (same_new hD) upd_same⟩
   rw [sgn_iff c_f] at nf
   rw [if_neg nf] at en
   refine ⟨_, rfl, rfl, _, rfl, iteD2 (fun em => ?_) (fun nm => ?_)⟩
   . rw [sgn_iff c_m] at em
     subst em
     rw [if_pos rfl] at en
     refine ⟨_, rfl, rfl, _, rfl, iteDn (by decide) ?_⟩
     refine ⟨_, rfl, p, e.Book, dx, _, _, rfl, e1, T.cl_Book, T.n_mothers, bfl_m .., _, rfl, c, _, _, _, rfl, rfl, SqL.of e4, sexs_at hxx moV, ?_⟩
     walk_at "ns"
     refine ⟨_, rfl, rfl, _, rfl, ?_⟩
     cases hq : x.2 with
     | none =>
       have e9 : moV x = .non := by unfold moV; rw [hq]
       rw [e9]
       exact iteD rfl ⟨by decide, fun D hD => en [] (by rw [hq]) D _ (same_new hD) upd_same⟩
     | some q =>
       have e9 : moV x = nat q.2 := by unfold moV; rw [hq]
       rw [e9]
       exact iteDn (by intro z; cases z) ⟨_, rfl, one_fits, fun D hD => en [q.2] (by rw [hq]) D _ (same_new hD) upd_same⟩
   rw [sgn_iff c_m] at nm
   rw [if_neg nm] at en
   refine ⟨_, rfl, rfl, _, rfl, iteD2 (fun ep => ?_) (fun np => ?_)⟩
   . rw [sgn_iff c_p] at ep
     subst ep
     rw [if_pos rfl] at en
     have lq : i < qs.length := by rw [e6]; exact hi
     have hq : qs[i]? = some qs[i] := List.getElem?_eq_getElem lq
     exact ⟨_, rfl, p, e.Book, dx, _, _, rfl, e1, T.cl_Book, T.n_partner_lists, bfl_p .., _, rfl, d, _, _, _, rfl, rfl, SqL.of e5, atI_nat (by rw [List.getElem?_map, hq]; rfl), en _ rfl _ H (Same.refl _) (e7 i _ hq)⟩
   rw [sgn_iff c_p] at np
   rw [if_neg np] at en
   have kl : ∀ j ∈ kids bk i, j < bk.ps.length := fun j hj => by
    obtain ⟨y, q, hy, _⟩ := mem_kids.mp hj
    exact (List.getElem?_eq_some_iff.mp hy).1
   have sl : ∀ j ∈ sibs bk i, j < bk.ps.length := fun j hj => by
    obtain ⟨_, y, q, _, hy, _⟩ := mem_sibs hj
    exact (List.getElem?_eq_some_iff.mp hy).1
   have kn : (kids bk i).length <= 60 := Nat.le_trans (by unfold kids; exact Nat.le_trans (List.length_filter_le _ _) (by rw [List.length_range]; exact Nat.le_refl _)) n60
   have sn : (sibs bk i).length <= 60 := by
    refine Nat.le_trans ?_ n60
    unfold sibs
    rw [hxx]
    simp only
    cases x.2 with
    | none => exact Nat.zero_le _
    | some q => exact Nat.le_trans (List.length_filter_le _ _) (by rw [List.length_range]; exact Nat.le_refl _)
   have sni : Sn (i : Int) := log_small (by show ((i : Nat) : Int).natAbs < 10 ^ 9; omega)
   have ini : InB bk (i : Int) := ⟨by omega, by omega⟩
   refine ⟨_, rfl, rfl, _, rfl, iteD2 (fun es => iteT ?_) (fun ns => ?_)⟩
   . rw [sgn_iff c_s] at es
     refine ⟨_, rfl, p, dx, _, rfl, e1, bno .., _, rfl, p, fp, bk, (i : Int), rfl, BA, sni, fun _ r D H1 er hD s1 g1 => ?_, fun z => absurd ini z⟩
     rw [Int.toNat_natCast] at er
     subst er
     rw [if_pos (.inl es)] at en
     walk_at "ns"
     refine ⟨_, rfl, p, e.Book, dx, _, _, rfl, s1 _ _ e1, T.cl_Book, T.n_sexes, bfl_s .., _, rfl, a, _, _, _, rfl, rfl, SqL.of (s1 _ _ e2), sexs_at hxx perSex, _, rfl, x.1, l, rfl, hl, ?_⟩
     walk_at "ns"
     refine ⟨_, rfl, D, rfl, ⟨_, SqL.of g1⟩, ?_⟩
     refine comp_listF (fun j => match (kids bk i)[j]? with
      | some b => ofSex bk (stS x.1 l) b
      | none => false) (fun j => match (kids bk i)[j]? with
      | some b => nat b
      | none => .non) (SqL.of g1) (by rw [natL_len]; exact Nat.le_trans kn (by decide)) (fun j v H' R hj sm kk _ _ _ => ?_) (fun j v H' R hj pj sm kk _ _ _ => ?_) fun D2 H2 hD2 s2 hl2 => ?_
     . obtain ⟨y, hy, rfl⟩ : ∃ y, (kids bk i)[j]? = some y /\ v = nat y := by
        unfold natL at hj
        rw [List.getElem?_map] at hj
        obtain ⟨y, hy, rfl⟩ := Option.map_eq_some_iff.mp hj
        exact ⟨y, hy, rfl⟩
       rw [hy] at kk
       have ly := kl y (List.mem_of_getElem? hy)
       have hz : bk.ps[y]? = some bk.ps[y] := List.getElem?_eq_getElem ly
       have s1m := s1.trans sm
       refine ⟨_, rfl, p, e.Book, dx, _, _, rfl, s1m _ _ e1, T.cl_Book, T.n_sexes, bfl_s .., _, rfl, a, _, _, _, rfl, rfl, SqL.of (s1m _ _ e2), sexs_at hz perSex, _, rfl, rfl, _, rfl, ?_⟩
       have : decide (perSex bk.ps[y] = sexV (stS x.1 l)) = ofSex bk (stS x.1 l) y := by
        rw [ofSex_eq hz]
        exact dec_sex _ _
       show R (decide (perSex bk.ps[y] = sexV (stS x.1 l))) H'
       rw [this]; exact kk _ (Same.refl _)
     . obtain ⟨y, hy, rfl⟩ : ∃ y, (kids bk i)[j]? = some y /\ v = nat y := by
        unfold natL at hj
        rw [List.getElem?_map] at hj
        obtain ⟨y, hy, rfl⟩ := Option.map_eq_some_iff.mp hj
        exact ⟨y, hy, rfl⟩
       rw [hy] at kk
       exact ⟨_, rfl, kk _ (Same.refl _)⟩
     rw [natL_len, filter_idx (kids bk i) (ofSex bk (stS x.1 l)) nat _ _ (fun j q hq => by rw [hq]; exact ⟨rfl, rfl⟩)] at hl2
     exact en _ rfl D2 H2 (s1.trans s2) hl2
   rw [sgn_iff c_s] at ns
   refine ⟨_, rfl, rfl, _, rfl, iteD2 (fun ed => ?_) (fun nd' => ?_)⟩
   . rw [sgn_iff c_d] at ed
     refine ⟨_, rfl, p, dx, _, rfl, e1, bno .., _, rfl, p, fp, bk, (i : Int), rfl, BA, sni, fun _ r D H1 er hD s1 g1 => ?_, fun z => absurd ini z⟩
     rw [Int.toNat_natCast] at er
     subst er
     rw [if_pos (.inr ed)] at en
     walk_at "ns"
     refine ⟨_, rfl, p, e.Book, dx, _, _, rfl, s1 _ _ e1, T.cl_Book, T.n_sexes, bfl_s .., _, rfl, a, _, _, _, rfl, rfl, SqL.of (s1 _ _ e2), sexs_at hxx perSex, _, rfl, x.1, l, rfl, hl, ?_⟩
     walk_at "ns"
     refine ⟨_, rfl, D, rfl, ⟨_, SqL.of g1⟩, ?_⟩
     refine comp_listF (fun j => match (kids bk i)[j]? with
      | some b => ofSex bk (stS x.1 l) b
      | none => false) (fun j => match (kids bk i)[j]? with
      | some b => nat b
      | none => .non) (SqL.of g1) (by rw [natL_len]; exact Nat.le_trans kn (by decide)) (fun j v H' R hj sm kk _ _ _ => ?_) (fun j v H' R hj pj sm kk _ _ _ => ?_) fun D2 H2 hD2 s2 hl2 => ?_
     . obtain ⟨y, hy, rfl⟩ : ∃ y, (kids bk i)[j]? = some y /\ v = nat y := by
        unfold natL at hj
        rw [List.getElem?_map] at hj
        obtain ⟨y, hy, rfl⟩ := Option.map_eq_some_iff.mp hj
        exact ⟨y, hy, rfl⟩
       rw [hy] at kk
       have ly := kl y (List.mem_of_getElem? hy)
       have hz : bk.ps[y]? = some bk.ps[y] := List.getElem?_eq_getElem ly
       have s1m := s1.trans sm
       refine ⟨_, rfl, p, e.Book, dx, _, _, rfl, s1m _ _ e1, T.cl_Book, T.n_sexes, bfl_s .., _, rfl, a, _, _, _, rfl, rfl, SqL.of (s1m _ _ e2), sexs_at hz perSex, _, rfl, rfl, _, rfl, ?_⟩
       have : decide (perSex bk.ps[y] = sexV (stS x.1 l)) = ofSex bk (stS x.1 l) y := by
        rw [ofSex_eq hz]
        exact dec_sex _ _
       show R (decide (perSex bk.ps[y] = sexV (stS x.1 l))) H'
       rw [this]; exact kk _ (Same.refl _)
     . obtain ⟨y, hy, rfl⟩ : ∃ y, (kids bk i)[j]? = some y /\ v = nat y := by
        unfold natL at hj
        rw [List.getElem?_map] at hj
        obtain ⟨y, hy, rfl⟩ := Option.map_eq_some_iff.mp hj
        exact ⟨y, hy, rfl⟩
       rw [hy] at kk
       exact ⟨_, rfl, kk _ (Same.refl _)⟩
     rw [natL_len, filter_idx (kids bk i) (ofSex bk (stS x.1 l)) nat _ _ (fun j q hq => by rw [hq]; exact ⟨rfl, rfl⟩)] at hl2
     exact en _ rfl D2 H2 (s1.trans s2) hl2
   . rw [sgn_iff c_d] at nd'
     rw [if_neg (fun z => z.elim ns nd')] at en
     refine ⟨_, rfl, p, dx, _, rfl, e1, bno .., _, rfl, p, fp, bk, i, rfl, BA, hi, fun D H1 s1 g1 => ?_⟩
     walk_at "ns"
     refine ⟨_, rfl, p, e.Book, dx, _, _, rfl, s1 _ _ e1, T.cl_Book, T.n_sexes, bfl_s .., _, rfl, a, _, _, _, rfl, rfl, SqL.of (s1 _ _ e2), sexs_at hxx perSex, _, rfl, x.1, l, rfl, hl, ?_⟩
     walk_at "ns"
     refine ⟨_, rfl, D, rfl, ⟨_, SqL.of g1⟩, ?_⟩
     refine comp_listF (fun j => match (sibs bk i)[j]? with
      | some b => ofSex bk (stS x.1 l) b
      | none => false) (fun j => match (sibs bk i)[j]? with
      | some b => nat b
      | none => .non) (SqL.of g1) (by rw [natL_len]; exact Nat.le_trans sn (by decide)) (fun j v H' R hj sm kk _ _ _ => ?_) (fun j v H' R hj pj sm kk _ _ _ => ?_) fun D2 H2 hD2 s2 hl2 => ?_
     . obtain ⟨y, hy, rfl⟩ : ∃ y, (sibs bk i)[j]? = some y /\ v = nat y := by
        unfold natL at hj
        rw [List.getElem?_map] at hj
        obtain ⟨y, hy, rfl⟩ := Option.map_eq_some_iff.mp hj
        exact ⟨y, hy, rfl⟩
       rw [hy] at kk
       have ly := sl y (List.mem_of_getElem? hy)
       have hz : bk.ps[y]? = some bk.ps[y] := List.getElem?_eq_getElem ly
       have s1m := s1.trans sm
       refine ⟨_, rfl, p, e.Book, dx, _, _, rfl, s1m _ _ e1, T.cl_Book, T.n_sexes, bfl_s .., _, rfl, a, _, _, _, rfl, rfl, SqL.of (s1m _ _ e2), sexs_at hz perSex, _, rfl, rfl, _, rfl, ?_⟩
       have : decide (perSex bk.ps[y] = sexV (stS x.1 l)) = ofSex bk (stS x.1 l) y := by
        rw [ofSex_eq hz]
        exact dec_sex _ _
       show R (decide (perSex bk.ps[y] = sexV (stS x.1 l))) H'
       rw [this]; exact kk _ (Same.refl _)
     . obtain ⟨y, hy, rfl⟩ : ∃ y, (sibs bk i)[j]? = some y /\ v = nat y := by
        unfold natL at hj
        rw [List.getElem?_map] at hj
        obtain ⟨y, hy, rfl⟩ := Option.map_eq_some_iff.mp hj
        exact ⟨y, hy, rfl⟩
       rw [hy] at kk
       exact ⟨_, rfl, kk _ (Same.refl _)⟩
     rw [natL_len, filter_idx (sibs bk i) (ofSex bk (stS x.1 l)) nat _ _ (fun j q hq => by rw [hq]; exact ⟨rfl, rfl⟩)] at hl2
     exact en _ rfl D2 H2 (s1.trans s2) hl2
end
section
variable {P : Program} {w : World} {K : W.Frag} {mg : Str -> Option Value} {base : Heap} {CX : CXT} {C : Addr} {e : Ad}
theorem sc_kin : FnScope ["self", "a", "walk", "reached", "letter", "later", "here", "there"] ["self", "a", "walk"] (defScope (inClass (top 28) 17)) := mkSc
theorem ok_kin {f : Addr} {fd : FuncData} (F : Fun K "kin" "Book.kin" (inClass (top 28) 17) f fd) (T : Txt K mg C e) (D_check_person : MDef P w K mg base (CXR P w) e.Book "check_person" 1 ["self", "a"] (spCheckP e)) (D_check_walk : Def P w K mg base (CXR P w) "check_walk" 1 ["walk"] (spCheckWalk e)) (D_kin_by_letter : MDef P w K mg base (CXR P w) e.Book "kin_by_letter" 3 ["self", "a", "letter"] (spKinL e)) : FnOk P w K mg base (CXR P w) 4 f fd ["self", "a", "walk"] (spKin e) := by
 refine F.okX sc_kin (fun vs H Q E h => ?_) (fun cdv A outer s H vs Q E hr hx h => ?_)
 . obtain ⟨p, fp, bk, i, l, rfl, _⟩ := h; rfl
 . obtain ⟨p, fp, bk, i, l, rfl, BA, si, l1000, sg, k, kP, kW⟩ := h
   have nd := sc_kin.nd
   obtain ⟨dx, a, b, c, d, qs, hfp, e1, e2, e3, e4, e5, e6, e7⟩ := id BA.ob
   have ok := BA.ok
   have n60 := ok.n60
   have big : 4000 <= sizeLine := by decide
   refine ⟨_, (pss_cons (ps_expr (pe_methX (pv 0) T.cl_Book D_check_person hx.s hr (pa_cons (pv 1) pa_nil)))
    (pss_cons (ps_expr (pe_callX D_check_walk hx.s hr rfl (pa_cons (pv 2) pa_nil)))
    (pss_cons (ps_set (i := 3) nd rfl (Or.inl rfl) (pe_lst (pa_cons (pv 1) pa_nil)))
    (pss_cons (ps_for PassesOwn.leaving rfl (pi_str (pv 2)) (pg_name (i := 4) nd rfl (Or.inl rfl)) (pss_cons (ps_set (i := 5) nd rfl (Or.inl rfl) pe_dnewK)
    (pss_cons (ps_for PassesOwn.leaving rfl (pi_list (pv 3)) (pg_name (i := 6) nd rfl (Or.inl rfl)) (pss_one (ps_for PassesOwn.leaving rfl (pi_list (pe_methX (pv 0) T.cl_Book D_kin_by_letter hx.s hr (pa_cons (pv 6) (pa_cons (pv 4) pa_nil)))) (pg_name (i := 7) nd rfl (Or.inl rfl)) (pss_one (ps_dput (hu_of hr) (pv 5) (pv 7) pe_bl rfl)))))
    (pss_one (ps_set (i := 3) nd rfl (Or.inl rfl) (pe_callB (call_sortedD rfl) rfl T.z_sorted bt_sorted (pa_cons (pv 5) pa_nil)))))))
    (pss_one (ps_ret (pv 3))))))), ?_⟩
   refine ⟨_, rfl, p, dx, _, rfl, e1, bno .., _, rfl, p, fp, bk, i, rfl, BA, si, fun hi v hv => ?_, kP⟩
   refine ⟨_, rfl, l, rfl, l1000, sg, fun hw => ?_, kW hi⟩
   have k := k hi hw
   obtain ⟨i', rfl, li, _⟩ := toN hi
   rw [Int.toNat_natCast] at k
   refine ⟨_, rfl, one_fits, fun R0 hR0 => ?_⟩
   walk_at "ns"
   refine ⟨_, rfl, _, rfl, for_str (l := l) (fun j σ H2 => ∃ R xs o4 o5 o6 o7, σ = [some (.ref p), some (nat i'), some (.str (txt l)), some (.ref R), o4, o5, o6, o7] /\ Same H H2 /\ H R = none /\ H2 R = some (.lst (natL xs)) /\ xs.Pairwise (· < ·) /\ (∀ b, b ∈ xs ↔ reachP bk (fun b => b = i') (l.take j) b) /\ ∀ b ∈ xs, b < bk.ps.length) ?_ ?_ ?_⟩
   . exact ⟨R0, [i'], none, none, none, none, rfl, same_new hR0, hR0, upd_same, List.pairwise_singleton _ _, fun b => List.mem_singleton, fun b hb => by rw [List.mem_singleton.mp hb]; exact li⟩
   . rintro j x σ H2 hj ⟨R, xs, o4, o5, o6, o7, rfl, s2, hR, gR, pw, mem, lt⟩
     have hx : IsL x := hw.2 x (List.mem_of_getElem? hj)
     walk_at "ns"
     intro Dd hDd
     have s3 := same_new (o := .dK []) hDd
     have gd : (upd H2 Dd (.dK [])) Dd = some (.dK (kvOf [])) := upd_same
     generalize upd H2 Dd (.dK []) = H3 at s3 gd
     walk_at "ns"
     refine ⟨_, rfl, R, rfl, ⟨_, SqL.of (s3 _ _ gR)⟩, for_list (xs := natL xs) (fun m σ G => ∃ ks o6 o7, σ = [some (.ref p), some (nat i'), some (.str (txt l)), some (.ref R), some (sgn x), some (.ref Dd), o6, o7] /\ Same H2 G /\ G Dd = some (.dK (kvOf ks)) /\ ks.Nodup /\ ∀ b, b ∈ ks ↔ ∃ a ∈ xs.take m, b ∈ nearL bk a x) ⟨[], _, _, rfl, s3, gd, List.nodup_nil, fun b => ⟨fun z => (by cases z), fun ⟨a, z, _⟩ => (by simp at z)⟩⟩ (fun m σ G _ ⟨_, _, _, _, sG, _⟩ => SqL.of (sG _ _ gR)) ?_ ?_⟩
     . rintro m v σ G hm ⟨ks, o6', o7', rfl, sG, gG, nk, mk⟩
       obtain ⟨y, hy, rfl⟩ : ∃ y, xs[m]? = some y /\ v = nat y := by
        unfold natL at hm
        rw [List.getElem?_map] at hm
        obtain ⟨y, hy, rfl⟩ := Option.map_eq_some_iff.mp hm
        exact ⟨y, hy, rfl⟩
       have ly := lt y (List.mem_of_getElem? hy)
       have s2G := s2.trans sG
       walk_at "ns"
       refine ⟨_, rfl, p, dx, _, rfl, s2G _ _ e1, bno .., _, rfl, _, rfl, p, fp, bk, y, x, rfl, BA.same s2G, ly, hx, fun D G1 sG1 g1 => ?_⟩
       refine ⟨D, rfl, ⟨_, SqL.of g1⟩, for_list (xs := natL (nearL bk y x)) (fun q σ G' => ∃ ks' o7, σ = [some (.ref p), some (nat i'), some (.str (txt l)), some (.ref R), some (sgn x), some (.ref Dd), some (nat y), o7] /\ Same H2 G' /\ G' D = some (.lst (natL (nearL bk y x))) /\ G' Dd = some (.dK (kvOf ks')) /\ ks'.Nodup /\ ∀ b, b ∈ ks' ↔ b ∈ ks \/ b ∈ (nearL bk y x).take q) ⟨ks, _, rfl, sG.trans sG1, g1, sG1 _ _ gG, nk, fun b => ⟨.inl, fun z => z.elim id fun z => by simp at z⟩⟩ (fun q σ G' _ ⟨_, _, _, _, g, _⟩ => SqL.of g) ?_ ?_⟩
       . rintro q v σ G' hq ⟨ks', o7'', rfl, sG', gD', gG', nk', mk'⟩
         obtain ⟨t, ht, rfl⟩ : ∃ t, (nearL bk y x)[q]? = some t /\ v = nat t := by
          unfold natL at hq
          rw [List.getElem?_map] at hq
          obtain ⟨t, ht, rfl⟩ := Option.map_eq_some_iff.mp hq
          exact ⟨t, ht, rfl⟩
         have kl : ks'.length <= 60 := Nat.le_trans (nodup_len _ _ nk' fun b hb => by
          rcases (mk' b).mp hb with z | z
          . obtain ⟨a', _, z'⟩ := (mk b).mp z
            exact near_lt ok z'
          . exact near_lt ok (List.mem_of_mem_take z)) n60
         have nDd : D ≠ Dd := fun z => by rw [z, gG'] at gD'; cases gD'
         walk_at "ns"
         refine ⟨_, rfl, _, rfl, Dd, _, rfl, DPut.k (k := Sum.inl (t : Int)) gG' (by unfold kvOf; rw [List.length_map]; omega), ?_⟩
         rw [putK_kv]
         refine ⟨_, _, rfl, same_upd sG' hDd, by rw [upd_ne nDd]; exact gD', upd_same, ?_, fun b => ?_⟩
         . by_cases z : t ∈ ks'
           . rw [if_pos z]; exact nk'
           . rw [if_neg z, List.nodup_append]
             exact ⟨nk', List.nodup_cons.mpr ⟨fun y => (List.not_mem_nil y), List.nodup_nil⟩, fun a ha b hb e => z (by rw [<- List.mem_singleton.mp hb, <- e]; exact ha)⟩
         . have tk : b ∈ (nearL bk y x).take (q + 1) ↔ b ∈ (nearL bk y x).take q \/ b = t := by
            rw [List.take_add_one, ht, List.mem_append]
            simp
           rw [tk]
           by_cases z : t ∈ ks'
           . rw [if_pos z, mk' b]
             constructor
             . rintro (u | u)
               . exact .inl u
               . exact .inr (.inl u)
             . rintro (u | u | u)
               . exact .inl u
               . exact .inr u
               . subst u; exact (mk' b).mp z
           . rw [if_neg z, List.mem_append, mk' b, List.mem_singleton]
             constructor
             . rintro ((u | u) | u)
               . exact .inl u
               . exact .inr (.inl u)
               . exact .inr (.inr u)
             . rintro (u | u | u)
               . exact .inl (.inl u)
               . exact .inl (.inr u)
               . exact .inr u
       . rintro σ G' ⟨ks', o7'', rfl, sG', gD', gG', nk', mk'⟩
         rw [natL_len, List.take_length] at mk'
         refine ⟨ks', _, _, rfl, sG', gG', nk', fun b => ?_⟩
         rw [mk' b, mk b, List.take_add_one, hy]
         constructor
         . rintro (⟨a', z1, z2⟩ | z)
           . exact ⟨a', List.mem_append_left _ z1, z2⟩
           . exact ⟨y, List.mem_append_right _ (by simp), z⟩
         . rintro ⟨a', z1, z2⟩
           rcases List.mem_append.mp z1 with u | u
           . exact .inl ⟨a', u, z2⟩
           . have : a' = y := by simpa using u
             subst this; exact .inr z2
     . rintro σ G ⟨ks, o6', o7', rfl, sG, gG, nk, mk⟩
       rw [natL_len, List.take_length] at mk
       have klt : ∀ b ∈ ks, b < bk.ps.length := fun b hb => by
        obtain ⟨a', _, z'⟩ := (mk b).mp hb
        exact near_lt ok z'
       have kl : ks.length <= 60 := Nat.le_trans (nodup_len _ _ nk klt) n60
       walk_at "ns"
       refine ⟨_, rfl, Dd, kvOf ks, _, rfl, gG, kvOf_keysN ks, by rw [List.length_map]; omega, fun R1 ns hR1 hp hs => ?_⟩
       obtain ⟨r, er, pr, sr⟩ := toNats hp hs
       rw [er]
       have s2G := s2.trans sG
       refine ⟨R1, r, _, _, _, _, rfl, s2G.trans (same_new hR1), s2G.free hR1, upd_same, ?_, fun b => ?_, fun b hb => klt b (pr.mem_iff.mp hb)⟩
       . have rn : r.Nodup := pr.nodup_iff.mpr nk
         exact (sr.and rn).imp fun {u v} z => Nat.lt_of_le_of_ne z.1 z.2
       . rw [pr.mem_iff, mk b, List.take_add_one, hj]
         rw [show (some x).toList = [x] from rfl, reachP_snoc]
         constructor
         . rintro ⟨a', z1, z2⟩
           exact ⟨a', (mem a').mp z1, z2⟩
         . rintro ⟨a', z1, z2⟩
           exact ⟨a', (mem a').mpr z1, z2⟩
   . rintro σ H2 ⟨R, xs, o4, o5, o6, o7, rfl, s2, hR, gR, pw, mem, lt⟩
     rw [List.take_length] at mem
     exact ⟨_, rfl, k xs R H2 pw mem lt hR s2 gR⟩
end
def kdAt (ks : List Nat) (i : Nat) : Nat := ks[i]?.getD 0
theorem kd_get {ks : List Nat} {i : Nat} (h : i < ks.length) : ks[i]? = some (kdAt ks i) := by unfold kdAt; rw [List.getElem?_eq_getElem h]; rfl
theorem kd_at {ks : List Nat} {i : Nat} (h : i < ks.length) : atI (natL ks) (i : Int) = some (nat (kdAt ks i)) := atI_nat (natL_get (kd_get h))
theorem kd_old {ks : List Nat} {i k : Nat} (h : i < ks.length) : kdAt (ks ++ [k]) i = kdAt ks i := by unfold kdAt; rw [List.getElem?_append_left h]
theorem kd_new {ks : List Nat} {k : Nat} : kdAt (ks ++ [k]) ks.length = k := by unfold kdAt; rw [List.getElem?_append_right (Nat.le_refl _), Nat.sub_self]; rfl
structure Fits (n : Nat) (w h : List Nat) (bk : Bk) (ks : List Nat) : Prop where
 len : ks.length = bk.ps.length
 lt : ∀ i, i < ks.length -> kdAt ks i < n
 pr : ∀ q ∈ bk.prs, kdAt ks q.2 = fw w (kdAt ks q.1)
 ch : ∀ (i : Nat) x q, bk.ps[i]? = some x -> x.2 = some q -> kdAt ks i = fw h (kdAt ks q.1)
def FitC (n : Nat) (w h : List Nat) (ks : List Nat) (k : Nat) : Com -> Prop
 | .come _ => k < n
 | .wed m f => kdAt ks f = fw w (kdAt ks m)
 | .born _ m f => kdAt ks f = fw w (kdAt ks m) /\ k = fw h (kdAt ks m) /\ k < n
def ksC (ks : List Nat) (k : Nat) : Com -> List Nat
 | .come _ => ks ++ [k]
 | .wed _ _ => ks
 | .born _ _ _ => ks ++ [k]
theorem Fits.nil {n : Nat} {w h : List Nat} : Fits n w h ⟨[], []⟩ [] := ⟨rfl, fun i h => absurd h (Nat.not_lt_zero _), fun q hq => (by cases hq), fun i x q hx _ => (by cases hx)⟩
theorem Fits.add {n : Nat} {w h : List Nat} {bk : Bk} {ks : List Nat} (F : Fits n w h bk ks) (ok : BkOk bk) {x : Per} {k : Nat} (hk : k < n) (hx : ∀ q, x.2 = some q -> q.1 < ks.length /\ k = fw h (kdAt ks q.1)) : Fits n w h (bk.add x) (ks ++ [k]) := by
 have old : ∀ i, i < bk.ps.length -> kdAt (ks ++ [k]) i = kdAt ks i := fun i hi => kd_old (by rw [F.len]; exact hi)
 refine ⟨by show _ = (bk.ps ++ [x]).length; rw [List.length_append, List.length_append, F.len]; rfl, fun i hi => ?_, fun q hq => ?_, fun i y q hy hq => ?_⟩
 . rw [List.length_append] at hi
   have h1 : [k].length = 1 := rfl
   by_cases c : i < ks.length
   . rw [kd_old c]; exact F.lt i c
   . have : i = ks.length := by omega
     subst this
     rw [kd_new]; exact hk
 . have := ok.pr q hq
   rw [old _ this.1.lt, old _ this.2.lt]
   exact F.pr q hq
 . have hy' : (bk.ps ++ [x])[i]? = some y := hy
   by_cases c : i < bk.ps.length
   . rw [List.getElem?_append_left c] at hy'
     have hp := ok.par y (List.mem_of_getElem? hy') q hq
     rw [old i c, old _ hp.1.lt]
     exact F.ch i y q hy' hq
   . have hl := (List.getElem?_eq_some_iff.mp hy').1
     rw [List.length_append] at hl
     have h1 : [x].length = 1 := rfl
     have : i = bk.ps.length := by omega
     subst this
     rw [List.getElem?_append_right (Nat.le_refl _), Nat.sub_self] at hy'
     cases Option.some.inj hy'
     obtain ⟨l1, e1⟩ := hx q hq
     rw [<- F.len, kd_new, kd_old l1]
     exact e1
theorem Fits.pair {n : Nat} {w h : List Nat} {bk : Bk} {ks : List Nat} (F : Fits n w h bk ks) {q : Nat × Nat} (hq : kdAt ks q.2 = fw w (kdAt ks q.1)) : Fits n w h (bk.pair q) ks := by
 refine ⟨F.len, F.lt, fun r hr => ?_, F.ch⟩
 unfold Bk.pair at hr
 by_cases z : q ∈ bk.prs
 . rw [if_pos z] at hr; exact F.pr r hr
 . rw [if_neg z] at hr
   rcases List.mem_append.mp hr with y | y
   . exact F.pr r y
   . rw [List.mem_singleton.mp y]; exact hq
theorem Fits.go {n : Nat} {w h : List Nat} {bk : Bk} {ks : List Nat} (F : Fits n w h bk ks) (ok : BkOk bk) (l : bk.prs.length < 1000) {c : Com} {k : Nat} (okc : ComOk bk c) (fc : FitC n w h ks k c) : Fits n w h (doC bk c) (ksC ks k c) := by
 cases c with
 | come s => exact F.add ok fc fun q hq => (by cases hq)
 | wed m f => exact F.pair fc
 | born s m f =>
   refine (F.pair (q := (m, f)) fc.1).add (ok.paired l okc.1 okc.2) fc.2.2 fun q hq => ?_
   cases Option.some.inj hq
   exact ⟨by rw [F.len]; exact okc.1.lt, fc.2.1⟩
theorem doC_size (bk : Bk) (c : Com) : (doC bk c).ps.length <= bk.ps.length + 1 := by
 cases c with
 | come s => show (bk.ps ++ [_]).length <= _; rw [List.length_append]; exact Nat.le_refl _
 | wed m f => exact Nat.le_succ _
 | born s m f => show (bk.ps ++ [_]).length <= _; rw [List.length_append]; exact Nat.le_refl _
def Kept (H H' : Hp) (av : List Addr) : Prop := ∀ c o, H c = some o -> c ∉ av -> H' c = some o
def Fresh (H : Hp) (av av' : List Addr) : Prop := ∀ c ∈ av', c ∈ av \/ H c = none
theorem Kept.trans {H H1 H2 : Hp} {av av1 : List Addr} (k : Kept H H1 av) (f : Fresh H av av1) (k2 : Kept H1 H2 av1) : Kept H H2 av := fun c o hc hn => k2 c o (k c o hc hn) fun z => (f c z).elim hn fun y => by rw [y] at hc; cases hc
theorem Fresh.trans {H H1 : Hp} {av av1 av2 : List Addr} (k : Kept H H1 av) (f : Fresh H av av1) (f2 : Fresh H1 av1 av2) : Fresh H av av2 := fun c hc => by
 rcases f2 c hc with z | z
 . exact f c z
 . by_cases q : c ∈ av
   . exact .inl q
   . refine .inr ?_
     cases y : H c with
     | none => rfl
     | some o => rw [k c o y q] at z; cases z
theorem Kept.same {H H1 H2 : Hp} {av : List Addr} (k : Kept H H1 av) (s : Same H1 H2) : Kept H H2 av := fun c o hc hn => s _ _ (k c o hc hn)
def spFitComer : Sp := fun vs H Q _ => ∃ (LP LK D1 D2 : Addr) (ts : List Addr) (bk : Bk) (ks : List Nat) (n : Nat) (w h : List Nat) (z : Int), vs = [.ref LP, .ref LK, .ref D1, .ref D2, .int z] /\ PeopleAt H LP ts bk.ps /\ bk.ps.length <= 60 /\ H LK = some (.lst (natL ks)) /\ ks.length = bk.ps.length /\ (∀ i, i < ks.length -> kdAt ks i < n) /\ H D1 = some (.lst (natL w)) /\ H D2 = some (.lst (natL h)) /\ IsTurn n w /\ IsTurn n h /\ 1 <= n /\
 ∀ t c k H', H t = none -> Same H H' -> H' t = some (.tup (comT c ++ [nat k])) -> ComOk bk c -> FitC n w h ks k c -> Q (.ref t) H'
def spFitBook (e : Ad) (K : W.Frag) : Sp := fun vs H Q _ => ∃ (b LP LR LK LT LC D1 D2 : Addr) (fp ts us : List Addr) (bk : Bk) (ks : List Nat) (n : Nat) (w h : List Nat) (cs : List Int), vs = [.ref b, .ref LP, .ref LR, .ref LK, .ref LT, .ref LC] /\
 Acc e.Book H b LP LR fp ts us bk /\ H LK = some (.lst (natL ks)) /\ Fits n w h bk ks /\ H LT = some (.lst [.ref D1, .ref D2]) /\ H D1 = some (.lst (natL w)) /\ H D2 = some (.lst (natL h)) /\ IsTurn n w /\ IsTurn n h /\ 1 <= n /\ ScrAt K H LC (cs.map V.int) (LP :: LR :: LK :: fp) /\
 (LK ∉ LP :: LR :: fp) /\ (LT ∉ LP :: LR :: LK :: fp) /\ (D1 ∉ LP :: LR :: LK :: fp) /\ (D2 ∉ LP :: LR :: LK :: fp) /\ bk.prs.length + cs.length <= 900 /\ bk.ps.length <= 58 /\
 ∀ fp' ts' us' bk' ks' H', Acc e.Book H' b LP LR fp' ts' us' bk' -> H' LK = some (.lst (natL ks')) -> LK ∉ LP :: LR :: fp' -> Fits n w h bk' ks' -> Kept H H' (LP :: LR :: LK :: fp) -> Fresh H (LP :: LR :: LK :: fp) (LP :: LR :: LK :: fp') -> bk'.ps.length <= 58 -> bk'.prs.length <= 900 -> Q (.bl true) H'
def womenOf (bk : Bk) (ks : List Nat) (k : Nat) : List Nat := (List.range bk.ps.length).filter fun i => ofSex bk false i && decide (kdAt ks i = k)
section
variable {P : Program} {w : World} {K : W.Frag} {mg : Str -> Option Value} {base : Heap} {CX : CXT} {C : Addr} {e : Ad}
theorem sc_fitcomer : FnScope ["people", "kinds", "wives", "heirs", "cell", "sex", "men", "man", "bride", "women", "woman"] ["people", "kinds", "wives", "heirs", "cell"] (defScope (top 41)) := mkSc
theorem ok_fitcomer {f : Addr} {fd : FuncData} (F : Fun K "_law_fit_comer" "_law_fit_comer" (top 41) f fd) (T : Txt K mg C e) : FnOk P w K mg base CX 1 f fd ["people", "kinds", "wives", "heirs", "cell"] spFitComer := by
 refine F.okN sc_fitcomer (fun vs H Q E h => ?_) (fun cdv A outer s H vs Q E hr h => ?_)
 . obtain ⟨LP, LK, D1, D2, ts, bk, ks, n, w, h, z, rfl, _⟩ := h; rfl
 . obtain ⟨LP, LK, D1, D2, ts, bk, ks, n, w', h', z, rfl, pe, n60, hk, kl, klt, hw, hh, tw, th, n1, k⟩ := h
   have nd := sc_fitcomer.nd
   refine ⟨_, (pss_cons (ps_set (i := 5) nd rfl (Or.inl rfl) (pe_ix ix_list (pe_lst (pa_cons pe_str (pa_cons pe_str pa_nil))) (pe_op op_mod (pv 4) pe_int) (fun _ _ => rfl)))
    (pss_cons (ps_setCompF (i := 6) nd rfl (Or.inl rfl) (fv := [("people", 0)]) ⟨rfl, by decide +kernel, rfl, by decide +kernel, rfl, by decide +kernel, ⟨⟨rfl, Or.inl rfl, Or.inl rfl, rfl⟩, trivial⟩, rfl, rfl⟩ rfl (pi_range1 rfl T.z_range (pa_cons (pe_callB call_len_seq rfl T.z_len PySem.boot_len (pa_cons (pv 0) pa_nil)) pa_nil)) (fun _ _ _ => (pv 0)) (fun _ _ _ => (pt_cmpR op_eq (pe_ix ix_tup (pe_ix ix_list (pv 1) (pv 0) (fun _ _ => rfl)) pe_int (fun _ _ => rfl)) pe_str (nomark _))))
    (pss_cons (ps_if (PW.pt (pw_or (pt_cmpR op_eq (pe_op op_mod (pe_op op_fdiv (pv 4) pe_int) pe_int) pe_int (nomark _)) (pw_or1 (pt_cmpR op_eq (pe_callB call_len_seq rfl T.z_len PySem.boot_len (pa_cons (pv 6) pa_nil)) pe_int (nomark _))))) (pss_one (ps_ret (pe_tup (pa_cons (pv 5) (pa_cons pe_non (pa_cons pe_non (pa_cons (pe_op op_mod (pe_op op_fdiv (pv 4) pe_int) (pe_callB call_len_seq rfl T.z_len PySem.boot_len (pa_cons (pv 2) pa_nil))) pa_nil))))))) pss_nil)
    (pss_cons (ps_set (i := 7) nd rfl (Or.inl rfl) (pe_ix ix_list (pv 6) (pe_op op_mod (pe_op op_fdiv (pv 4) pe_int) (pe_callB call_len_seq rfl T.z_len PySem.boot_len (pa_cons (pv 6) pa_nil))) (fun _ _ => rfl)))
    (pss_cons (ps_set (i := 8) nd rfl (Or.inr rfl) (pe_ix ix_list (pv 2) (pe_ix ix_list (pv 1) (pv 7) (fun _ _ => rfl)) (fun _ _ => rfl)))
    (pss_cons (ps_setCompF (i := 9) nd rfl (Or.inl rfl) (fv := [("bride", 8), ("kinds", 1), ("people", 0)]) ⟨rfl, by decide +kernel, rfl, by decide +kernel, rfl, by decide +kernel, ⟨⟨rfl, Or.inl rfl, Or.inl rfl, rfl⟩, ⟨⟨rfl, Or.inl rfl, Or.inl rfl, rfl⟩, ⟨⟨rfl, Or.inl rfl, Or.inl rfl, rfl⟩, trivial⟩⟩⟩, rfl, rfl⟩ rfl (pi_range1 rfl T.z_range (pa_cons (pe_callB call_len_seq rfl T.z_len PySem.boot_len (pa_cons (pv 0) pa_nil)) pa_nil)) (fun _ _ _ => (pv 0)) (fun _ _ _ => (PW.pt (pw_and (pt_cmpR op_eq (pe_ix ix_tup (pe_ix ix_list (pv 3) (pv 0) (fun _ _ => rfl)) pe_int (fun _ _ => rfl)) pe_str (nomark _)) (pw_and1 (pt_cmpR op_eq (pe_ix ix_list (pv 2) (pv 0) (fun _ _ => rfl)) (pv 1) (nomark _)))))))
    (pss_cons (ps_if (pt_cmpR op_eq (pe_callB call_len_seq rfl T.z_len PySem.boot_len (pa_cons (pv 9) pa_nil)) pe_int (nomark _)) (pss_one (ps_ret (pe_tup (pa_cons pe_str (pa_cons pe_non (pa_cons pe_non (pa_cons (pv 8) pa_nil))))))) pss_nil)
    (pss_cons (ps_set (i := 10) nd rfl (Or.inl rfl) (pe_ix ix_list (pv 9) (pe_op op_mod (pe_op op_fdiv (pv 4) pe_int) (pe_callB call_len_seq rfl T.z_len PySem.boot_len (pa_cons (pv 9) pa_nil))) (fun _ _ => rfl)))
    (pss_cons (ps_if (pt_cmpR op_eq (pe_op op_mod (pe_op op_fdiv (pv 4) pe_int) pe_int) pe_int (nomark _)) (pss_one (ps_ret (pe_tup (pa_cons pe_str (pa_cons (pv 7) (pa_cons (pv 10) (pa_cons pe_int pa_nil))))))) pss_nil)
    (pss_one (ps_ret (pe_tup (pa_cons (pv 5) (pa_cons (pv 7) (pa_cons (pv 10) (pa_cons (pe_ix ix_list (pv 3) (pe_ix ix_list (pv 1) (pv 7) (fun _ _ => rfl)) (fun _ _ => rfl)) pa_nil)))))))))))))))), ?_⟩
   have tl := pe.len
   obtain ⟨sx, hsx⟩ := pick_sex (z % 2) (Int.emod_nonneg _ (by decide)) (Int.emod_lt_of_pos _ (by decide))
   refine ⟨(show 2 <= sizeLine by decide), fun L hL => ⟨_, rfl, _, _, rfl, rfl, (show (0 : Int) < 2 by decide), L, _, _, _, rfl, rfl, SqL.of upd_same, hsx, ?_⟩⟩
   have s1 := same_new (o := .lst [V.str "man", V.str "woman"]) hL
   generalize upd H L _ = H1 at s1
   walk_at "ns"
   refine ⟨_, rfl, LP, _, rfl, .inl (SqL.of (s1 _ _ pe.l)), _, rfl, by rw [List.length_map, tl]; omega, by rw [List.length_map, tl]; omega, ?_⟩
   rw [List.length_map, tl, Int.toNat_natCast]
   refine comp_rangeF0 (ofSex bk true) nat (Nat.le_trans n60 (by decide)) (fun i H' R hi sm kk _ _ _ => ?_) (fun i H' R hi pi sm kk _ _ _ => ⟨_, rfl, kk _ (Same.refl _)⟩) fun M1 H2 hM1 s2 hl2 => ?_
   . obtain ⟨t, x, _, hx, h1, h2⟩ := men_at (pe.same (s1.trans sm)) hi
     refine ⟨_, rfl, _, rfl, LP, _, _, _, rfl, rfl, SqL.of ((s1.trans sm) _ _ pe.l), h1, t, _, 0, _, rfl, rfl, SqT.of h2, rfl, rfl, _, rfl, ?_⟩
     have : decide (sexV x.1 = V.str "man") = ofSex bk true i := by rw [sex_man, ofSex_eq hx]; exact eq_true_b _
     show R (decide (sexV x.1 = V.str "man")) H'
     rw [this]; exact kk _ (Same.refl _)
   have s12 := s1.trans s2
   have g2 : H2 M1 = some (.lst (natL (sexL bk true))) := hl2
   walk_at "ns"
   obtain ⟨kq, hkq, lkq⟩ := emod_nat (z / 10) (show 0 < n by omega)
   have wl : (natL w').length = n := by rw [natL_len, tw.len]
   have str : ∀ H3 t, Same H2 H3 -> H3 t = none -> Q (.ref t) (upd H3 t (.tup [sexV sx, .non, .non, V.int (z / 10 % ((natL w').length : Nat))])) := fun H3 t s3 ht => by
    refine k t (.come sx) kq _ ((s12.trans s3).free ht) ((s12.trans s3).trans (same_new ht)) ?_ trivial lkq
    rw [upd_same, wl, hkq]; rfl
   have pw : (0 : Int) < ((natL w').length : Nat) := by rw [wl]; omega
   refine ⟨_, rfl, _, _, rfl, rfl, ⟨by decide, by decide⟩, _, _, rfl, rfl, (show (0 : Int) < 5 by decide), rfl, _, rfl, iteD2 (fun _ => iteT ?_) (fun _ => ?_)⟩
   . exact ⟨_, rfl, _, rfl, _, _, rfl, rfl, ⟨by decide, by decide⟩, _, rfl, D1, _, rfl, .inl (SqL.of (s12 _ _ hw)), _, _, rfl, rfl, pw, (show 4 <= sizeLine by decide), fun t ht => str _ t (Same.refl _) ht⟩
   refine ⟨_, rfl, M1, _, rfl, .inl (SqL.of g2), rfl, _, rfl, iteD2 (fun _ => ?_) (fun z1 => ?_)⟩
   . exact ⟨_, rfl, _, rfl, _, _, rfl, rfl, ⟨by decide, by decide⟩, _, rfl, D1, _, rfl, .inl (SqL.of (s12 _ _ hw)), _, _, rfl, rfl, pw, (show 4 <= sizeLine by decide), fun t ht => str _ t (Same.refl _) ht⟩
   have l1 : 0 < (sexL bk true).length := by
    rcases Nat.eq_zero_or_pos (sexL bk true).length with q | q
    . exact absurd (by rw [natL_len, q]; rfl) z1
    . exact q
   obtain ⟨m, hm, am⟩ := pick_of (sexL bk true) (z / 10) l1
   have sm := mem_sexL.mp hm
   have p1 : (0 : Int) < ((natL (sexL bk true)).length : Nat) := by rw [natL_len]; omega
   refine ⟨_, rfl, _, rfl, _, _, rfl, rfl, ⟨by decide, by decide⟩, _, rfl, M1, _, rfl, .inl (SqL.of g2), _, _, rfl, rfl, p1, M1, _, _, _, rfl, rfl, SqL.of g2, am, ?_⟩
   walk_at "ns"
   have lm : m < ks.length := by rw [kl]; exact sm.lt
   have hkm := klt m lm
   refine ⟨_, rfl, _, rfl, _, rfl, LK, _, _, _, rfl, rfl, SqL.of (s12 _ _ hk), kd_at lm, D1, _, _, _, rfl, rfl, SqL.of (s12 _ _ hw), atN tw hkm, ?_⟩
   walk_at "ns"
   refine ⟨_, rfl, LP, _, rfl, .inl (SqL.of (s12 _ _ pe.l)), _, rfl, by rw [List.length_map, tl]; omega, by rw [List.length_map, tl]; omega, ?_⟩
   rw [List.length_map, tl, Int.toNat_natCast]
   refine comp_rangeF0 (fun i => ofSex bk false i && decide (kdAt ks i = fw w' (kdAt ks m))) nat (Nat.le_trans n60 (by decide)) (fun i H' R hi sm' kk _ _ _ => ?_) (fun i H' R hi pi sm' kk _ _ _ => ⟨_, rfl, kk _ (Same.refl _)⟩) fun M2 H3 hM2 s3 hl3 => ?_
   . have s1m := s12.trans sm'
     obtain ⟨t, x, _, hx, h1, h2⟩ := men_at (pe.same s1m) hi
     refine ⟨_, rfl, _, rfl, LP, _, _, _, rfl, rfl, SqL.of (s1m _ _ pe.l), h1, t, _, 0, _, rfl, rfl, SqT.of h2, rfl, rfl, _, rfl, ?_⟩
     have e1 : decide (sexV x.1 = V.str "woman") = ofSex bk false i := by rw [sex_woman, ofSex_eq hx]; exact eq_false_b _
     show if decide (sexV x.1 = V.str "woman") = true then _ else _
     rw [e1]
     cases c0 : ofSex bk false i
     . refine iteF ?_
       rw [c0, Bool.false_and] at kk
       exact kk _ (Same.refl _)
     . refine iteT ?_
       rw [c0, Bool.true_and] at kk
       refine ⟨_, rfl, _, rfl, LK, _, _, _, rfl, rfl, SqL.of (s1m _ _ hk), kd_at (by rw [kl]; exact hi), _, rfl, rfl, _, rfl, ?_⟩
       have e2 : decide (nat (kdAt ks i) = nat (fw w' (kdAt ks m))) = decide (kdAt ks i = fw w' (kdAt ks m)) := by
        by_cases q : kdAt ks i = fw w' (kdAt ks m)
        . rw [decide_eq_true q, decide_eq_true (by rw [q])]
        . rw [decide_eq_false q, decide_eq_false (fun z => q (by have := V.int.inj z; omega))]
       show R (decide (nat (kdAt ks i) = nat (fw w' (kdAt ks m)))) H'
       rw [e2]; exact kk _ (Same.refl _)
   have s13 := s12.trans s3
   have g3 : H3 M2 = some (.lst (natL (womenOf bk ks (fw w' (kdAt ks m))))) := hl3
   have memw : ∀ i, i ∈ womenOf bk ks (fw w' (kdAt ks m)) -> IsS bk i false /\ kdAt ks i = fw w' (kdAt ks m) := fun i hi => by
    obtain ⟨a1, a2⟩ := List.mem_filter.mp hi
    rw [Bool.and_eq_true] at a2
    exact ⟨mem_sexL.mp (List.mem_filter.mpr ⟨a1, a2.1⟩), of_decide_eq_true a2.2⟩
   walk_at "ns"
   refine ⟨_, rfl, M2, _, rfl, .inl (SqL.of g3), rfl, _, rfl, iteD2 (fun _ => ?_) (fun z2 => ?_)⟩
   . refine ⟨_, rfl, (show 4 <= sizeLine by decide), fun t ht => ?_⟩
     exact k t (.come false) (fw w' (kdAt ks m)) _ (s13.free ht) (s13.trans (same_new ht)) upd_same trivial (fw_lt tw hkm)
   have l2 : 0 < (womenOf bk ks (fw w' (kdAt ks m))).length := by
    rcases Nat.eq_zero_or_pos (womenOf bk ks (fw w' (kdAt ks m))).length with q | q
    . exact absurd (by rw [natL_len, q]; rfl) z2
    . exact q
   obtain ⟨f', hf, af⟩ := pick_of _ (z / 97) l2
   obtain ⟨sf, kf⟩ := memw f' hf
   have p2 : (0 : Int) < ((natL (womenOf bk ks (fw w' (kdAt ks m)))).length : Nat) := by rw [natL_len]; omega
   refine ⟨_, rfl, _, rfl, _, _, rfl, rfl, ⟨by decide, by decide⟩, _, rfl, M2, _, rfl, .inl (SqL.of g3), _, _, rfl, rfl, p2, M2, _, _, _, rfl, rfl, SqL.of g3, af, ?_⟩
   walk_at "ns"
   refine ⟨_, rfl, _, _, rfl, rfl, ⟨by decide, by decide⟩, _, _, rfl, rfl, (show (0 : Int) < 5 by decide), rfl, _, rfl, iteD2 (fun _ => ?_) (fun _ => ?_)⟩
   . refine ⟨_, rfl, _, rfl, (show 4 <= sizeLine by decide), fun t ht => ?_⟩
     exact k t (.wed m f') 0 _ (s13.free ht) (s13.trans (same_new ht)) upd_same ⟨sm, sf⟩ kf
   . refine ⟨_, rfl, _, rfl, _, rfl, _, rfl, _, rfl, _, rfl, LK, _, _, _, rfl, rfl, SqL.of (s13 _ _ hk), kd_at lm, D2, _, _, _, rfl, rfl, SqL.of (s13 _ _ hh), atN th hkm, (show 4 <= sizeLine by decide), fun t ht => ?_⟩
     exact k t (.born sx m f') (fw h' (kdAt ks m)) _ (s13.free ht) (s13.trans (same_new ht)) upd_same ⟨sm, sf⟩ ⟨kf, rfl, fw_lt th hkm⟩
end
theorem Acc.apart {B : Addr} {H : Hp} {b LP LR LK : Addr} {fp ts us : List Addr} {bk : Bk} (h : Acc B H b LP LR fp ts us bk) (nK : LK ∉ LP :: LR :: fp) {xs : List V} (hK : H LK = some (.lst xs)) {H' : Hp} (o1 : ∀ r o, H r = some o -> r ≠ LK -> H' r = some o) : Acc B H' b LP LR fp ts us bk := by
 simp only [List.mem_cons, not_or] at nK
 have tn : ∀ r ys, H r = some (.tup ys) -> H' r = some (.tup ys) := fun r ys hr => o1 r _ hr fun z => by rw [z, hK] at hr; cases hr
 refine ⟨h.bo.keep fun c o hc hm => o1 c o hc fun z => ?_, ⟨o1 _ _ h.pe.l (Ne.symm nK.1), h.pe.t.keep fun p xs _ hp => tn p xs hp⟩, ⟨o1 _ _ h.pa.l (Ne.symm nK.2.1), h.pa.t.keep fun p xs _ hp => tn p xs hp⟩, h.nP, h.nR, h.ne⟩
 rcases List.mem_cons.mp hm with y | y
 . exact h.bo.pne hK (y.symm.trans z)
 . exact nK.2.2 (z ▸ y)
section
variable {P : Program} {w : World} {K : W.Frag} {mg : Str -> Option Value} {base : Heap} {CX : CXT} {C : Addr} {e : Ad}
theorem sc_fitbook : FnScope ["book", "people", "pairs", "kinds", "turns", "cells", "cell", "comer"] ["book", "people", "pairs", "kinds", "turns", "cells"] (defScope (top 42)) := mkSc
theorem cut3 (c : Com) (k : Nat) : cutV (comT c ++ [nat k]) none (some 3) = comT c := by cases c <;> rfl
theorem ok_fitbook {f : Addr} {fd : FuncData} (F : Fun K "_law_fit_book" "_law_fit_book" (top 42) f fd) (T : Txt K mg C e) (hE : NoE (CXR P w)) (D__q1 : Def P w K mg base (CXR P w) "_law_fit_comer" 1 ["people", "kinds", "wives", "heirs", "cell"] spFitComer) (D__q14 : Def P w K mg base (CXR P w) "_law_put" 4 ["book", "people", "pairs", "comer"] (spPut e)) : FnOk P w K mg base (CXR P w) 5 f fd ["book", "people", "pairs", "kinds", "turns", "cells"] (spFitBook e K) := by
 refine F.okN sc_fitbook (fun vs H Q E h => ?_) (fun cdv A outer s H vs Q E hr h => ?_)
 . obtain ⟨b, LP, LR, LK, LT, LC, D1, D2, fp, ts, us, bk, ks, n, w, h, cs, rfl, _⟩ := h; rfl
 . obtain ⟨b, LP, LR, LK, LT, LC, D1, D2, fp, ts, us, bk, ks, n, w', h', cs, rfl, ac0, gK0, F0, gT0, g10, g20, tw, th, n1, sc0, nK0, nT0, n10, n20, l900, l58, k⟩ := h
   have nd := sc_fitbook.nd
   have big : 4000 <= sizeLine := by decide
   refine ⟨_, (pss_cons (ps_for PassesOwn.never rfl (pi_list (pv 5)) (pg_name (i := 6) nd rfl (Or.inl rfl)) (pss_cons (ps_set (i := 7) nd rfl (Or.inl rfl) (pe_callD D__q1 hE hr rfl (pa_cons (pv 1) (pa_cons (pv 3) (pa_cons (pe_ix ix_list (pv 4) pe_int (fun _ _ => rfl)) (pa_cons (pe_ix ix_list (pv 4) pe_int (fun _ _ => rfl)) (pa_cons (pv 6) pa_nil)))))))
    (pss_one (ps_if (pt_cmpR op_lt (pe_callB call_len_seq rfl T.z_len PySem.boot_len (pa_cons (pv 1) pa_nil)) pe_int (nomark _)) (pss_cons (ps_join (ps_if (pt_cmpR op_ne (pe_ix ix_tup (pv 7) pe_int (fun _ _ => rfl)) pe_str (nomark _)) (pss_one (ps_expr (pe_bm PySem.F.plainAttrs_list PySem.F.slot_list_append PySem.F.type_list_append mt_append (pv 3) (pa_cons (pe_ix ix_tup (pv 7) pe_int (fun _ _ => rfl)) pa_nil)))) pss_nil))
    (pss_one (ps_if (pt_not (pt_val (pe_callD D__q14 hE hr rfl (pa_cons (pv 0) (pa_cons (pv 1) (pa_cons (pv 2) (pa_cons (pe_slice sl_tup (pv 7) po_none (po_some pe_int)) pa_nil))))))) (pss_one (ps_ret pe_bl)) pss_nil))) pss_nil))))
    (pss_one (ps_ret pe_bl))), ?_⟩
   refine ⟨_, rfl, LC, rfl, ⟨_, sc0.sq⟩, for_list (xs := cs.map V.int) (fun i σ G => (∃ o6 o7, σ = [some (.ref b), some (.ref LP), some (.ref LR), some (.ref LK), some (.ref LT), some (.ref LC), o6, o7]) /\ ∃ fp1 ts1 us1 bk1 ks1, Acc e.Book G b LP LR fp1 ts1 us1 bk1 /\ G LK = some (.lst (natL ks1)) /\ LK ∉ LP :: LR :: fp1 /\ Fits n w' h' bk1 ks1 /\ Kept H G (LP :: LR :: LK :: fp) /\ Fresh H (LP :: LR :: LK :: fp) (LP :: LR :: LK :: fp1) /\ bk1.prs.length <= bk.prs.length + i /\ bk1.ps.length <= 58) ⟨⟨none, none, rfl⟩, fp, ts, us, bk, ks, ac0, gK0, nK0, F0, fun c o hc _ => hc, fun c hc => .inl hc, Nat.le_refl _, l58⟩ (fun i σ G _ ⟨_, fp1, _, _, _, _, _, _, _, _, kp, fr, _⟩ => (sc0.go kp fr).sq) ?_ ?_⟩
   . rintro i v σ G hi ⟨⟨o6, o7, rfl⟩, fp1, ts1, us1, bk1, ks1, ac1, gK1, nK1, F1, kp1, fr1, pl1, m58⟩
     have li : i < cs.length := by have := (List.getElem?_eq_some_iff.mp hi).1; rw [List.length_map] at this; exact this
     obtain ⟨z, rfl⟩ : ∃ z : Int, v = .int z := by
      rw [List.getElem?_map] at hi
      obtain ⟨z, _, rfl⟩ := Option.map_eq_some_iff.mp hi
      exact ⟨z, rfl⟩
     have ok1 := ac1.bo.ok
     have tl := ac1.pe.len
     walk_at "ns"
     have gT := kp1 _ _ gT0 nT0
     refine ⟨_, rfl, _, rfl, _, rfl, LT, _, _, _, rfl, rfl, SqL.of gT, rfl, _, rfl, LT, _, _, _, rfl, rfl, SqL.of gT, rfl, _, rfl, LP, LK, D1, D2, ts1, bk1, ks1, n, w', h', z, rfl, ac1.pe, ok1.n60, gK1, F1.len, F1.lt, kp1 _ _ g10 n10, kp1 _ _ g20 n20, tw, th, n1, fun t c kq G1 ht s1 gt okc fc => ?_⟩
     have ac2 := ac1.same s1
     have gK2 := s1 _ _ gK1
     walk_at "ns"
     refine ⟨_, rfl, LP, _, rfl, .inl (SqL.of ac2.pe.l), _, _, rfl, rfl, _, rfl, ?_⟩
     rw [List.length_map, tl]
     refine iteD2 (fun lt => ?_) (fun _ => ⟨⟨_, _, rfl⟩, fp1, ts1, us1, bk1, ks1, ac2, gK2, nK1, F1, kp1.same s1, fr1, Nat.le_trans pl1 (Nat.add_le_add_left (Nat.le_succ i) _), m58⟩)
     refine ⟨fun σ' G' => σ' = [some (.ref b), some (.ref LP), some (.ref LR), some (.ref LK), some (.ref LT), some (.ref LC), some (.int z), some (.ref t)] /\ G' LK = some (.lst (natL (ksC ks1 kq c))) /\ ∀ r o, G1 r = some o -> r ≠ LK -> G' r = some o, ?_, ?_⟩
     . have kadd : ∀ sx v1 v2, G1 t = some (.tup [sexV sx, v1, v2, nat kq]) -> ksC ks1 kq c = ks1 ++ [kq] -> True := fun _ _ _ _ _ => trivial
       have len1 : (natL ks1).length + 1 <= sizeLine := by rw [natL_len, F1.len]; omega
       have app : (natL ks1 ++ [nat kq]) = natL (ks1 ++ [kq]) := by unfold natL; rw [List.map_append]; rfl
       cases c with
       | come sx =>
         refine ⟨_, rfl, t, _, 0, _, rfl, rfl, SqT.of gt, rfl, rfl, _, rfl, ?_⟩
         show if (!decide (sexV sx = V.str "wed")) = true then _ else _
         rw [decide_eq_false (sex_wed sx)]
         refine iteT ⟨_, rfl, .inl ⟨rfl, _, SqL.of gK2⟩, _, rfl, t, _, 3, _, rfl, rfl, SqT.of gt, rfl, LK, _, _, rfl, rfl, gK2, by rw [natL_len, F1.len]; omega, rfl, ?_, fun r o hr hn => by rw [upd_ne hn]; exact hr⟩
         rw [upd_same, app]; rfl
       | wed m f' =>
         refine ⟨_, rfl, t, _, 0, _, rfl, rfl, SqT.of gt, rfl, rfl, _, rfl, iteF ⟨rfl, gK2, fun r o hr _ => hr⟩⟩
       | born sx m f' =>
         refine ⟨_, rfl, t, _, 0, _, rfl, rfl, SqT.of gt, rfl, rfl, _, rfl, ?_⟩
         show if (!decide (sexV sx = V.str "wed")) = true then _ else _
         rw [decide_eq_false (sex_wed sx)]
         refine iteT ⟨_, rfl, .inl ⟨rfl, _, SqL.of gK2⟩, _, rfl, t, _, 3, _, rfl, rfl, SqT.of gt, rfl, LK, _, _, rfl, rfl, gK2, by rw [natL_len, F1.len]; omega, rfl, ?_, fun r o hr hn => by rw [upd_ne hn]; exact hr⟩
         rw [upd_same, app]; rfl
     rintro σ' G2 ⟨rfl, gK3, o2⟩
     have ac3 := ac2.apart nK1 gK2 o2
     have gt2 := o2 _ _ gt fun q => by rw [q, gK2] at gt; cases gt
     have l4 : (comT c ++ [nat kq]).length = 4 := by cases c <;> rfl
     refine ⟨_, rfl, _, rfl, _, rfl, _, rfl, _, rfl, t, _, rfl, SqT.of gt2, ?_, fun t2 ht2 => ?_⟩
     . rw [l4]
       intro q
       exact absurd q.2 (by decide)
     rw [cut3]
     have s3 := same_new (o := .tup (comT c)) ht2
     have g3 : (upd G2 t2 (.tup (comT c))) t2 = some (.tup (comT c)) := upd_same
     generalize upd G2 t2 (.tup (comT c)) = G3 at s3 g3
     refine ⟨b, LP, LR, t2, fp1, ts1, us1, bk1, c, rfl, ac3.same s3, g3, okc, by omega, by omega, fun fp4 ts4 us4 G4 ac4 kp4 fr4 => ⟨_, rfl, iteF ?_⟩⟩
     have gK4 := kp4 _ _ (s3 _ _ gK3) nK1
     have nK4 : LK ∉ LP :: LR :: fp4 := fun q => by
      simp only [List.mem_cons, not_or] at q nK1
      rcases q with q | q | q
      . exact nK1.1 q
      . exact nK1.2.1 q
      . rcases fr4 _ q with y | y
        . exact nK1.2.2 y
        . rw [s3 _ _ gK3] at y; cases y
     have kp14 : Kept G G4 (LP :: LR :: LK :: fp1) := fun c' o hc hn => by
      simp only [List.mem_cons, not_or] at hn
      refine kp4 c' o (s3 _ _ (o2 _ _ (s1 _ _ hc) hn.2.2.1)) ?_
      simp only [List.mem_cons, not_or]
      exact ⟨hn.1, hn.2.1, hn.2.2.2⟩
     have fr14 : Fresh G (LP :: LR :: LK :: fp1) (LP :: LR :: LK :: fp4) := fun c' hc => by
      simp only [List.mem_cons] at hc ⊢
      rcases hc with q | q | q | q
      . exact .inl (.inl q)
      . exact .inl (.inr (.inl q))
      . exact .inl (.inr (.inr (.inl q)))
      . rcases fr4 _ q with y | y
        . exact .inl (.inr (.inr (.inr y)))
        . by_cases ck : c' = LK
          . exact .inl (.inr (.inr (.inl ck)))
          . refine .inr ?_
            cases y' : G c' with
            | none => rfl
            | some o => rw [s3 _ _ (o2 _ _ (s1 _ _ y') ck)] at y; cases y
     refine ⟨⟨_, _, rfl⟩, fp4, ts4, us4, doC bk1 c, ksC ks1 kq c, ac4, gK4, nK4, F1.go ok1 (by omega) okc fc, kp1.trans fr1 kp14, fr1.trans kp1 fr14, ?_, ?_⟩
     . have := doC_len bk1 c
       omega
     . have := doC_size bk1 c
       omega
   . rintro σ G ⟨⟨o6, o7, rfl⟩, fp1, ts1, us1, bk1, ks1, ac1, gK1, nK1, F1, kp1, fr1, pl1, m58⟩
     rw [List.length_map] at pl1
     exact k fp1 ts1 us1 bk1 ks1 G ac1 gK1 nK1 F1 kp1 fr1 m58 (by omega)
end
inductive Adj (w h : List Nat) (bk : Bk) (a c : Nat) : Nat -> Nat -> Prop
 | wi {b : Nat} (hq : (a, b) ∈ bk.prs) : Adj w h bk a c b (fw w c)
 | hu {b : Nat} (hq : (b, a) ∈ bk.prs) : Adj w h bk a c b (bw w c)
 | kf {b : Nat} {y : Per} {f : Nat} (hy : bk.ps[b]? = some y) (e : y.2 = some (a, f)) : Adj w h bk a c b (fw h c)
 | km {b : Nat} {y : Per} {m : Nat} (hy : bk.ps[b]? = some y) (e : y.2 = some (m, a)) : Adj w h bk a c b (fw h (bw w c))
 | fa {x : Per} {m f : Nat} (hx : bk.ps[a]? = some x) (e : x.2 = some (m, f)) : Adj w h bk a c m (bw h c)
 | mo {x : Per} {m f : Nat} (hx : bk.ps[a]? = some x) (e : x.2 = some (m, f)) : Adj w h bk a c f (fw w (bw h c))
theorem BkOk.man {bk : Bk} (ok : BkOk bk) {a b : Nat} (h : (a, b) ∈ bk.prs) {x : Per} (hx : bk.ps[a]? = some x) : x.1 = true := by
 obtain ⟨⟨y, hy, e⟩, _⟩ := ok.pr _ h
 rw [hx] at hy; cases hy; exact e
theorem BkOk.woman {bk : Bk} (ok : BkOk bk) {a b : Nat} (h : (b, a) ∈ bk.prs) {x : Per} (hx : bk.ps[a]? = some x) : x.1 = false := by
 obtain ⟨_, ⟨y, hy, e⟩⟩ := ok.pr _ h
 rw [hx] at hy; cases hy; exact e
def IsH (l : Nat) : Prop := l = 102 \/ l = 109 \/ l = 112 \/ l = 115 \/ l = 100
theorem adj_near {w h : List Nat} {bk : Bk} (ok : BkOk bk) {a c b k : Nat} {x : Per} (hx : bk.ps[a]? = some x) : Adj w h bk a c b k ↔ ∃ l, IsH l /\ b ∈ nearL bk a l /\ k = stC w h x.1 c l := by
 have n1 : nearL bk a 102 = (match x.2 with | none => [] | some q => [q.1]) := by unfold nearL; rw [hx]; rfl
 have n2 : nearL bk a 109 = (match x.2 with | none => [] | some q => [q.2]) := by unfold nearL; rw [hx]; rfl
 have n3 : nearL bk a 112 = mates bk.prs a := by unfold nearL; rw [hx]; rfl
 have n4 : nearL bk a 115 = (kids bk a).filter (ofSex bk true) := by unfold nearL; rw [hx]; rfl
 have n5 : nearL bk a 100 = (kids bk a).filter (ofSex bk false) := by unfold nearL; rw [hx]; rfl
 have c1 : stC w h x.1 c 102 = bw h c := rfl
 have c2 : stC w h x.1 c 109 = fw w (bw h c) := rfl
 have c3 : stC w h x.1 c 112 = (if x.1 then fw w c else bw w c) := rfl
 have c4 : stC w h x.1 c 115 = fw h (if x.1 then c else bw w c) := rfl
 have c5 : stC w h x.1 c 100 = fw h (if x.1 then c else bw w c) := rfl
 have kid : ∀ {y : Per} {q : Nat × Nat}, bk.ps[b]? = some y -> y.2 = some q -> (a = q.1 \/ a = q.2) -> k = fw h (if x.1 then c else bw w c) -> ∃ l, IsH l /\ b ∈ nearL bk a l /\ k = stC w h x.1 c l := fun {y q} hy e o ek => by
  have hk : b ∈ kids bk a := mem_kids.mpr ⟨y, q, hy, e, o⟩
  cases sy : y.1 with
  | true => exact ⟨115, .inr (.inr (.inr (.inl rfl))), by rw [n4, List.mem_filter]; exact ⟨hk, by rw [ofSex_eq hy, sy]; rfl⟩, by rw [c4]; exact ek⟩
  | false => exact ⟨100, .inr (.inr (.inr (.inr rfl))), by rw [n5, List.mem_filter]; exact ⟨hk, by rw [ofSex_eq hy, sy]; rfl⟩, by rw [c5]; exact ek⟩
 have ik : b ∈ kids bk a -> Adj w h bk a c b (fw h (if x.1 then c else bw w c)) := fun hk => by
  obtain ⟨y, ⟨m, f⟩, hy, e, o⟩ := mem_kids.mp hk
  have inp := (ok.par y (List.mem_of_getElem? hy) _ e).2.2
  rcases o with o | o
  . have o : a = m := o
    subst o
    rw [ok.man inp hx]; exact .kf hy e
  . have o : a = f := o
    subst o
    rw [ok.woman inp hx]; exact .km hy e
 constructor
 . intro A
   cases A with
   | wi hq => exact ⟨112, .inr (.inr (.inl rfl)), by rw [n3]; exact mem_mates.mpr (.inl hq), by rw [c3, ok.man hq hx]; rfl⟩
   | hu hq => exact ⟨112, .inr (.inr (.inl rfl)), by rw [n3]; exact mem_mates.mpr (.inr hq), by rw [c3, ok.woman hq hx]; rfl⟩
   | @kf _ y f hy e =>
     have inp := (ok.par y (List.mem_of_getElem? hy) _ e).2.2
     exact kid hy e (.inl rfl) (by rw [ok.man inp hx]; rfl)
   | @km _ y m hy e =>
     have inp := (ok.par y (List.mem_of_getElem? hy) _ e).2.2
     exact kid hy e (.inr rfl) (by rw [ok.woman inp hx]; rfl)
   | @fa y m f hy e =>
     rw [hx] at hy; cases hy
     exact ⟨102, .inl rfl, by rw [n1, e]; exact List.mem_singleton.mpr rfl, c1.symm⟩
   | @mo y m f hy e =>
     rw [hx] at hy; cases hy
     exact ⟨109, .inr (.inl rfl), by rw [n2, e]; exact List.mem_singleton.mpr rfl, c2.symm⟩
 . rintro ⟨l, (rfl | rfl | rfl | rfl | rfl), hb, rfl⟩
   . rw [n1] at hb
     cases e : x.2 with
     | none => rw [e] at hb; cases hb
     | some q => rw [e] at hb; rw [List.mem_singleton.mp hb, c1]; exact .fa hx e
   . rw [n2] at hb
     cases e : x.2 with
     | none => rw [e] at hb; cases hb
     | some q => rw [e] at hb; rw [List.mem_singleton.mp hb, c2]; exact .mo hx e
   . rw [n3] at hb
     rw [c3]
     rcases mem_mates.mp hb with z | z
     . rw [ok.man z hx]; exact .wi z
     . rw [ok.woman z hx]; exact .hu z
   . rw [n4] at hb; rw [c4]; exact ik (List.mem_filter.mp hb).1
   . rw [n5] at hb; rw [c5]; exact ik (List.mem_filter.mp hb).1
section
variable {n : Nat} {w h : List Nat} {bk : Bk}
theorem Adj.lt (ok : BkOk bk) (tw : IsTurn n w) (th : IsTurn n h) {a c b k : Nat} (hc : c < n) (A : Adj w h bk a c b k) : b < bk.ps.length /\ k < n := by
 cases A with
 | wi hq => exact ⟨(ok.pr _ hq).2.lt, fw_lt tw hc⟩
 | hu hq => exact ⟨(ok.pr _ hq).1.lt, bw_lt tw hc⟩
 | kf hy e => exact ⟨(List.getElem?_eq_some_iff.mp hy).1, fw_lt th hc⟩
 | km hy e => exact ⟨(List.getElem?_eq_some_iff.mp hy).1, fw_lt th (bw_lt tw hc)⟩
 | fa hx e => exact ⟨(ok.par _ (List.mem_of_getElem? hx) _ e).1.lt, bw_lt th hc⟩
 | mo hx e => exact ⟨(ok.par _ (List.mem_of_getElem? hx) _ e).2.1.lt, fw_lt tw (bw_lt th hc)⟩
inductive Tells (w h : List Nat) (bk : Bk) (a c : Nat) : Nat -> Nat -> Prop
 | here : Tells w h bk a c a c
 | on {b k b' k' : Nat} (t : Tells w h bk a c b k) (s : Adj w h bk b k b' k') : Tells w h bk a c b' k'
theorem Tells.lt (ok : BkOk bk) (tw : IsTurn n w) (th : IsTurn n h) {a c b k : Nat} (ha : a < bk.ps.length) (hc : c < n) (t : Tells w h bk a c b k) : b < bk.ps.length /\ k < n := by
 induction t with
 | here => exact ⟨ha, hc⟩
 | on _ s ih => exact s.lt ok tw th ih.2
def Clash (w h : List Nat) (bk : Bk) (a c : Nat) : Prop := ∃ b k k', Tells w h bk a c b k /\ Tells w h bk a c b k' /\ k ≠ k'
theorem tells_in {a c : Nat} {m : Nat -> Option Nat} (h0 : m a = some c) (cl : ∀ b k b' k', m b = some k -> Adj w h bk b k b' k' -> m b' = some k') {b k : Nat} (t : Tells w h bk a c b k) : m b = some k := by
 induction t with
 | here => exact h0
 | on _ s ih => exact cl _ _ _ _ ih s
def Nb (bk : Bk) (a b : Nat) : Prop := (a, b) ∈ bk.prs \/ (b, a) ∈ bk.prs \/ (∃ y q, bk.ps[b]? = some y /\ y.2 = some q /\ (a = q.1 \/ a = q.2)) \/ ∃ x q, bk.ps[a]? = some x /\ x.2 = some q /\ (b = q.1 \/ b = q.2)
theorem Adj.nb {a c b k : Nat} (A : Adj w h bk a c b k) : Nb bk a b := by
 cases A with
 | wi hq => exact .inl hq
 | hu hq => exact .inr (.inl hq)
 | kf hy e => exact .inr (.inr (.inl ⟨_, _, hy, e, .inl rfl⟩))
 | km hy e => exact .inr (.inr (.inl ⟨_, _, hy, e, .inr rfl⟩))
 | fa hx e => exact .inr (.inr (.inr ⟨_, _, hx, e, .inl rfl⟩))
 | mo hx e => exact .inr (.inr (.inr ⟨_, _, hx, e, .inr rfl⟩))
theorem Nb.adj {a b : Nat} (N : Nb bk a b) (c : Nat) : ∃ k, Adj w h bk a c b k := by
 rcases N with z | z | ⟨y, ⟨m, f⟩, hy, e, o⟩ | ⟨x, ⟨m, f⟩, hx, e, o⟩
 . exact ⟨_, .wi z⟩
 . exact ⟨_, .hu z⟩
 . rcases o with o | o
   . have o : a = m := o
     subst o; exact ⟨_, .kf hy e⟩
   . have o : a = f := o
     subst o; exact ⟨_, .km hy e⟩
 . rcases o with o | o
   . have o : b = m := o
     subst o; exact ⟨_, .fa hx e⟩
   . have o : b = f := o
     subst o; exact ⟨_, .mo hx e⟩
inductive Hang (bk : Bk) (a : Nat) : Nat -> Prop
 | here : Hang bk a a
 | on {b b' : Nat} (t : Hang bk a b) (s : Nb bk b b') : Hang bk a b'
theorem Nb.lt (ok : BkOk bk) {a b : Nat} (N : Nb bk a b) : b < bk.ps.length := by
 rcases N with z | z | ⟨y, q, hy, e, o⟩ | ⟨x, q, hx, e, o⟩
 . exact (ok.pr _ z).2.lt
 . exact (ok.pr _ z).1.lt
 . exact (List.getElem?_eq_some_iff.mp hy).1
 . obtain ⟨s1, s2, _⟩ := ok.par x (List.mem_of_getElem? hx) q e
   rcases o with rfl | rfl
   . exact s1.lt
   . exact s2.lt
theorem Hang.lt (ok : BkOk bk) {a b : Nat} (ha : a < bk.ps.length) (t : Hang bk a b) : b < bk.ps.length := by
 cases t with
 | here => exact ha
 | on _ s => exact s.lt ok
theorem Tells.hang {a c b k : Nat} (t : Tells w h bk a c b k) : Hang bk a b := by
 induction t with
 | here => exact .here
 | on _ s ih => exact .on ih s.nb
theorem Hang.tells {a b : Nat} (t : Hang bk a b) (c : Nat) : ∃ k, Tells w h bk a c b k := by
 induction t with
 | here => exact ⟨c, .here⟩
 | on _ s ih =>
   obtain ⟨k, t⟩ := ih
   obtain ⟨k', A⟩ := s.adj (w := w) (h := h) k
   exact ⟨k', .on t A⟩
structure Told (w h : List Nat) (bk : Bk) (a c : Nat) (ms : List (Option Nat)) : Prop where
 len : ms.length = bk.ps.length
 all : ∀ b k, ms[b]? = some (some k) ↔ Tells w h bk a c b k
theorem Told.on {a c : Nat} {ms : List (Option Nat)} (T : Told w h bk a c ms) {b k b' k' : Nat} (hb : ms[b]? = some (some k)) (A : Adj w h bk b k b' k') : ms[b']? = some (some k') := (T.all _ _).mpr (.on ((T.all _ _).mp hb) A)
end
def optV : Option Nat -> V
 | none => .non
 | some k => nat k
theorem nsnoc {l : List Nat} {x : Nat} (h : l.Nodup) (n : x ∉ l) : (l ++ [x]).Nodup := by
 rw [List.nodup_append]
 exact ⟨h, List.nodup_cons.mpr ⟨fun y => (List.not_mem_nil y), List.nodup_nil⟩, fun a ha b hb e => n (by rw [<- List.mem_singleton.mp hb, <- e]; exact ha)⟩
theorem natLs (ws : List Nat) (x : Nat) : natL ws ++ [nat x] = natL (ws ++ [x]) := by unfold natL; rw [List.map_append]; rfl
theorem cnt_set : ∀ (ms : List (Option Nat)) (b k : Nat), ms[b]? = some none -> (ms.set b (some k)).count none + 1 = ms.count none
 | [], _, _, h => by cases h
 | m :: ms, 0, k, h => by
   have : m = none := Option.some.inj h
   subst this
   rw [List.set_cons_zero, List.count_cons_of_ne (by simp), List.count_cons_self]
 | m :: ms, b + 1, k, h => by
   have ih := cnt_set ms b k h
   rw [List.set_cons_succ, List.count_cons, List.count_cons]
   omega
theorem opt_at {ms : List (Option Nat)} {b : Nat} {o : Option Nat} (h : ms[b]? = some o) : atI (ms.map optV) (b : Int) = some (optV o) := atI_nat (by rw [List.getElem?_map, h]; rfl)
theorem ixN_nat {n b : Nat} (h : b < n) : ixN n (b : Int) = some b := by
 unfold ixN
 rw [if_pos (Int.natCast_nonneg b), if_pos (by omega), Int.toNat_natCast]
theorem set_opt (ms : List (Option Nat)) (b k : Nat) : (ms.map optV).set b (nat k) = (ms.set b (some k)).map optV := by rw [List.map_set]; rfl
structure TeAt (w h : List Nat) (bk : Bk) (a c : Nat) (ms : List (Option Nat)) (ws : List Nat) (ex : Nat -> Prop) : Prop where
 len : ms.length = bk.ps.length
 st : ms[a]? = some (some c)
 sound : ∀ b k, ms[b]? = some (some k) -> Tells w h bk a c b k
 wnd : ws.Nodup
 wso : ∀ b ∈ ws, ∃ k, ms[b]? = some (some k)
 cl : ∀ b k, ms[b]? = some (some k) -> b ∉ ws -> ¬ ex b -> ∀ b' k', Adj w h bk b k b' k' -> ms[b']? = some (some k')
theorem TeAt.told {w h : List Nat} {bk : Bk} {a c : Nat} {ms : List (Option Nat)} (T : TeAt w h bk a c ms [] fun _ => False) : Told w h bk a c ms := by
 refine ⟨T.len, fun b k => ⟨T.sound b k, fun t => ?_⟩⟩
 have key := tells_in (m := fun b => (ms[b]?).join) (w := w) (h := h) (bk := bk) (a := a) (c := c) (by simp only [T.st]; rfl) (fun b k b' k' hb A => by
  have hb' : ms[b]? = some (some k) := by
   cases z : ms[b]? with
   | none => rw [z] at hb; cases hb
   | some o => rw [z] at hb; have hb : o = some k := hb; rw [hb]
  have := T.cl b k hb' (fun z => by cases z) id b' k' A
  show (ms[b']?).join = some k'
  rw [this]; rfl) t
 cases z : ms[b]? with
 | none => simp only [z] at key; cases key
 | some o => simp only [z] at key; have key : o = some k := key; rw [key]
theorem get_set {ms : List (Option Nat)} {b k b' : Nat} {o : Option Nat} (h : (ms.set b (some k))[b']? = some o) : (b' = b /\ o = some k) \/ (b' ≠ b /\ ms[b']? = some o) := by
 by_cases e : b = b'
 . subst e
   rw [List.getElem?_set_self' ] at h
   cases z : ms[b]? with
   | none => rw [z] at h; cases h
   | some v => rw [z] at h; exact .inl ⟨rfl, (Option.some.inj h).symm⟩
 . rw [List.getElem?_set_ne e] at h
   exact .inr ⟨Ne.symm e, h⟩
theorem set_keep {ms : List (Option Nat)} {b k b' k' : Nat} (n : ms[b]? = some none) (h : ms[b']? = some (some k')) : (ms.set b (some k))[b']? = some (some k') := by
 have : b ≠ b' := fun e => by subst e; rw [n] at h; cases h
 rw [List.getElem?_set_ne this]; exact h
theorem TeAt.more {w h : List Nat} {bk : Bk} {a c : Nat} {ms : List (Option Nat)} {ws : List Nat} {ex : Nat -> Prop} (T : TeAt w h bk a c ms ws ex) {b k : Nat} (n : ms[b]? = some none) (t : Tells w h bk a c b k) : TeAt w h bk a c (ms.set b (some k)) (ws ++ [b]) ex := by
 have lb : b < ms.length := (List.getElem?_eq_some_iff.mp n).1
 refine ⟨by rw [List.length_set]; exact T.len, set_keep n T.st, fun b' k' hb => ?_, nsnoc T.wnd fun z => ?_, fun b' hb => ?_, fun b' k' hb hn he b2 k2 A => ?_⟩
 . rcases get_set hb with ⟨rfl, e⟩ | ⟨_, hb⟩
   . rw [Option.some.inj e]; exact t
   . exact T.sound _ _ hb
 . obtain ⟨k', z⟩ := T.wso b z
   rw [n] at z; cases z
 . rcases List.mem_append.mp hb with z | z
   . obtain ⟨k', z⟩ := T.wso b' z
     exact ⟨k', set_keep n z⟩
   . rw [List.mem_singleton.mp z]; exact ⟨k, List.getElem?_set_self lb⟩
 . rcases get_set hb with ⟨rfl, e⟩ | ⟨_, hb⟩
   . exact absurd (List.mem_append_right _ (List.mem_singleton.mpr rfl)) hn
   . exact set_keep n (T.cl b' k' hb (fun z => hn (List.mem_append_left _ z)) he b2 k2 A)
theorem te_start {w h : List Nat} {bk : Bk} {a c : Nat} (la : a < bk.ps.length) : TeAt w h bk a c ((List.replicate bk.ps.length (none : Option Nat)).set a (some c)) [a] fun _ => False := by
 have ms0 : ((List.replicate bk.ps.length (none : Option Nat)).set a (some c))[a]? = some (some c) := List.getElem?_set_self (by rw [List.length_replicate]; exact la)
 have ms1 : ∀ b k, ((List.replicate bk.ps.length (none : Option Nat)).set a (some c))[b]? = some (some k) -> b = a /\ k = c := fun b k hb => by
  rcases get_set hb with ⟨rfl, e⟩ | ⟨_, hb⟩
  . exact ⟨rfl, Option.some.inj e⟩
  . rw [List.getElem?_replicate] at hb
    split at hb
    . cases hb
    . cases hb
 refine ⟨by rw [List.length_set, List.length_replicate], ms0, fun b k hb => ?_, List.nodup_cons.mpr ⟨fun z => (by cases z), List.nodup_nil⟩, fun b hb => ⟨c, by rw [List.mem_singleton.mp hb]; exact ms0⟩, fun b k hb hn => ?_⟩
 . obtain ⟨rfl, rfl⟩ := ms1 b k hb
   exact .here
 . obtain ⟨rfl, rfl⟩ := ms1 b k hb
   exact absurd (List.mem_singleton.mpr rfl) hn
theorem rep_none : ∀ n : Nat, (List.replicate n [V.non]).flatten = (List.replicate n (none : Option Nat)).map optV
 | 0 => rfl
 | n + 1 => by rw [List.replicate_succ, List.replicate_succ, List.flatten_cons, List.map_cons, rep_none n]; rfl
def hangL : List Nat := [102, 109, 112, 115, 100]
theorem hang_is {l : Nat} : l ∈ hangL ↔ IsH l := by
 unfold hangL IsH
 simp only [List.mem_cons, List.not_mem_nil, or_false]
theorem hangS : ("fmpsd" : Str) = txt hangL := by decide +kernel
theorem hang_isL {l : Nat} (h : l ∈ hangL) : IsL l := by
 rcases hang_is.mp h with rfl | rfl | rfl | rfl | rfl <;> decide
theorem TsAt.app {H : Hp} {ps qs : List Addr} {xss yss : List (List V)} (h : TsAt H ps xss) (g : TsAt H qs yss) : TsAt H (ps ++ qs) (xss ++ yss) := by
 refine ⟨by rw [List.length_append, List.length_append, h.len, g.len], fun i p xs a b => ?_⟩
 by_cases c : i < ps.length
 . rw [List.getElem?_append_left c] at a
   rw [List.getElem?_append_left (by rw [<- h.len]; exact c)] at b
   exact h.at_ i p xs a b
 . rw [List.getElem?_append_right (by omega)] at a
   rw [List.getElem?_append_right (by rw [<- h.len]; omega), <- h.len] at b
   exact g.at_ _ p xs a b
def spNearC (C : Addr) (e : Ad) : Sp := fun vs H Q E => ∃ (p x : Addr) (fp : List Addr) (bk : Bk) (n : Nat) (w h : List Nat) (a c : Nat), vs = [.ref p, .ref x, nat a, nat c] /\ BookAt e.Book H p fp bk /\ TableAt C H x n w h /\ a < bk.ps.length /\ c < n /\
 ∀ D ts (L : List (Nat × Nat)) H', H D = none -> Same H H' -> H' D = some (.lst (ts.map V.ref)) -> TsAt H' ts (L.map prT) -> (∀ b k, (b, k) ∈ L ↔ Adj w h bk a c b k) -> L.length <= 300 -> Q (.ref D) H'
def spFitting (C : Addr) (e : Ad) : Sp := fun vs H Q E => ∃ (p x : Addr) (fp : List Addr) (bk : Bk) (n : Nat) (w h : List Nat) (i z : Int), vs = [.ref p, .ref x, .int i, .int z] /\ BookAt e.Book H p fp bk /\ TableAt C H x n w h /\ Sn i /\ Sn z /\
 (InB bk i -> InC n z -> (∀ ms D H', H D = none -> Same H H' -> H' D = some (.lst (ms.map optV)) -> Told w h bk i.toNat z.toNat ms -> Q (.ref D) H') /\ (Clash w h bk i.toNat z.toNat -> ∀ H', Same H H' -> Q .non H')) /\
 (¬ InB bk i -> E (.ref e.Zf) none H) /\ (InB bk i -> ¬ InC n z -> E (.ref e.Zc) none H)
theorem reachP_one {bk : Bk} {a l b : Nat} : reachP bk (fun b => b = a) [l] b ↔ b ∈ nearL bk a l := by
 show (∃ a', a' = a /\ b ∈ nearL bk a' l) ↔ _
 constructor
 . rintro ⟨_, rfl, h⟩; exact h
 . intro h; exact ⟨a, rfl, h⟩
section
variable {P : Program} {w : World} {K : W.Frag} {mg : Str -> Option Value} {base : Heap} {CX : CXT} {C : Addr} {e : Ad}
theorem comp_tups {fv : List (Str × Nat)} {te : TEB} {σ : St} {a : Addr} {ys : List Nat} {k : Nat} {H1 : Hp} {Q : VK} (ga : H1 a = some (.lst (natL ys))) (hn : ys.length <= sizeLine)
 (el : ∀ (y : Nat) (H' : Hp) (R : VK), Same H1 H' -> (∀ t, H' t = none -> R (.ref t) (upd H' t (.tup (prT (y, k))))) -> ∀ s₀ H₀ ex, te s₀ H₀ ex (blkS fv σ (some (nat y))) H' R)
 (fin : ∀ D ts H2, H1 D = none -> Same H1 H2 -> H2 D = some (.lst (ts.map V.ref)) -> TsAt H2 ts ((ys.map fun y => (y, k)).map prT) -> (∀ t ∈ ts, H1 t = none) -> Q (.ref D) H2) : tCompJ fv te σ (Itl K a) H1 Q := by
 intro D hD
 have sd : ∀ {H2 : Hp} {o : HO}, Same H1 H2 -> Same H1 (upd H2 D o) := fun {H2 o} s b u e => by
  rw [upd_ne (ne_of_none e hD)]; exact s b u e
 refine ⟨fun i m vs G => ∃ ts : List Addr, m = ys.length - i /\ i <= ys.length /\ ts.length = i /\ vs = ts.map V.ref /\ Same H1 G /\ G D = some (.lst vs) /\ TsAt G ts (((ys.take i).map fun y => (y, k)).map prT) /\ ∀ t ∈ ts, H1 t = none /\ t ≠ D, ⟨ys.length, [], by simp, Nat.zero_le _, rfl, rfl, sd (Same.refl H1), upd_same, TsAt.nil, fun q z => (by cases z)⟩, ?_⟩
 rintro i m vs G ⟨ts, rfl, hi, tl, rfl, sm, hDi, lt, ft⟩
 refine ⟨hDi, ?_⟩
 have hqi : SqL K G a (natL ys) := SqL.of (sm _ _ ga)
 by_cases hlt : i < ys.length
 . refine .inr ⟨⟨natL ys, nat ys[i], hqi, natL_get (List.getElem?_eq_getElem hlt)⟩, by rw [List.length_map, tl]; omega, fun x H' y => ?_⟩
   obtain ⟨e, y⟩ := y
   subst H'
   have hx : x = nat ys[i] := by
    have := y _ hqi
    rw [natL_get (List.getElem?_eq_getElem hlt)] at this
    exact (Option.some.inj this).symm
   subst hx
   refine fun s₀ H₀ ex => el ys[i] _ _ sm (fun t ht => ?_) s₀ H₀ ex
   have nD : t ≠ D := fun z => by rw [z, hDi] at ht; cases ht
   have s2 : Same G (upd G t (.tup (prT (ys[i], k)))) := same_new ht
   refine ⟨s2 D _ hDi, ys.length - (i + 1), by omega, ts ++ [t], rfl, hlt, by rw [List.length_append, tl]; rfl, by rw [List.map_append]; rfl, sd (sm.trans s2), upd_same, ?_, fun q hq => ?_⟩
   . rw [List.take_add_one, List.getElem?_eq_getElem hlt, List.map_append, List.map_append]
     refine TsAt.snoc (lt.keep fun p xs hp ho => ?_) ?_
     . rw [upd_ne (ft p hp).2]; exact s2 _ _ ho
     . rw [upd_ne nD]; exact upd_same
   . rcases List.mem_append.mp hq with z | z
     . exact ft q z
     . rw [List.mem_singleton.mp z]; exact ⟨sm.free ht, nD⟩
 . have e : i = ys.length := by omega
   subst e
   rw [List.take_length] at lt
   exact .inl ⟨⟨_, hqi, by rw [natL_len]; exact Nat.le_refl _⟩, fin D ts G hD sm hDi lt fun q hq => (ft q hq).1⟩
theorem sc_nearc : FnScope ["book", "table", "a", "c", "answer", "letter", "there"] ["book", "table", "a", "c"] (defScope (top 22)) := mkSc
theorem ok_nearc {f : Addr} {fd : FuncData} (F : Fun K "near_classes" "near_classes" (top 22) f fd) (T : Txt K mg C e) (D_walked : Def P w K mg base (CXR P w) "walked" 5 ["table", "sex", "c", "walk"] (spWalked C e)) (D_sex_of : MDef P w K mg base (CXR P w) e.Book "sex_of" 2 ["self", "a"] (spSexOf e)) (D_kin : MDef P w K mg base (CXR P w) e.Book "kin" 4 ["self", "a", "walk"] (spKin e)) : FnOk P w K mg base (CXR P w) 6 f fd ["book", "table", "a", "c"] (spNearC C e) := by
 refine F.okX sc_nearc (fun vs H Q E h => ?_) (fun cdv A outer s H vs Q E hr hx h => ?_)
 . obtain ⟨p, x, fp, bk, n, w, h, a, c, rfl, _⟩ := h; rfl
 . obtain ⟨p, x, fp, bk, n, w', h', a, c, rfl, BA, TA, la, lc, k⟩ := h
   have nd := sc_nearc.nd
   obtain ⟨dx, a0, b0, c0, d0, qs, hfp, e1, e2, e3, e4, e5, e6, e7⟩ := id BA.ob
   have ok := BA.ok
   have n60 := ok.n60
   have n8 := TA.n8
   have big : 4000 <= sizeLine := by decide
   have p9 : (100 : Nat) < 10 ^ 9 := by decide
   have D_walked := D_walked.imp (walkedN (e := e))
   have hy : bk.ps[a]? = some bk.ps[a] := List.getElem?_eq_getElem la
   generalize bk.ps[a] = y at hy
   have sna : Sn (a : Int) := log_small (by omega)
   have inA : InB bk (a : Int) := ⟨Int.natCast_nonneg a, by omega⟩
   refine ⟨_, (pss_cons (ps_set (i := 4) nd rfl (Or.inl rfl) (pe_lst pa_nil))
    (pss_cons (ps_for PassesOwn.leaving rfl (pi_str (pe_globE rfl T.g_LETTERS_THAT_HANG)) (pg_name (i := 5) nd rfl (Or.inl rfl)) (pss_cons (ps_set (i := 6) nd rfl (Or.inr rfl) (pe_ix ix_tup (pe_callX D_walked hx.s hr rfl (pa_cons (pv 1) (pa_cons (pe_methX (pv 0) T.cl_Book D_sex_of hx.s hr (pa_cons (pv 2) pa_nil)) (pa_cons (pv 3) (pa_cons (pv 5) pa_nil))))) pe_int (fun _ _ => rfl)))
    (pss_one (ps_expr (pe_bm PySem.F.plainAttrs_list PySem.F.slot_list_extend PySem.F.type_list_extend mt_extend (pv 4) (pa_cons (pe_comp (fv := [("there", 6)]) ⟨rfl, by decide +kernel, rfl, by decide +kernel, rfl, by decide +kernel, ⟨⟨rfl, Or.inl rfl, Or.inl rfl, rfl⟩, trivial⟩, rfl, rfl⟩ rfl (pi_list (pe_methX (pv 0) T.cl_Book D_kin hx.s hr (pa_cons (pv 2) (pa_cons (pv 5) pa_nil)))) (fun _ _ _ => (pe_tup (pa_cons (pv 0) (pa_cons (pv 1) pa_nil))))) pa_nil))))))
    (pss_one (ps_ret (pv 4))))), ?_⟩
   refine ⟨by decide, fun DA hDA => ?_⟩
   have s1 := same_new (o := .lst []) hDA
   have g1 : (upd H DA (.lst [])) DA = some (.lst (([] : List Addr).map V.ref)) := upd_same
   generalize upd H DA (.lst []) = H1 at s1 g1
   walk_at "ns"
   refine ⟨_, congrArg V.str hangS, for_str (l := hangL) (fun j σ G => ∃ (ts : List Addr) (L : List (Nat × Nat)) (o5 o6 : Option V), σ = [some (.ref p), some (.ref x), some (nat a), some (nat c), some (.ref DA), o5, o6] /\ Same H G /\ G DA = some (.lst (ts.map V.ref)) /\ TsAt G ts (L.map prT) /\ (∀ b k, (b, k) ∈ L ↔ ∃ l ∈ hangL.take j, b ∈ nearL bk a l /\ k = stC w' h' y.1 c l) /\ L.length <= 60 * j) ?_ ?_ ?_⟩
   . exact ⟨[], [], none, none, rfl, s1, g1, TsAt.nil, fun b k => ⟨fun z => (by cases z), fun ⟨l, z, _⟩ => (by cases z)⟩, Nat.le_refl _⟩
   . rintro j l σ G hj ⟨ts, L, o5, o6, rfl, sG, gA, tL, mL, lL⟩
     have hl : l ∈ hangL := List.mem_of_getElem? hj
     have hj5 : j < 5 := (List.getElem?_eq_some_iff.mp hj).1
     have isL := hang_isL hl
     have isW : IsW [l] := ⟨(show 1 <= 60 by decide), fun z hz => by rw [List.mem_singleton.mp hz]; exact isL⟩
     walk_at "ns"
     refine ⟨_, rfl, _, rfl, p, dx, _, rfl, sG _ _ e1, bno .., _, rfl, p, fp, bk, a, rfl, BA.same sG, sna, fun _ v hv => ?_, fun z => absurd inA z⟩
     obtain ⟨y', hy', rfl⟩ := hv
     rw [Int.toNat_natCast, hy] at hy'
     obtain rfl := Option.some.inj hy'
     refine ⟨_, rfl, _, rfl, x, n, w', h', y.1, c, [l], rfl, TA.same sG, lc, isW, fun t ht => ?_⟩
     have s2 : Same G (upd G t (.tup (pairV (led w' h' (y.1, c) [l])))) := same_new ht
     have gt : (upd G t (.tup (pairV (led w' h' (y.1, c) [l])))) t = some (.tup (pairV (led w' h' (y.1, c) [l]))) := upd_same
     generalize upd G t (.tup (pairV (led w' h' (y.1, c) [l]))) = G2 at s2 gt
     refine ⟨t, _, 1, _, rfl, rfl, SqT.of gt, rfl, ?_⟩
     have ek : (led w' h' (y.1, c) [l]).2 = stC w' h' y.1 c l := rfl
     rw [ek]
     generalize hk : stC w' h' y.1 c l = kd
     walk_at "ns"
     have sG2 := sG.trans s2
     refine ⟨_, rfl, .inl ⟨rfl, _, SqL.of (s2 _ _ gA)⟩, _, rfl, p, dx, _, rfl, sG2 _ _ e1, bno .., _, rfl, _, rfl, p, fp, bk, a, [l], rfl, BA.same sG2, sna, (show 1 <= 1000 by decide), isW.sg, fun _ _ xs DK G3 pw mem lt hDK s3 g3 => ?_, fun z => absurd inA z, fun _ z => absurd isW z⟩
     have mem' : ∀ b, b ∈ xs ↔ b ∈ nearL bk a l := fun b => by rw [mem b, Int.toNat_natCast, reachP_one]
     have xl : xs.length <= bk.ps.length := nodup_len _ _ (pw.imp fun {u v} z => Nat.ne_of_lt z) lt
     refine ⟨DK, rfl, ⟨_, SqL.of g3⟩, comp_tups g3 (by omega) (fun yb H' R sm kk _ _ _ => ⟨_, rfl, _, rfl, two_fits, kk⟩) fun DE ts2 G4 hDE s4 g4 t4 f4 => ?_⟩
     have s24 := s2.trans (s3.trans s4)
     have gA4 := s24 _ _ gA
     have rl := tL.len
     have rl2 := t4.len
     rw [List.length_map] at rl
     rw [List.length_map, List.length_map] at rl2
     refine ⟨DA, DE, _, _, rfl, rfl, gA4, g4, by rw [List.length_map, List.length_map]; omega, ?_⟩
     rw [<- List.map_append]
     refine ⟨ts ++ ts2, L ++ xs.map (fun y => (y, kd)), _, _, rfl, same_upd (sG.trans s24) hDA, upd_same, ?_, fun b k => ?_, ?_⟩
     . rw [show (L ++ xs.map (fun y => (y, kd))).map prT = L.map prT ++ (xs.map (fun y => (y, kd))).map prT from List.map_append]
       refine L2.TsAt.keep (TsAt.app (tL.same s24) t4) fun q zs hq ho => ?_
       rw [upd_ne (fun z => by rw [z, gA4] at ho; cases ho)]; exact ho
     . rw [List.mem_append, mL b k, List.take_add_one, hj]
       constructor
       . rintro (⟨l', z1, z2⟩ | z)
         . exact ⟨l', List.mem_append_left _ z1, z2⟩
         . obtain ⟨y', hy', e⟩ := List.mem_map.mp z
           cases e
           exact ⟨l, List.mem_append_right _ (by simp), (mem' b).mp hy', hk.symm⟩
       . rintro ⟨l', z1, z2, z3⟩
         rcases List.mem_append.mp z1 with u | u
         . exact .inl ⟨l', u, z2, z3⟩
         . have : l' = l := by simpa using u
           subst this
           rw [hk] at z3
           exact .inr (List.mem_map.mpr ⟨b, (mem' b).mpr z2, by rw [z3]⟩)
     . rw [List.length_append, List.length_map]; omega
   . rintro σ G ⟨ts, L, o5, o6, rfl, sG, gA, tL, mL, lL⟩
     rw [show hangL.take hangL.length = hangL from List.take_length] at mL
     exact ⟨_, rfl, k DA ts L G hDA sG gA tL (fun b k => by rw [mL b k, adj_near ok hy]; exact ⟨fun ⟨l, z1, z2⟩ => ⟨l, hang_is.mp z1, z2⟩, fun ⟨l, z1, z2⟩ => ⟨l, hang_is.mpr z1, z2⟩⟩) lL⟩
theorem sc_fitting : FnScope ["book", "table", "a", "c", "classes", "waiting", "here", "near", "b", "there"] ["book", "table", "a", "c"] (defScope (top 23)) := mkSc
theorem ok_fitting {f : Addr} {fd : FuncData} (F : Fun K "fitting" "fitting" (top 23) f fd) (T : Txt K mg C e) (D_check_person : MDef P w K mg base (CXR P w) e.Book "check_person" 1 ["self", "a"] (spCheckP e)) (D_check_class : MDef P w K mg base (CXR P w) C "check_class" 1 ["self", "c"] (spCheck C e)) (D_Book_size : MDef P w K mg base (CXR P w) e.Book "size" 1 ["self"] (spSizeB e)) (D_near_classes : Def P w K mg base (CXR P w) "near_classes" 6 ["book", "table", "a", "c"] (spNearC C e)) : FnOk P w K mg base (CXR P w) 7 f fd ["book", "table", "a", "c"] (spFitting C e) := by
 refine F.okX sc_fitting (fun vs H Q E h => ?_) (fun cdv A outer s H vs Q E hr hx h => ?_)
 . obtain ⟨p, x, fp, bk, n, w, h, i, z, rfl, _⟩ := h; rfl
 . obtain ⟨p, x, fp, bk, n, w', h', i, z, rfl, BA, TA, si, sz, k, kP, kC⟩ := h
   have nd := sc_fitting.nd
   obtain ⟨dx, a0, b0, c0, d0, qs, hfp, e1, e2, e3, e4, e5, e6, e7⟩ := id BA.ob
   obtain ⟨dt, a1, b1, c1, d1, t1, t2, t3, t4, t5⟩ := id TA.ob
   have ok := BA.ok
   have n60 := ok.n60
   have n8 := TA.n8
   have tw := TA.tw
   have th := TA.th
   have big : 4000 <= sizeLine := by decide
   refine ⟨_, (pss_cons (ps_expr (pe_methX (pv 0) T.cl_Book D_check_person hx.s hr (pa_cons (pv 2) pa_nil)))
    (pss_cons (ps_expr (pe_methX (pv 1) T.cl_Table D_check_class hx.s hr (pa_cons (pv 3) pa_nil)))
    (pss_cons (ps_set (i := 4) nd rfl (Or.inl rfl) (pe_op op_rep (pe_lst (pa_cons pe_non pa_nil)) (pe_methX0 (pv 0) T.cl_Book D_Book_size hx.s hr)))
    (pss_cons (ps_asg (pv 3) (pg_sub (pv 4) (pv 2) set_list))
    (pss_cons (ps_set (i := 5) nd rfl (Or.inl rfl) (pe_lst (pa_cons (pv 2) pa_nil)))
    (pss_cons (ps_while PassesOwn.leaving (pt_cmpR op_gt (pe_callB call_len_seq rfl T.z_len PySem.boot_len (pa_cons (pv 5) pa_nil)) pe_int (nomark _)) (pss_cons (ps_set (i := 6) nd rfl (Or.inl rfl) (pe_bm0 PySem.F.plainAttrs_list PySem.F.slot_list_pop PySem.F.type_list_pop mt_pop (pv 5)))
    (pss_cons (ps_set (i := 7) nd rfl (Or.inl rfl) (pe_callX D_near_classes hx.s hr rfl (pa_cons (pv 0) (pa_cons (pv 1) (pa_cons (pv 6) (pa_cons (pe_ix ix_list (pv 4) (pv 6) (fun _ _ => rfl)) pa_nil))))))
    (pss_one (ps_for PassesOwn.leaving rfl (pi_list (pv 7)) (pg_tup rfl (pgs_cons (pg_name (i := 8) nd rfl (Or.inl rfl)) (pgs_cons (pg_name (i := 9) nd rfl (Or.inl rfl)) pgs_nil))) (pss_cons (ps_if (pt_cmpR op_isN (pe_ix ix_list (pv 4) (pv 8) (fun _ _ => rfl)) pe_non (nomark _)) (pss_cons (ps_asg (pv 9) (pg_sub (pv 4) (pv 8) set_list))
    (pss_one (ps_expr (pe_bm PySem.F.plainAttrs_list PySem.F.slot_list_append PySem.F.type_list_append mt_append (pv 5) (pa_cons (pv 8) pa_nil))))) pss_nil)
    (pss_one (ps_if (pt_cmpR op_ne (pe_ix ix_list (pv 4) (pv 8) (fun _ _ => rfl)) (pv 9) (nomark _)) (pss_one (ps_ret pe_non)) pss_nil))))))))
    (pss_one (ps_ret (pv 4))))))))), ?_⟩
   refine ⟨_, rfl, p, dx, _, rfl, e1, bno .., _, rfl, p, fp, bk, i, rfl, BA, si, fun hi v hv => ?_, kP⟩
   refine ⟨_, rfl, x, dt, _, rfl, t1, no_check .., _, rfl, x, n, w', h', z, rfl, TA, sz, fun hc => ?_, kC hi⟩
   obtain ⟨kT, kN⟩ := k hi hc
   obtain ⟨a, rfl, la, ea⟩ := toN hi
   obtain ⟨c, rfl, lc, ec⟩ := toN hc
   rw [ea, ec] at kT kN
   refine ⟨one_fits, fun l0 hl0 => ?_⟩
   have s0 : Same H (upd H l0 (.lst [.non])) := same_new hl0
   have gl0 : (upd H l0 (.lst [.non])) l0 = some (.lst [.non]) := upd_same
   generalize upd H l0 (.lst [V.non]) = H0 at s0 gl0
   refine ⟨_, rfl, p, dx, _, rfl, s0 _ _ e1, bno .., p, fp, bk, rfl, BA.same s0, l0, _, _, rfl, rfl, gl0, by omega, by omega, by rw [Int.toNat_natCast]; show 1 * _ <= _; omega, fun DC hDC => ?_⟩
   rw [Int.toNat_natCast, rep_none]
   have s1 := s0.trans (same_new (o := .lst ((List.replicate bk.ps.length (none : Option Nat)).map optV)) hDC)
   have hDCH : H DC = none := s0.free hDC
   have gC0 : (upd H0 DC (.lst ((List.replicate bk.ps.length (none : Option Nat)).map optV))) DC = some (.lst ((List.replicate bk.ps.length (none : Option Nat)).map optV)) := upd_same
   generalize upd H0 DC (.lst ((List.replicate bk.ps.length (none : Option Nat)).map optV)) = H1 at s1 gC0
   walk_at "ns"
   refine ⟨_, rfl, _, rfl, _, rfl, DC, _, _, a, rfl, rfl, gC0, ixN_nat (by rw [List.length_map, List.length_replicate]; exact la), ?_⟩
   rw [set_opt]
   have te0 := te_start (w := w') (h := h') la (c := c)
   generalize (List.replicate bk.ps.length (none : Option Nat)).set a (some c) = ms0 at te0
   have gC1 : (upd H1 DC (.lst (ms0.map optV))) DC = some (.lst (ms0.map optV)) := upd_same
   have s2 : Same H (upd H1 DC (.lst (ms0.map optV))) := same_upd s1 hDCH
   generalize upd H1 DC (.lst (ms0.map optV)) = H2 at gC1 s2
   refine ⟨_, rfl, one_fits, fun DW hDW => ?_⟩
   have hDWH := s2.free hDW
   have nCW : DC ≠ DW := ne_of_none gC1 hDW
   have s3 := s2.trans (same_new hDW (o := .lst [nat a]))
   have gC3 : (upd H2 DW (.lst [nat a])) DC = some (.lst (ms0.map optV)) := by rw [upd_ne nCW]; exact gC1
   have gW3 : (upd H2 DW (.lst [nat a])) DW = some (.lst (natL [a])) := upd_same
   generalize upd H2 DW (.lst [nat a]) = H3 at s3 gC3 gW3
   walk_at "ns"
   refine ⟨fun m σ G => ∃ ms ws o6 o7 o8 o9, m = 2 * ms.count none + ws.length /\ σ = [some (.ref p), some (.ref x), some (nat a), some (nat c), some (.ref DC), some (.ref DW), o6, o7, o8, o9] /\ Same H G /\ G DC = some (.lst (ms.map optV)) /\ G DW = some (.lst (natL ws)) /\ TeAt w' h' bk a c ms ws fun _ => False, ⟨_, ms0, [a], none, none, none, none, rfl, rfl, s3, gC3, gW3, te0⟩, ?_⟩
   rintro m σ G ⟨ms, ws, o6, o7, o8, o9, rfl, rfl, sG, gC, gW, te⟩
   refine ⟨_, rfl, DW, _, rfl, .inl (SqL.of gW), _, _, rfl, rfl, _, rfl, ?_⟩
   rw [natL_len]
   refine iteD2 (fun hpos => ?_) (fun hz => ?_)
   . obtain ⟨ws0, here, rfl⟩ : ∃ ws0 x, ws = ws0 ++ [x] := by
      rcases List.eq_nil_or_concat ws with z | ⟨l, x, z⟩
      . subst z; exact absurd hpos (by decide)
      . exact ⟨l, x, by rw [z, List.concat_eq_append]⟩
     obtain ⟨kh, hkh⟩ := te.wso here (List.mem_append_right _ (List.mem_singleton.mpr rfl))
     obtain ⟨lh, lk⟩ := (te.sound _ _ hkh).lt ok tw th la lc
     refine ⟨fun σ' G' => ∃ m', m' < 2 * ms.count none + (ws0 ++ [here]).length /\ ∃ ms ws o6 o7 o8 o9, m' = 2 * ms.count none + ws.length /\ σ' = [some (.ref p), some (.ref x), some (nat a), some (nat c), some (.ref DC), some (.ref DW), o6, o7, o8, o9] /\ Same H G' /\ G' DC = some (.lst (ms.map optV)) /\ G' DW = some (.lst (natL ws)) /\ TeAt w' h' bk a c ms ws fun _ => False, fun σ' G' h => h, ?_⟩
     refine ⟨_, rfl, .inl ⟨rfl, _, SqL.of gW⟩, DW, _, nat here, rfl, rfl, gW, ?_, ?_⟩
     . rw [<- natLs, List.length_append]
       show (natL ws0 ++ [nat here])[(natL ws0).length + 1 - 1]? = _
       rw [Nat.add_sub_cancel, List.getElem?_append_right (Nat.le_refl _), Nat.sub_self]
       rfl
     rw [show (natL (ws0 ++ [here])).dropLast = natL ws0 by rw [<- natLs]; simp]
     have s4 : Same H (upd G DW (.lst (natL ws0))) := same_upd sG hDWH
     have gC4 : (upd G DW (.lst (natL ws0))) DC = some (.lst (ms.map optV)) := by rw [upd_ne nCW]; exact gC
     have gW4 : (upd G DW (.lst (natL ws0))) DW = some (.lst (natL ws0)) := upd_same
     generalize upd G DW (.lst (natL ws0)) = G4 at s4 gC4 gW4
     walk_at "ns"
     refine ⟨_, rfl, _, rfl, _, rfl, _, rfl, _, rfl, DC, _, _, _, rfl, rfl, SqL.of gC4, opt_at hkh, p, x, fp, bk, n, w', h', here, kh, rfl, BA.same s4, TA.same s4, lh, lk, fun Dn rs L G5 hDn s5 gn tL mL lL => ?_⟩
     have rl := tL.len
     rw [List.length_map] at rl
     have gC5 := s5 _ _ gC4
     have gW5 := s5 _ _ gW4
     have nnC : Dn ≠ DC := fun z => by rw [z, gC4] at hDn; cases hDn
     have nnW : Dn ≠ DW := fun z => by rw [z, gW4] at hDn; cases hDn
     walk_at "ns"
     refine ⟨_, rfl, Dn, rfl, ⟨_, SqL.of gn⟩, for_list (xs := rs.map V.ref) (fun j σ G' => ∃ ms' ws' o8 o9, σ = [some (.ref p), some (.ref x), some (nat a), some (nat c), some (.ref DC), some (.ref DW), some (nat here), some (.ref Dn), o8, o9] /\ (∀ c o, G5 c = some o -> c ≠ DC -> c ≠ DW -> G' c = some o) /\ G' DC = some (.lst (ms'.map optV)) /\ G' DW = some (.lst (natL ws')) /\ TeAt w' h' bk a c ms' ws' (fun d => d = here) /\ ms'[here]? = some (some kh) /\ (∀ q ∈ L.take j, ms'[q.1]? = some (some q.2)) /\ 2 * ms'.count none + ws'.length <= 2 * ms.count none + ws0.length) ⟨ms, ws0, _, _, rfl, fun c o h _ _ => h, gC5, gW5, ⟨te.len, te.st, te.sound, (List.nodup_append.mp te.wnd).1, fun b hb => te.wso b (List.mem_append_left _ hb), fun b k hb hn he => te.cl b k hb (fun z => ?_) id⟩, hkh, fun q z => (by simp at z), Nat.le_refl _⟩ (fun m σ G' _ ⟨_, _, _, _, _, kp, _⟩ => SqL.of (kp _ _ gn nnC nnW)) ?_ ?_⟩
     . rcases List.mem_append.mp z with y | y
       . exact hn y
       . exact he (List.mem_singleton.mp y)
     . rintro j v σ G' hj ⟨ms', ws', o8', o9', rfl, kp, gC', gW', te', hh', don, ms2⟩
       rw [List.getElem?_map] at hj
       obtain ⟨t, ht, rfl⟩ := Option.map_eq_some_iff.mp hj
       have lj : j < L.length := by rw [<- rl]; exact (List.getElem?_eq_some_iff.mp ht).1
       have hq : L[j]? = some L[j] := List.getElem?_eq_getElem lj
       generalize L[j] = q at hq
       obtain ⟨b, kd⟩ := q
       have gt1 : G5 t = some (.tup (prT (b, kd))) := tL.at_ j t _ ht (by rw [List.getElem?_map, hq]; rfl)
       have gt : G' t = some (.tup (prT (b, kd))) := kp _ _ gt1 (fun z => by rw [z, gC5] at gt1; cases gt1) (fun z => by rw [z, gW5] at gt1; cases gt1)
       have tb : Tells w' h' bk a c b kd := .on (te'.sound _ _ hh') ((mL b kd).mp (List.mem_of_getElem? hq))
       obtain ⟨lb, lkd⟩ := tb.lt ok tw th la lc
       have tk : ∀ r, r ∈ L.take (j + 1) -> r ∈ L.take j \/ r = (b, kd) := fun r hr => by
        rw [List.take_add_one, hq] at hr
        rcases List.mem_append.mp hr with z | z
        . exact .inl z
        . exact .inr (by simpa using z)
       have lbm : b < ms'.length := by rw [te'.len]; exact lb
       have l60 : ws'.length <= bk.ps.length := nodup_len _ _ te'.wnd fun b hb => by obtain ⟨k, hk⟩ := te'.wso b hb; exact ((te'.sound b k hk).lt ok tw th la lc).1
       have sG' : Same H G' := fun c o hc => kp c o (s5 _ _ (s4 _ _ hc)) (fun z => by rw [z, hDCH] at hc; cases hc) (fun z => by rw [z, hDWH] at hc; cases hc)
       refine ⟨t, _, rfl, SqT.of gt, rfl, _, _, rfl, _, _, rfl, rfl, ?_⟩
       walk_at "ns"
       have hb0 : ms'[b]? = some ms'[b] := List.getElem?_eq_getElem lbm
       generalize ms'[b] = ob at hb0
       cases ob with
       | none =>
         refine ⟨_, rfl, _, rfl, DC, _, _, _, rfl, rfl, SqL.of gC', opt_at hb0, rfl, _, rfl, iteT ?_⟩
         refine ⟨_, rfl, _, rfl, _, rfl, DC, _, _, b, rfl, rfl, gC', ixN_nat (by rw [List.length_map]; exact lbm), ?_⟩
         rw [set_opt]
         have gW2 : (upd G' DC (.lst ((ms'.set b (some kd)).map optV))) DW = some (.lst (natL ws')) := by rw [upd_ne (Ne.symm nCW)]; exact gW'
         refine ⟨_, rfl, .inl ⟨rfl, _, SqL.of gW2⟩, _, rfl, DW, _, _, rfl, rfl, gW2, by rw [natL_len]; omega, ?_⟩
         rw [natLs]
         have gC6 : (upd (upd G' DC (.lst ((ms'.set b (some kd)).map optV))) DW (.lst (natL (ws' ++ [b])))) DC = some (.lst ((ms'.set b (some kd)).map optV)) := by rw [upd_ne nCW]; exact upd_same
         refine ⟨_, rfl, _, rfl, DC, _, _, _, rfl, rfl, SqL.of gC6, opt_at (List.getElem?_set_self lbm), _, rfl, rfl, _, rfl, ?_⟩
         show if (!decide (nat kd = nat kd)) = true then _ else _
         rw [decide_eq_true rfl]
         refine iteF ⟨ms'.set b (some kd), ws' ++ [b], _, _, rfl, fun c o hc c1 c2 => by rw [upd_ne c2, upd_ne c1]; exact kp c o hc c1 c2, gC6, upd_same, te'.more hb0 tb, set_keep hb0 hh', fun r hr => ?_, ?_⟩
         . rcases tk r hr with z | rfl
           . exact set_keep hb0 (don r z)
           . exact List.getElem?_set_self lbm
         . have := cnt_set ms' b kd hb0
           rw [List.length_append]
           show _ + (ws'.length + 1) <= _
           omega
       | some k1 =>
         refine ⟨_, rfl, _, rfl, DC, _, _, _, rfl, rfl, SqL.of gC', opt_at hb0, rfl, _, rfl, iteF ?_⟩
         refine ⟨_, rfl, _, rfl, DC, _, _, _, rfl, rfl, SqL.of gC', opt_at hb0, _, rfl, rfl, _, rfl, ?_⟩
         show if (!decide (nat k1 = nat kd)) = true then _ else _
         by_cases e1 : k1 = kd
         . subst e1
           rw [decide_eq_true rfl]
           refine iteF ⟨ms', ws', _, _, rfl, kp, gC', gW', te', hh', fun r hr => ?_, ms2⟩
           rcases tk r hr with z | rfl
           . exact don r z
           . exact hb0
         . rw [decide_eq_false (fun z => e1 (by have := V.int.inj z; omega))]
           exact iteT (kN ⟨b, k1, kd, te'.sound _ _ hb0, tb, e1⟩ G' sG')
     . rintro σ G' ⟨ms', ws', o8', o9', rfl, kp, gC', gW', te', hh', don, ms2⟩
       rw [List.length_map, rl, List.take_length] at don
       have sG' : Same H G' := fun c o hc => kp c o (s5 _ _ (s4 _ _ hc)) (fun z => by rw [z, hDCH] at hc; cases hc) (fun z => by rw [z, hDWH] at hc; cases hc)
       refine ⟨_, by rw [List.length_append]; show _ < _ + (ws0.length + 1); omega, ms', ws', _, _, _, _, rfl, rfl, sG', gC', gW', te'.len, te'.st, te'.sound, te'.wnd, te'.wso, fun b k hb hn _ b' k' A => ?_⟩
       by_cases z : b = here
       . subst z
         rw [hh'] at hb
         cases Option.some.inj (Option.some.inj hb)
         exact don _ ((mL b' k').mpr A)
       . exact te'.cl b k hb hn z b' k' A
   . have hz' : ws = [] := List.length_eq_zero_iff.mp (by omega)
     subst hz'
     exact ⟨_, rfl, kT ms DC G hDCH sG gC te.told⟩
end
def oat (ms : List (Option Nat)) (i : Nat) : Option Nat := (ms[i]?).join
theorem oat_get {ms : List (Option Nat)} {i : Nat} (h : i < ms.length) : ms[i]? = some (oat ms i) := by
 unfold oat
 rw [List.getElem?_eq_getElem h]
 rfl
theorem oat_at {ms : List (Option Nat)} {i : Nat} (h : i < ms.length) : atI (ms.map optV) (i : Int) = some (optV (oat ms i)) := opt_at (oat_get h)
theorem oat_some {ms : List (Option Nat)} {i k : Nat} : oat ms i = some k ↔ ms[i]? = some (some k) := by
 unfold oat
 cases ms[i]? with
 | none => constructor <;> intro h <;> cases h
 | some o => constructor <;> intro h
             . exact congrArg some h
             . exact Option.some.inj h
def PrOk (w : List Nat) (ms : List (Option Nat)) (q : Nat × Nat) : Prop := (∀ k, oat ms q.1 = some k -> oat ms q.2 = some (fw w k)) /\ (oat ms q.1 = none -> oat ms q.2 = none)
def ChOk (h : List Nat) (ms : List (Option Nat)) (i : Nat) (x : Per) : Prop := ∀ q, x.2 = some q -> (∀ k, oat ms q.1 = some k -> oat ms i = some (fw h k)) /\ (oat ms q.1 = none -> oat ms i = none)
structure FitsO (w h : List Nat) (bk : Bk) (ms : List (Option Nat)) : Prop where
 pr : ∀ q ∈ bk.prs, PrOk w ms q
 ch : ∀ (i : Nat) x, bk.ps[i]? = some x -> ChOk h ms i x
def spFits : Sp := fun vs H Q _ => ∃ (LP LR LT D1 D2 : Addr) (ts us : List Addr) (bk : Bk) (n : Nat) (w h : List Nat) (ms : List (Option Nat)), vs = [.ref LP, .ref LR, .ref LT, .ref D1, .ref D2] /\ PeopleAt H LP ts bk.ps /\ PairsAt H LR us bk.prs /\ BkOk bk /\ H LT = some (.lst (ms.map optV)) /\ H D1 = some (.lst (natL w)) /\ H D2 = some (.lst (natL h)) /\ IsTurn n w /\ IsTurn n h /\ ms.length = bk.ps.length /\ (∀ i k, oat ms i = some k -> k < n) /\
 ∀ b : Bool, (b = true ↔ FitsO w h bk ms) -> Q (.bl b) H
theorem optV_non {o : Option Nat} : decide (optV o = V.non) = o.isNone := by
 cases o with
 | none => exact decide_eq_true rfl
 | some k => exact decide_eq_false (fun z => by cases z)
theorem optV_nat {o : Option Nat} {k : Nat} : decide (optV o = nat k) = decide (o = some k) := by
 cases o with
 | none => rw [decide_eq_false (fun z : optV none = nat k => by cases z), decide_eq_false (fun z : (none : Option Nat) = some k => by cases z)]
 | some j =>
   by_cases h : j = k
   . subst h; rw [decide_eq_true (show optV (some j) = nat j from rfl), decide_eq_true (show some j = some j from rfl)]
   . rw [decide_eq_false (fun z : optV (some j) = nat k => h (by have := V.int.inj z; omega)), decide_eq_false (fun z : some j = some k => h (Option.some.inj z))]
theorem pr_at {H : Hp} {LR : Addr} {us : List Addr} {prs : List (Nat × Nat)} (h : PairsAt H LR us prs) {i : Nat} {v : V} (hv : (us.map V.ref)[i]? = some v) : ∃ t q, v = .ref t /\ prs[i]? = some q /\ H t = some (.tup (prT q)) := by
 rw [List.getElem?_map] at hv
 obtain ⟨t, ht, rfl⟩ := Option.map_eq_some_iff.mp hv
 have lt : i < prs.length := by rw [<- h.len]; exact (List.getElem?_eq_some_iff.mp ht).1
 obtain ⟨t', ht', g⟩ := h.at_ (List.getElem?_eq_getElem lt)
 rw [ht] at ht'
 cases Option.some.inj ht'
 exact ⟨t, _, rfl, List.getElem?_eq_getElem lt, g⟩
section
variable {P : Program} {w : World} {K : W.Frag} {mg : Str -> Option Value} {base : Heap} {CX : CXT} {C : Addr} {e : Ad}
theorem sc_fits : FnScope ["people", "pairs", "told", "wives", "heirs", "two", "a", "father"] ["people", "pairs", "told", "wives", "heirs"] (defScope (top 43)) := mkSc
theorem ok_fits {f : Addr} {fd : FuncData} (F : Fun K "_law_fits" "_law_fits" (top 43) f fd) (T : Txt K mg C e) : FnOk P w K mg base CX 1 f fd ["people", "pairs", "told", "wives", "heirs"] spFits := by
 refine F.okN sc_fits (fun vs H Q E h => ?_) (fun cdv A outer s H vs Q E hr h => ?_)
 . obtain ⟨LP, LR, LT, D1, D2, ts, us, bk, n, w, h, ms, rfl, _⟩ := h; rfl
 . obtain ⟨LP, LR, LT, D1, D2, ts, us, bk, n, w', h', ms, rfl, pe, pa, ok, gT, g1, g2, tw, th, ml, mlt, k⟩ := h
   have nd := sc_fits.nd
   have n60 := ok.n60
   have pl := ok.pl
   have ul := pa.len
   have tl := pe.len
   have big : 4000 <= sizeLine := by decide
   have at_ : ∀ i, i < bk.ps.length -> atI (ms.map optV) (i : Int) = some (optV (oat ms i)) := fun i hi => oat_at (by rw [ml]; exact hi)
   refine ⟨_, (pss_cons (ps_for PassesOwn.never rfl (pi_list (pv 1)) (pg_name (i := 5) nd rfl (Or.inl rfl)) (pss_cons (ps_if (PW.pt (pw_and (pt_cmpR op_notN (pe_ix ix_list (pv 2) (pe_ix ix_tup (pv 5) pe_int (fun _ _ => rfl)) (fun _ _ => rfl)) pe_non (nomark _)) (pw_and1 (pt_cmpR op_ne (pe_ix ix_list (pv 2) (pe_ix ix_tup (pv 5) pe_int (fun _ _ => rfl)) (fun _ _ => rfl)) (pe_ix ix_list (pv 3) (pe_ix ix_list (pv 2) (pe_ix ix_tup (pv 5) pe_int (fun _ _ => rfl)) (fun _ _ => rfl)) (fun _ _ => rfl)) (nomark _))))) (pss_one (ps_ret pe_bl)) pss_nil)
    (pss_one (ps_if (PW.pt (pw_and (pt_cmpR op_isN (pe_ix ix_list (pv 2) (pe_ix ix_tup (pv 5) pe_int (fun _ _ => rfl)) (fun _ _ => rfl)) pe_non (nomark _)) (pw_and1 (pt_cmpR op_notN (pe_ix ix_list (pv 2) (pe_ix ix_tup (pv 5) pe_int (fun _ _ => rfl)) (fun _ _ => rfl)) pe_non (nomark _))))) (pss_one (ps_ret pe_bl)) pss_nil))))
    (pss_cons (ps_for PassesOwn.never rfl (pi_range1 rfl T.z_range (pa_cons (pe_callB call_len_seq rfl T.z_len PySem.boot_len (pa_cons (pv 0) pa_nil)) pa_nil)) (pg_name (i := 6) nd rfl (Or.inl rfl)) (pss_cons (ps_set (i := 7) nd rfl (Or.inl rfl) (pe_ix ix_tup (pe_ix ix_list (pv 0) (pv 6) (fun _ _ => rfl)) pe_int (fun _ _ => rfl)))
    (pss_one (ps_if (pt_cmpR op_notN (pv 7) pe_non (nomark _)) (pss_cons (ps_if (PW.pt (pw_and (pt_cmpR op_isN (pe_ix ix_list (pv 2) (pv 7) (fun _ _ => rfl)) pe_non (nomark _)) (pw_and1 (pt_cmpR op_notN (pe_ix ix_list (pv 2) (pv 6) (fun _ _ => rfl)) pe_non (nomark _))))) (pss_one (ps_ret pe_bl)) pss_nil)
    (pss_one (ps_if (PW.pt (pw_and (pt_cmpR op_notN (pe_ix ix_list (pv 2) (pv 7) (fun _ _ => rfl)) pe_non (nomark _)) (pw_and1 (pt_cmpR op_ne (pe_ix ix_list (pv 2) (pv 6) (fun _ _ => rfl)) (pe_ix ix_list (pv 4) (pe_ix ix_list (pv 2) (pv 7) (fun _ _ => rfl)) (fun _ _ => rfl)) (nomark _))))) (pss_one (ps_ret pe_bl)) pss_nil))) pss_nil))))
    (pss_one (ps_ret pe_bl)))), ?_⟩
   refine ⟨_, rfl, LR, rfl, ⟨_, SqL.of pa.l⟩, for_list (xs := us.map V.ref) (fun j σ G => ∃ o5, σ = [some (.ref LP), some (.ref LR), some (.ref LT), some (.ref D1), some (.ref D2), o5, none, none] /\ G = H /\ ∀ q ∈ bk.prs.take j, PrOk w' ms q) ⟨none, rfl, rfl, fun q z => by simp at z⟩ (fun m σ G _ ⟨_, _, z, _⟩ => by rw [z]; exact SqL.of pa.l) ?_ ?_⟩
   . rintro j v σ G hj ⟨o5, rfl, rfl, done⟩
     obtain ⟨t, q, rfl, hq, gt⟩ := pr_at pa hj
     have inq := List.mem_of_getElem? hq
     obtain ⟨m1, m2⟩ := ok.pr q inq
     have a1 := at_ q.1 m1.lt
     have a2 := at_ q.2 m2.lt
     have nx : PrOk w' ms q -> ∀ r ∈ bk.prs.take (j + 1), PrOk w' ms r := fun pq r hr => by
      rw [List.take_add_one, hq] at hr
      rcases List.mem_append.mp hr with z | z
      . exact done r z
      . have : r = q := by simpa using z
        rw [this]; exact pq
     have bad : ¬ PrOk w' ms q -> Q (.bl false) G := fun z => k false ⟨fun y => (by cases y), fun F => absurd (F.pr q inq) z⟩
     walk_at "ns"
     cases z1 : oat ms q.1 with
     | none =>
       rw [z1] at a1
       refine ⟨_, rfl, _, rfl, t, _, 0, _, rfl, rfl, SqT.of gt, rfl, LT, _, _, _, rfl, rfl, SqL.of gT, a1, rfl, _, rfl, iteF ?_⟩
       refine ⟨_, rfl, _, rfl, t, _, 0, _, rfl, rfl, SqT.of gt, rfl, LT, _, _, _, rfl, rfl, SqL.of gT, a1, rfl, _, rfl, iteT ?_⟩
       refine ⟨_, rfl, _, rfl, t, _, 1, _, rfl, rfl, SqT.of gt, rfl, LT, _, _, _, rfl, rfl, SqL.of gT, a2, rfl, _, rfl, ?_⟩
       rw [optV_non]
       cases z2 : oat ms q.2 with
       | none => exact iteF ⟨_, rfl, rfl, nx ⟨fun k hk => (by rw [z1] at hk; cases hk), fun _ => z2⟩⟩
       | some k2 => exact iteT (bad fun z => by rw [z.2 z1] at z2; cases z2)
     | some k1 =>
       rw [z1] at a1
       have lk := mlt _ _ z1
       refine ⟨_, rfl, _, rfl, t, _, 0, _, rfl, rfl, SqT.of gt, rfl, LT, _, _, _, rfl, rfl, SqL.of gT, a1, rfl, _, rfl, iteT ?_⟩
       refine ⟨_, rfl, _, rfl, t, _, 1, _, rfl, rfl, SqT.of gt, rfl, LT, _, _, _, rfl, rfl, SqL.of gT, a2, _, rfl, _, rfl, _, rfl, t, _, 0, _, rfl, rfl, SqT.of gt, rfl, LT, _, _, _, rfl, rfl, SqL.of gT, a1, D1, _, _, _, rfl, rfl, SqL.of g1, atI_nat (natL_get (fw_get tw lk)), by cases oat ms q.2 <;> rfl, _, rfl, ?_⟩
       rw [optV_nat]
       by_cases z2 : oat ms q.2 = some (fw w' k1)
       . rw [decide_eq_true z2]
         refine iteF ?_
         refine ⟨_, rfl, _, rfl, t, _, 0, _, rfl, rfl, SqT.of gt, rfl, LT, _, _, _, rfl, rfl, SqL.of gT, a1, rfl, _, rfl, iteF ?_⟩
         exact ⟨_, rfl, rfl, nx ⟨fun k hk => (by rw [z1] at hk; cases Option.some.inj hk; exact z2), fun hk => by rw [z1] at hk; cases hk⟩⟩
       . rw [decide_eq_false z2]
         exact iteT (bad fun z => z2 (z.1 k1 z1))
   . rintro σ G ⟨o5, rfl, rfl, done⟩
     rw [List.length_map, ul, List.take_length] at done
     refine ⟨_, rfl, LP, _, rfl, .inl (SqL.of pe.l), _, rfl, by rw [List.length_map]; omega, by rw [List.length_map]; omega, ?_⟩
     rw [List.length_map, tl, Int.toNat_natCast]
     refine for_range0 (fun i σ G' => ∃ o6 o7, σ = [some (.ref LP), some (.ref LR), some (.ref LT), some (.ref D1), some (.ref D2), o5, o6, o7] /\ G' = G /\ ∀ j x, j < i -> bk.ps[j]? = some x -> ChOk h' ms j x) ⟨none, none, rfl, rfl, fun j x z => absurd z (Nat.not_lt_zero _)⟩ ?_ ?_
     . rintro i σ G' hi ⟨o6, o7, rfl, rfl, don⟩
       have hx : bk.ps[i]? = some bk.ps[i] := List.getElem?_eq_getElem hi
       generalize bk.ps[i] = x at hx
       obtain ⟨t, ht, at', gt⟩ := pe.at_ hx
       have ai := at_ i hi
       have nx : ChOk h' ms i x -> ∀ j y, j < i + 1 -> bk.ps[j]? = some y -> ChOk h' ms j y := fun cq j y hj hy => by
        rcases Nat.lt_or_ge j i with z | z
        . exact don j y z hy
        . have : j = i := by omega
          subst this
          rw [hx] at hy
          cases Option.some.inj hy
          exact cq
       have bad : ¬ ChOk h' ms i x -> Q (.bl false) G' := fun z => k false ⟨fun y => (by cases y), fun F => absurd (F.ch i x hx) z⟩
       walk_at "ns"
       refine ⟨_, rfl, _, rfl, LP, _, _, _, rfl, rfl, SqL.of pe.l, at', t, _, 1, _, rfl, rfl, SqT.of gt, rfl, ?_⟩
       walk_at "ns"
       cases hq : x.2 with
       | none =>
         have e9 : faV x = .non := by unfold faV; rw [hq]
         rw [e9]
         exact ⟨_, rfl, rfl, _, rfl, iteF ⟨_, _, rfl, rfl, nx fun q z => by rw [hq] at z; cases z⟩⟩
       | some q =>
         have e9 : faV x = nat q.1 := by unfold faV; rw [hq]
         rw [e9]
         have m1 := (ok.par x (List.mem_of_getElem? hx) q hq).1.lt
         have a1 := at_ q.1 m1
         refine ⟨_, rfl, rfl, _, rfl, iteT ?_⟩
         cases z1 : oat ms q.1 with
         | none =>
           rw [z1] at a1
           refine ⟨_, rfl, _, rfl, LT, _, _, _, rfl, rfl, SqL.of gT, a1, rfl, _, rfl, iteT ?_⟩
           refine ⟨_, rfl, _, rfl, LT, _, _, _, rfl, rfl, SqL.of gT, ai, rfl, _, rfl, ?_⟩
           rw [optV_non]
           cases z2 : oat ms i with
           | none =>
             refine iteF ?_
             refine ⟨_, rfl, _, rfl, LT, _, _, _, rfl, rfl, SqL.of gT, a1, rfl, _, rfl, iteF ?_⟩
             exact ⟨_, _, rfl, rfl, nx fun q' z => by
              rw [hq] at z
              cases Option.some.inj z
              exact ⟨fun k hk => (by rw [z1] at hk; cases hk), fun _ => z2⟩⟩
           | some k2 => exact iteT (bad fun z => by rw [(z q hq).2 z1] at z2; cases z2)
         | some k1 =>
           rw [z1] at a1
           have lk := mlt _ _ z1
           refine ⟨_, rfl, _, rfl, LT, _, _, _, rfl, rfl, SqL.of gT, a1, rfl, _, rfl, iteF ?_⟩
           refine ⟨_, rfl, _, rfl, LT, _, _, _, rfl, rfl, SqL.of gT, a1, rfl, _, rfl, iteT ?_⟩
           refine ⟨_, rfl, _, rfl, LT, _, _, _, rfl, rfl, SqL.of gT, ai, _, rfl, _, rfl, _, rfl, LT, _, _, _, rfl, rfl, SqL.of gT, a1, D2, _, _, _, rfl, rfl, SqL.of g2, atI_nat (natL_get (fw_get th lk)), by cases oat ms i <;> rfl, _, rfl, ?_⟩
           rw [optV_nat]
           by_cases z2 : oat ms i = some (fw h' k1)
           . rw [decide_eq_true z2]
             exact iteF ⟨_, _, rfl, rfl, nx fun q' z => by
              rw [hq] at z
              cases Option.some.inj z
              exact ⟨fun k hk => (by rw [z1] at hk; cases Option.some.inj hk; exact z2), fun hk => by rw [z1] at hk; cases hk⟩⟩
           . rw [decide_eq_false z2]
             exact iteT (bad fun z => z2 ((z q hq).1 k1 z1))
     . rintro σ G' ⟨o6, o7, rfl, rfl, don⟩
       exact k true ⟨fun _ => ⟨done, fun i x hx => don i x (List.getElem?_eq_some_iff.mp hx).1 hx⟩, fun _ => rfl⟩
end
def spTogether : Sp := fun vs H Q _ => ∃ (LP LR : Addr) (ts us : List Addr) (bk : Bk) (a : Nat), vs = [.ref LP, .ref LR, nat a] /\ PeopleAt H LP ts bk.ps /\ PairsAt H LR us bk.prs /\ BkOk bk /\ a < bk.ps.length /\
 ∀ D xs H', H D = none -> Same H H' -> H' D = some (.lst (natL xs)) -> (∀ b, b ∈ xs ↔ Hang bk a b) -> xs.Nodup -> Q (.ref D) H'
def NbL (bk : Bk) (here : Nat) (l : List Nat) : Prop := ∀ b ∈ l, Nb bk here b \/ b = here
theorem cut1 (x : Per) : cutV (perT x) (some 1) none = [faV x, moV x] := rfl
theorem inV_two (a : Nat) (q : Nat × Nat) : inV (nat a) (prT q) = decide (a = q.1 \/ a = q.2) := by
 unfold inV prT
 show ((((q.1 : Int) == (a : Int)) || (((q.2 : Int) == (a : Int)) || false))) = _
 rw [Bool.or_false, Bool.eq_iff_iff, Bool.or_eq_true, decide_eq_true_iff]
 constructor
 . rintro (z | z)
   . exact .inl (by have := eq_of_beq z; omega)
   . exact .inr (by have := eq_of_beq z; omega)
 . rintro (rfl | rfl)
   . exact .inl (by simp)
   . exact .inr (by simp)
theorem inV_par (a : Nat) (x : Per) : inV (nat a) [faV x, moV x] = true ↔ ∃ q, x.2 = some q /\ (a = q.1 \/ a = q.2) := by
 unfold faV moV
 cases hq : x.2 with
 | none =>
   constructor
   . intro z; cases z
   . rintro ⟨q, z, _⟩; cases z
 | some q =>
   show inV (nat a) (prT q) = true ↔ _
   rw [inV_two, decide_eq_true_iff]
   exact ⟨fun z => ⟨q, rfl, z⟩, fun ⟨q', z, y⟩ => by cases Option.some.inj z; exact y⟩
theorem par_flat (x : Per) : [faV x, moV x].all flatV = true := by
 unfold faV moV
 cases x.2 <;> rfl
def isKid (bk : Bk) (a i : Nat) : Bool := match bk.ps[i]? with
 | some y => inV (nat a) [faV y, moV y]
 | none => false
theorem isKid_eq {bk : Bk} {a i : Nat} {y : Per} (h : bk.ps[i]? = some y) : isKid bk a i = inV (nat a) [faV y, moV y] := by unfold isKid; rw [h]
def parL (x : Per) : List Nat := match x.2 with
 | none => []
 | some q => [q.1, q.2]
theorem par_list (x : Per) : ((List.range [faV x, moV x].length).filter (fun j => match [faV x, moV x][j]? with
 | some v => !decide (v = V.non)
 | none => false)).map (fun j => match [faV x, moV x][j]? with
 | some v => v
 | none => V.non) = natL (parL x) := by
 unfold faV moV parL
 cases x.2 with
 | none => rfl
 | some q => rfl
section
variable {fv : List (Str × Nat)} {σ : St} {tc : TTB} {te : TEB}
theorem comp_tupF {K : W.Frag} {a : Addr} {xs : List V} {H1 : Hp} {Q : VK} (p : Nat -> Bool) (f : Nat -> V) (ga : H1 a = some (.tup xs)) (hn : xs.length <= sizeLine)
 (ct : ∀ (i : Nat) (x : V) (H' : Hp) (R : Bool -> Hp -> Prop), xs[i]? = some x -> Same H1 H' -> (∀ H2, Same H' H2 -> R (p i) H2) -> ∀ s₀ H₀ ex, tc s₀ H₀ ex (blkS fv σ (some x)) H' R)
 (el : ∀ (i : Nat) (x : V) (H' : Hp) (R : VK), xs[i]? = some x -> p i = true -> Same H1 H' -> (∀ H2, Same H' H2 -> R (f i) H2) -> ∀ s₀ H₀ ex, te s₀ H₀ ex (blkS fv σ (some x)) H' R)
 (fin : ∀ D H2, H1 D = none -> Same H1 H2 -> H2 D = some (.lst (((List.range xs.length).filter p).map f)) -> Q (.ref D) H2) : tCompF fv tc te σ (Itt K a) H1 Q := by
 intro D hD
 have sd : ∀ {H2 : Hp} {o : HO}, Same H1 H2 -> Same H1 (upd H2 D o) := fun {H2 o} s b u e => by
  rw [upd_ne (ne_of_none e hD)]; exact s b u e
 refine ⟨fun i m ys H => m = xs.length - i /\ i <= xs.length /\ ys = ((List.range i).filter p).map f /\ Same H1 H /\ H D = some (.lst ys), ⟨xs.length, by simp, Nat.zero_le _, rfl, sd (Same.refl H1), upd_same⟩, ?_⟩
 rintro i m ys H ⟨rfl, hi, rfl, sm, hDi⟩
 have hq' : SqT K H a xs := SqT.of (sm _ _ ga)
 refine ⟨hDi, ?_⟩
 by_cases hlt : i < xs.length
 . have len : (((List.range i).filter p).map f).length <= i := by
    rw [List.length_map]
    exact Nat.le_trans (List.length_filter_le _ _) (by rw [List.length_range]; exact Nat.le_refl _)
   refine .inr ⟨⟨xs, xs[i], hq', by simp [hlt]⟩, by omega, fun x H' y => ?_⟩
   obtain ⟨e, y⟩ := y
   subst e
   have hx := y xs hq'
   intro s₀ H₀ ex
   refine ct i x _ _ hx sm (fun H2 s2 => ?_) s₀ H₀ ex
   cases q : p i with
   | false =>
     refine ⟨xs.length - (i + 1), by omega, rfl, hlt, ?_, sm.trans s2, s2 D _ hDi⟩
     rw [List.range_succ, List.filter_append, List.map_append, List.filter_cons_of_neg (by rw [q]; decide), List.filter_nil, List.map_nil, List.append_nil]
   | true =>
     refine el i x H2 _ hx q (sm.trans s2) (fun H3 s3 => ⟨s3 D _ (s2 D _ hDi), xs.length - (i + 1), by omega, rfl, hlt, ?_, sd ((sm.trans s2).trans s3), upd_same⟩) s₀ H₀ ex
     rw [List.range_succ, List.filter_append, List.map_append, List.filter_cons_of_pos q, List.filter_nil]
     rfl
 . have e : i = xs.length := by omega
   subst e
   exact .inl ⟨⟨xs, hq', Nat.le_refl _⟩, fin D H hD sm hDi⟩
end
section
variable {P : Program} {w : World} {K : W.Frag} {mg : Str -> Option Value} {base : Heap} {CX : CXT} {C : Addr} {e : Ad}
theorem sc_together : FnScope ["people", "pairs", "a", "found", "at", "here", "near", "two", "b"] ["people", "pairs", "a"] (defScope (top 44)) := mkSc
theorem ok_together {f : Addr} {fd : FuncData} (F : Fun K "_law_together" "_law_together" (top 44) f fd) (T : Txt K mg C e) : FnOk P w K mg base CX 1 f fd ["people", "pairs", "a"] spTogether := by
 refine F.okN sc_together (fun vs H Q E h => ?_) (fun cdv A outer s H vs Q E hr h => ?_)
 . obtain ⟨LP, LR, ts, us, bk, a, rfl, _⟩ := h; rfl
 . obtain ⟨LP, LR, ts, us, bk, a, rfl, pe, pa, ok, la, k⟩ := h
   have nd := sc_together.nd
   have n60 := ok.n60
   have pl := ok.pl
   have ul := pa.len
   have tl := pe.len
   have big : 4000 <= sizeLine := by decide
   refine ⟨_, (pss_cons (ps_set (i := 3) nd rfl (Or.inl rfl) (pe_lst (pa_cons (pv 2) pa_nil)))
    (pss_cons (ps_set (i := 4) nd rfl (Or.inl rfl) pe_int)
    (pss_cons (ps_while PassesOwn.never (pt_cmpR op_lt (pv 4) (pe_callB call_len_seq rfl T.z_len PySem.boot_len (pa_cons (pv 3) pa_nil)) (nomark _)) (pss_cons (ps_set (i := 5) nd rfl (Or.inr rfl) (pe_ix ix_list (pv 3) (pv 4) (fun _ _ => rfl)))
    (pss_cons (ps_set (i := 4) nd rfl (Or.inl rfl) (pe_op op_add (pv 4) pe_int))
    (pss_cons (ps_setCompF (i := 6) nd rfl (Or.inl rfl) (fv := []) ⟨rfl, by decide +kernel, rfl, by decide +kernel, rfl, by decide +kernel, trivial, rfl, rfl⟩ rfl (pi_tup (pe_slice sl_tup (pe_ix ix_list (pv 0) (pv 5) (fun _ _ => rfl)) (po_some pe_int) po_none)) (fun _ _ _ => (pv 0)) (fun _ _ _ => (pt_cmpR op_notN (pv 0) pe_non (nomark _))))
    (pss_cons (ps_set (i := 6) nd rfl (Or.inl rfl) (pe_op op_cat (pv 6) (pe_compF (fv := [("here", 5), ("people", 0)]) ⟨rfl, by decide +kernel, rfl, by decide +kernel, rfl, by decide +kernel, ⟨⟨rfl, Or.inl rfl, Or.inl rfl, rfl⟩, ⟨⟨rfl, Or.inl rfl, Or.inl rfl, rfl⟩, trivial⟩⟩, rfl, rfl⟩ rfl (pi_range1 rfl T.z_range (pa_cons (pe_callB call_len_seq rfl T.z_len PySem.boot_len (pa_cons (pv 0) pa_nil)) pa_nil)) (fun _ _ _ => (pv 0)) (fun _ _ _ => (pt_cmpR op_in_seq (pv 1) (pe_slice sl_tup (pe_ix ix_list (pv 2) (pv 0) (fun _ _ => rfl)) (po_some pe_int) po_none) (by with_unfolding_all rfl))))))
    (pss_cons (ps_for PassesOwn.never rfl (pi_list (pv 1)) (pg_name (i := 7) nd rfl (Or.inl rfl)) (pss_one (ps_if (pt_cmpR op_in_seq (pv 5) (pv 7) (by with_unfolding_all rfl)) (pss_one (ps_set (i := 6) nd rfl (Or.inl rfl) (pe_op op_cat (pv 6) (pe_callTy call_list_of rfl T.z_list bt_list (pa_cons (pv 7) pa_nil))))) pss_nil)))
    (pss_one (ps_for PassesOwn.never rfl (pi_list (pv 6)) (pg_name (i := 8) nd rfl (Or.inl rfl)) (pss_one (ps_if (pt_cmpR op_notIn_seq (pv 8) (pv 3) (by with_unfolding_all rfl)) (pss_one (ps_expr (pe_bm PySem.F.plainAttrs_list PySem.F.slot_list_append PySem.F.type_list_append mt_append (pv 3) (pa_cons (pv 8) pa_nil)))) pss_nil))))))))))
    (pss_one (ps_ret (pe_callB call_sorted rfl T.z_sorted bt_sorted (pa_cons (pv 3) pa_nil))))))), ?_⟩
   refine ⟨_, rfl, one_fits, fun Df hDf => ?_⟩
   have s1 : Same H (upd H Df (.lst [nat a])) := same_new hDf
   have g1 : (upd H Df (.lst [nat a])) Df = some (.lst (natL [a])) := upd_same
   generalize upd H Df (.lst [nat a]) = H1 at s1 g1
   walk_at "ns"
   walk_at "ns"
   refine ⟨fun m σ G => ∃ xs at' o5 o6 o7 o8, m = bk.ps.length - at' /\ σ = [some (.ref LP), some (.ref LR), some (nat a), some (.ref Df), some (nat at'), o5, o6, o7, o8] /\ Same H G /\ G Df = some (.lst (natL xs)) /\ at' <= xs.length /\ xs.Nodup /\ a ∈ xs /\ (∀ b ∈ xs, Hang bk a b) /\ ∀ j b, j < at' -> xs[j]? = some b -> ∀ b', Nb bk b b' -> b' ∈ xs,
    ⟨_, [a], 0, none, none, none, none, rfl, rfl, s1, g1, Nat.zero_le _, List.nodup_cons.mpr ⟨fun z => (by cases z), List.nodup_nil⟩, List.mem_singleton.mpr rfl, fun b hb => by rw [List.mem_singleton.mp hb]; exact .here, fun j b z => absurd z (Nat.not_lt_zero _)⟩, ?_⟩
   rintro m σ G ⟨xs, at', o5, o6, o7, o8, rfl, rfl, sG, gf, lx, nx, ax, sx, cx⟩
   have xl : xs.length <= bk.ps.length := nodup_len _ _ nx fun b hb => (sx b hb).lt ok la
   refine ⟨_, rfl, _, rfl, Df, _, rfl, .inl (SqL.of gf), _, _, rfl, rfl, _, rfl, ?_⟩
   rw [natL_len]
   refine iteD2 (fun hlt => ?_) (fun hge => ?_)
   . have hlt : at' < xs.length := by omega
     have hh : xs[at']? = some xs[at'] := List.getElem?_eq_getElem hlt
     generalize xs[at'] = here at hh
     have lh := (sx here (List.mem_of_getElem? hh)).lt ok la
     have hx : bk.ps[here]? = some bk.ps[here] := List.getElem?_eq_getElem lh
     generalize bk.ps[here] = x at hx
     refine ⟨fun σ' G' => ∃ m', m' < bk.ps.length - at' /\ ∃ xs at' o5 o6 o7 o8, m' = bk.ps.length - at' /\ σ' = [some (.ref LP), some (.ref LR), some (nat a), some (.ref Df), some (nat at'), o5, o6, o7, o8] /\ Same H G' /\ G' Df = some (.lst (natL xs)) /\ at' <= xs.length /\ xs.Nodup /\ a ∈ xs /\ (∀ b ∈ xs, Hang bk a b) /\ ∀ j b, j < at' -> xs[j]? = some b -> ∀ b', Nb bk b b' -> b' ∈ xs, fun σ' G' h => h, ?_⟩
     refine ⟨_, rfl, _, rfl, Df, _, _, _, rfl, rfl, SqL.of gf, atI_nat (natL_get hh), ?_⟩
     walk_at "ns"
     refine ⟨_, rfl, _, _, rfl, rfl, ?_⟩
     walk_at "ns"
     obtain ⟨t, ht, att, gt⟩ := (pe.same sG).at_ hx
     refine ⟨_, rfl, _, rfl, LP, _, _, _, rfl, rfl, SqL.of (pe.same sG).l, att, _, rfl, t, _, rfl, SqT.of gt, ?_, fun t2 ht2 => ?_⟩
     . rintro ⟨z, _⟩; exact absurd z (show ¬ HT.sIx 3 0 (some 1) = 0 by decide)
     rw [cut1]
     have s2 : Same G (upd G t2 (.tup [faV x, moV x])) := same_new ht2
     have g2 : (upd G t2 (.tup [faV x, moV x])) t2 = some (.tup [faV x, moV x]) := upd_same
     generalize upd G t2 (.tup [faV x, moV x]) = G2 at s2 g2
     refine ⟨t2, rfl, ⟨_, SqT.of g2⟩, ?_⟩
     refine comp_tupF (fun j => match [faV x, moV x][j]? with
      | some v => !decide (v = V.non)
      | none => false) (fun j => match [faV x, moV x][j]? with
      | some v => v
      | none => V.non) g2 (show 2 <= sizeLine by omega) (fun j v H' R hj sm kk _ _ _ => ?_) (fun j v H' R hj pj sm kk _ _ _ => ?_) fun D1 G3 hD1 s3 g3 => ?_
     . rw [hj] at kk
       exact ⟨_, rfl, rfl, _, rfl, kk _ (Same.refl _)⟩
     . rw [hj] at kk
       exact ⟨_, rfl, kk _ (Same.refl _)⟩
     rw [par_list] at g3
     have sG3 := sG.trans (s2.trans s3)
     walk_at "ns"
     have pe3 := pe.same sG3
     refine ⟨_, rfl, _, rfl, LP, _, rfl, .inl (SqL.of pe3.l), _, rfl, by rw [List.length_map]; omega, by rw [List.length_map]; omega, ?_⟩
     rw [List.length_map, tl, Int.toNat_natCast]
     refine comp_rangeF0 (isKid bk here) nat (by omega) (fun i H' R hi sm kk _ _ _ => ?_) (fun i H' R hi pi sm kk _ _ _ => ⟨_, rfl, kk _ (Same.refl _)⟩) fun D2 G4 hD2 s4 g4 => ?_
     . have hy : bk.ps[i]? = some bk.ps[i] := List.getElem?_eq_getElem hi
       generalize bk.ps[i] = y at hy
       obtain ⟨ty, hty, aty, gty⟩ := (pe3.same sm).at_ hy
       rw [isKid_eq hy] at kk
       refine ⟨_, rfl, _, rfl, _, rfl, LP, _, _, _, rfl, rfl, SqL.of (pe3.same sm).l, aty, _, rfl, ty, _, rfl, SqT.of gty, ?_, fun t3 ht3 => ?_⟩
       . rintro ⟨z, _⟩; exact absurd z (show ¬ HT.sIx 3 0 (some 1) = 0 by decide)
       rw [cut1]
       exact ⟨t3, _, rfl, .inr (SqT.of upd_same), rfl, par_flat y, _, rfl, kk _ (same_new ht3)⟩
     have g4 : G4 D2 = some (.lst (natL ((List.range bk.ps.length).filter (isKid bk here)))) := g4
     have kl : ((List.range bk.ps.length).filter (isKid bk here)).length <= bk.ps.length := Nat.le_trans (List.length_filter_le _ _) (by rw [List.length_range]; exact Nat.le_refl _)
     have pl2 : (parL x).length <= 2 := by unfold parL; cases x.2 <;> simp
     refine ⟨D1, D2, _, _, rfl, rfl, s4 _ _ g3, g4, by rw [natL_len, natL_len]; omega, fun D3 hD3 => ?_⟩
     rw [show natL (parL x) ++ natL ((List.range bk.ps.length).filter (isKid bk here)) = natL (parL x ++ (List.range bk.ps.length).filter (isKid bk here)) by unfold natL; rw [List.map_append]]
     generalize hnr : parL x ++ (List.range bk.ps.length).filter (isKid bk here) = nr0
     have nl0 : nr0.length <= 62 := by rw [<- hnr, List.length_append]; omega
     have par0 : ∀ q, x.2 = some q -> q.1 ∈ nr0 /\ q.2 ∈ nr0 := fun q e => by
      have : parL x = [q.1, q.2] := by unfold parL; rw [e]
      rw [<- hnr, this]
      exact ⟨by simp, by simp⟩
     have kid0 : ∀ b y q, bk.ps[b]? = some y -> y.2 = some q -> (here = q.1 \/ here = q.2) -> b ∈ nr0 := fun b y q hy e o => by
      rw [<- hnr]
      refine List.mem_append_right _ (List.mem_filter.mpr ⟨List.mem_range.mpr (List.getElem?_eq_some_iff.mp hy).1, ?_⟩)
      rw [isKid_eq hy]
      exact (inV_par here y).mpr ⟨q, e, o⟩
     have snd0 : NbL bk here nr0 := fun b hb => by
      rw [<- hnr] at hb
      rcases List.mem_append.mp hb with z | z
      . refine .inl ?_
        cases e : x.2 with
        | none => unfold parL at z; rw [e] at z; cases z
        | some q =>
          unfold parL at z; rw [e] at z
          refine .inr (.inr (.inr ⟨x, q, hx, e, ?_⟩))
          simpa using z
      . obtain ⟨z1, z2⟩ := List.mem_filter.mp z
        have lb : b < bk.ps.length := List.mem_range.mp z1
        have hy : bk.ps[b]? = some bk.ps[b] := List.getElem?_eq_getElem lb
        rw [isKid_eq hy] at z2
        obtain ⟨q, e, o⟩ := (inV_par here _).mp z2
        exact .inl (.inr (.inr (.inl ⟨_, q, hy, e, o⟩)))
     have s5 : Same G (upd G4 D3 (.lst (natL nr0))) := (s2.trans (s3.trans s4)).trans (same_new hD3)
     have g5 : (upd G4 D3 (.lst (natL nr0))) D3 = some (.lst (natL nr0)) := upd_same
     have f5 : G D3 = none := (s2.trans (s3.trans s4)).free hD3
     generalize upd G4 D3 (.lst (natL nr0)) = G5 at s5 g5
     have sG5 := sG.trans s5
     have pa5 := pa.same sG5
     walk_at "ns"
     refine ⟨_, rfl, LR, rfl, ⟨_, SqL.of pa5.l⟩, for_list (xs := us.map V.ref) (fun j σ G6 => ∃ nr Dn o7, σ = [some (.ref LP), some (.ref LR), some (nat a), some (.ref Df), some (nat (at' + 1)), some (nat here), some (.ref Dn), o7, o8] /\ Same G G6 /\ G Dn = none /\ G6 Dn = some (.lst (natL nr)) /\ NbL bk here nr /\ (∀ b ∈ nr0, b ∈ nr) /\ (∀ q ∈ bk.prs.take j, (here = q.1 \/ here = q.2) -> q.1 ∈ nr /\ q.2 ∈ nr) /\ nr.length <= 62 + 2 * j) ⟨nr0, D3, _, rfl, s5, f5, g5, snd0, fun b hb => hb, fun q z => (by simp at z), nl0⟩ (fun m σ G6 _ ⟨_, _, _, _, s6, _⟩ => SqL.of ((sG.trans s6) _ _ pa.l)) ?_ ?_⟩
     . rintro j v σ G6 hj ⟨nr, Dn, o7', rfl, s6, fn, gn, snd, sub, cpl, nl⟩
       obtain ⟨u, q, rfl, hq, gu⟩ := pr_at (pa.same (sG.trans s6)) hj
       have inq := List.mem_of_getElem? hq
       have jl : j < bk.prs.length := (List.getElem?_eq_some_iff.mp hq).1
       have tk : ∀ r, r ∈ bk.prs.take (j + 1) -> r ∈ bk.prs.take j \/ r = q := fun r hr => by
        rw [List.take_add_one, hq] at hr
        rcases List.mem_append.mp hr with z | z
        . exact .inl z
        . exact .inr (by simpa using z)
       walk_at "ns"
       refine ⟨_, rfl, _, rfl, u, _, rfl, .inr (SqT.of gu), rfl, rfl, _, rfl, ?_⟩
       show if inV (nat here) (prT q) = true then _ else _
       rw [inV_two]
       refine iteD2 (fun hin => ?_) (fun hno => ?_)
       . refine ⟨_, rfl, _, rfl, u, _, rfl, .inr (SqT.of gu), fun l1 h1 => ?_⟩
         refine ⟨Dn, l1, _, _, rfl, rfl, same_new h1 _ _ gn, upd_same, by rw [natL_len]; show nr.length + 2 <= sizeLine; omega, fun D7 hD7 => ?_⟩
         rw [show natL nr ++ prT q = natL (nr ++ [q.1, q.2]) by unfold natL; rw [List.map_append]; rfl]
         have s7 := s6.trans ((same_new (o := .lst (prT q)) h1).trans (same_new (o := .lst (natL (nr ++ [q.1, q.2]))) hD7))
         refine ⟨nr ++ [q.1, q.2], D7, _, rfl, s7, (s6.trans (same_new (o := .lst (prT q)) h1)).free hD7, upd_same, fun b hb => ?_, fun b hb => List.mem_append_left _ (sub b hb), fun r hr o => ?_, by rw [List.length_append]; show nr.length + 2 <= _; omega⟩
         . rcases List.mem_append.mp hb with z | z
           . exact snd b z
           . simp only [List.mem_cons, List.not_mem_nil, or_false] at z
             rcases z with rfl | rfl
             . rcases hin with e | e
               . exact .inr e.symm
               . exact .inl (.inr (.inl (by rw [e]; exact inq)))
             . rcases hin with e | e
               . exact .inl (.inl (by rw [e]; exact inq))
               . exact .inr e.symm
         . rcases tk r hr with z | rfl
           . exact ⟨List.mem_append_left _ (cpl r z o).1, List.mem_append_left _ (cpl r z o).2⟩
           . exact ⟨by simp, by simp⟩
       . refine ⟨nr, Dn, _, rfl, s6, fn, gn, snd, sub, fun r hr o => ?_, by omega⟩
         rcases tk r hr with z | rfl
         . exact cpl r z o
         . exact absurd o hno
     rintro σ G6 ⟨nr, Dn, o7', rfl, s6, fn, gn, snd, sub, cpl, nl⟩
     rw [List.length_map, ul, List.take_length] at cpl
     rw [List.length_map, ul] at nl
     have nDf : Dn ≠ Df := fun z => by rw [z, gf] at fn; cases fn
     have full : ∀ b, Nb bk here b -> b ∈ nr := fun b N => by
      rcases N with z | z | ⟨y, q, hy, e, o⟩ | ⟨x', q, hx', e, o⟩
      . exact (cpl _ z (.inl rfl)).2
      . exact (cpl _ z (.inr rfl)).1
      . exact sub b (kid0 b y q hy e o)
      . rw [hx] at hx'
        cases Option.some.inj hx'
        rcases o with rfl | rfl
        . exact sub _ (par0 q e).1
        . exact sub _ (par0 q e).2
     walk_at "ns"
     refine ⟨_, rfl, Dn, rfl, ⟨_, SqL.of gn⟩, for_list (xs := natL nr) (fun j σ G7 => ∃ ys o8, σ = [some (.ref LP), some (.ref LR), some (nat a), some (.ref Df), some (nat (at' + 1)), some (nat here), some (.ref Dn), o7', o8] /\ (∀ c o, G6 c = some o -> c ≠ Df -> G7 c = some o) /\ G7 Df = some (.lst (natL ys)) /\ ys.Nodup /\ (∀ b ∈ ys, Hang bk a b) /\ (∃ r, ys = xs ++ r) /\ ∀ b ∈ nr.take j, b ∈ ys) ⟨xs, _, rfl, fun c o h _ => h, s6 _ _ gf, nx, sx, ⟨[], (List.append_nil _).symm⟩, fun b z => by simp at z⟩ (fun m σ G7 _ ⟨_, _, _, kp, _⟩ => SqL.of (kp _ _ gn nDf)) ?_ ?_⟩
     . rintro j v σ G7 hj ⟨ys, o8', rfl, kp, gy, ny, sy, ⟨r, er⟩, iy⟩
       obtain ⟨b, hb, rfl⟩ : ∃ t, nr[j]? = some t /\ v = nat t := by
        unfold natL at hj
        rw [List.getElem?_map] at hj
        obtain ⟨t, ht, rfl⟩ := Option.map_eq_some_iff.mp hj
        exact ⟨t, ht, rfl⟩
       have tk : ∀ d, d ∈ nr.take (j + 1) -> d ∈ nr.take j \/ d = b := fun d hd => by
        rw [List.take_add_one, hb] at hd
        rcases List.mem_append.mp hd with z | z
        . exact .inl z
        . exact .inr (by simpa using z)
       have hgb : Hang bk a b := by
        rcases snd b (List.mem_of_getElem? hb) with z | z
        . exact .on (sx here (List.mem_of_getElem? hh)) z
        . rw [z]; exact sx here (List.mem_of_getElem? hh)
       have yl : ys.length <= bk.ps.length := nodup_len _ _ ny fun b hb => (sy b hb).lt ok la
       walk_at "ns"
       refine ⟨_, rfl, _, rfl, Df, _, rfl, .inl (SqL.of gy), rfl, natL_flat _, _, rfl, ?_⟩
       show if (!inV (nat b) (natL ys)) = true then _ else _
       rw [inV_natL]
       by_cases q : b ∈ ys
       . rw [decide_eq_true q]
         refine iteF ⟨ys, _, rfl, kp, gy, ny, sy, ⟨r, er⟩, fun d hd => ?_⟩
         rcases tk d hd with z | rfl
         . exact iy d z
         . exact q
       . rw [decide_eq_false q]
         refine iteT ⟨_, rfl, .inl ⟨rfl, _, SqL.of gy⟩, _, rfl, Df, _, _, rfl, rfl, gy, by rw [natL_len]; omega, ?_⟩
         rw [natLs]
         refine ⟨ys ++ [b], _, rfl, fun c o hc nc => by rw [upd_ne nc]; exact kp c o hc nc, upd_same, nsnoc ny q, fun d hd => ?_, ⟨r ++ [b], by rw [er, List.append_assoc]⟩, fun d hd => ?_⟩
         . rcases List.mem_append.mp hd with z | z
           . exact sy d z
           . rw [List.mem_singleton.mp z]; exact hgb
         . rcases tk d hd with z | rfl
           . exact List.mem_append_left _ (iy d z)
           . exact List.mem_append_right _ (List.mem_singleton.mpr rfl)
     rintro σ G7 ⟨ys, o8', rfl, kp, gy, ny, sy, ⟨r, er⟩, iy⟩
     rw [natL_len, List.take_length] at iy
     have s7 : Same H G7 := fun c o hc => kp c o ((sG.trans s6) _ _ hc) (fun z => by rw [z, hDf] at hc; cases hc)
     refine ⟨_, ?_, ys, at' + 1, _, _, _, _, rfl, rfl, s7, gy, ?_, ny, ?_, sy, fun j b hj hb b' N => ?_⟩
     . omega
     . rw [er, List.length_append]; omega
     . rw [er]; exact List.mem_append_left _ ax
     . rcases Nat.lt_or_ge j at' with z | z
       . have hb' : xs[j]? = some b := by rw [er, List.getElem?_append_left (by omega)] at hb; exact hb
         rw [er]; exact List.mem_append_left _ (cx j b z hb' b' N)
       . have : j = at' := by omega
         subst this
         have hb' : xs[j]? = some b := by rw [er, List.getElem?_append_left (by omega)] at hb; exact hb
         rw [hh] at hb'
         cases Option.some.inj hb'
         exact iy b' (full b' N)
   . have ea : at' = xs.length := by omega
     have all : ∀ b, b ∈ xs ↔ Hang bk a b := fun b => ⟨sx b, fun hg => by
      induction hg with
      | here => exact ax
      | on _ N ih =>
        obtain ⟨j, hj⟩ := List.getElem?_of_mem ih
        exact cx j _ (by rw [ea]; exact (List.getElem?_eq_some_iff.mp hj).1) hj _ N⟩
     refine ⟨_, rfl, Df, intL xs, rfl, by rw [<- natL_intL]; exact SqL.of gf, by rw [intL_len]; omega, fun R1 ns hR1 hp hs => ?_⟩
     obtain ⟨r, er, pr, sr⟩ := toNats hp hs
     rw [er]
     exact k R1 r _ (sG.free hR1) (sG.trans (same_new hR1)) upd_same (fun b => by rw [pr.mem_iff]; exact all b) (pr.nodup_iff.mpr nx)
end
structure NearOk (w h : List Nat) (bk : Bk) (a c : Nat) (L : List (Nat × Nat)) : Prop where
 snd : ∀ q ∈ L, Adj w h bk a c q.1 q.2 \/ q = (a, c)
 all : ∀ b k, Adj w h bk a c b k -> (b, k) ∈ L
def spLNear : Sp := fun vs H Q _ => ∃ (LP LR D1 D2 : Addr) (ts us : List Addr) (bk : Bk) (n : Nat) (w h : List Nat) (a c : Nat), vs = [.ref LP, .ref LR, .ref D1, .ref D2, nat a, nat c] /\ PeopleAt H LP ts bk.ps /\ PairsAt H LR us bk.prs /\ BkOk bk /\ H D1 = some (.lst (natL w)) /\ H D2 = some (.lst (natL h)) /\ IsTurn n w /\ IsTurn n h /\ a < bk.ps.length /\ c < n /\
 ∀ D rs (L : List (Nat × Nat)) H', H D = none -> Same H H' -> H' D = some (.lst (rs.map V.ref)) -> TsAt H' rs (L.map prT) -> NearOk w h bk a c L -> L.length <= 2100 -> Q (.ref D) H'
def grm (w : List Nat) (s : Bool) (c : Nat) : Nat := if s then c else bw w c
section
variable {n : Nat} {w h : List Nat} {bk : Bk} {a c : Nat} {x : Per}
theorem grm_lt (tw : IsTurn n w) (hc : c < n) {s : Bool} : grm w s c < n := by
 unfold grm
 split
 . exact hc
 . exact bw_lt tw hc
theorem near_pr (ok : BkOk bk) (tw : IsTurn n w) (hc : c < n) (hx : bk.ps[a]? = some x) {q : Nat × Nat} (hq : q ∈ bk.prs) (o : a = q.1 \/ a = q.2) :
 (Adj w h bk a c q.1 (grm w x.1 c) \/ (q.1, grm w x.1 c) = (a, c)) /\ (Adj w h bk a c q.2 (fw w (grm w x.1 c)) \/ (q.2, fw w (grm w x.1 c)) = (a, c)) := by
 obtain ⟨m, f⟩ := q
 rcases o with o | o
 . have o : a = m := o
   subst o
   have e : grm w x.1 c = c := by unfold grm; rw [ok.man hq hx]; rfl
   rw [e]
   exact ⟨.inr rfl, .inl (.wi hq)⟩
 . have o : a = f := o
   subst o
   have e : grm w x.1 c = bw w c := by unfold grm; rw [ok.woman hq hx]; rfl
   rw [e, fw_bw tw hc]
   exact ⟨.inl (.hu hq), .inr rfl⟩
theorem near_ch (ok : BkOk bk) (hx : bk.ps[a]? = some x) {b : Nat} {y : Per} {q : Nat × Nat} (hy : bk.ps[b]? = some y) (e : y.2 = some q) (o : a = q.1 \/ a = q.2) : Adj w h bk a c b (fw h (grm w x.1 c)) := by
 obtain ⟨m, f⟩ := q
 have inp := (ok.par y (List.mem_of_getElem? hy) _ e).2.2
 rcases o with o | o
 . have o : a = m := o
   subst o
   have e' : grm w x.1 c = c := by unfold grm; rw [ok.man inp hx]; rfl
   rw [e']; exact .kf hy e
 . have o : a = f := o
   subst o
   have e' : grm w x.1 c = bw w c := by unfold grm; rw [ok.woman inp hx]; rfl
   rw [e']; exact .km hy e
theorem near_all (ok : BkOk bk) (hx : bk.ps[a]? = some x) {L : List (Nat × Nat)} (pr : ∀ q ∈ bk.prs, (a = q.1 \/ a = q.2) -> (q.1, grm w x.1 c) ∈ L /\ (q.2, fw w (grm w x.1 c)) ∈ L)
 (ch : ∀ b y q, bk.ps[b]? = some y -> y.2 = some q -> (a = q.1 \/ a = q.2) -> (b, fw h (grm w x.1 c)) ∈ L) (pa : ∀ q, x.2 = some q -> (q.1, bw h c) ∈ L /\ (q.2, fw w (bw h c)) ∈ L) {b k : Nat} (A : Adj w h bk a c b k) : (b, k) ∈ L := by
 cases A with
 | wi hq =>
   have e : grm w x.1 c = c := by unfold grm; rw [ok.man hq hx]; rfl
   have := (pr _ hq (.inl rfl)).2
   rw [e] at this; exact this
 | hu hq =>
   have e : grm w x.1 c = bw w c := by unfold grm; rw [ok.woman hq hx]; rfl
   have := (pr _ hq (.inr rfl)).1
   rw [e] at this; exact this
 | kf hy e =>
   have inp := (ok.par _ (List.mem_of_getElem? hy) _ e).2.2
   have e' : grm w x.1 c = c := by unfold grm; rw [ok.man inp hx]; rfl
   have := ch _ _ _ hy e (.inl rfl)
   rw [e'] at this; exact this
 | km hy e =>
   have inp := (ok.par _ (List.mem_of_getElem? hy) _ e).2.2
   have e' : grm w x.1 c = bw w c := by unfold grm; rw [ok.woman inp hx]; rfl
   have := ch _ _ _ hy e (.inr rfl)
   rw [e'] at this; exact this
 | fa hy e =>
   rw [hx] at hy; cases Option.some.inj hy
   exact (pa _ e).1
 | mo hy e =>
   rw [hx] at hy; cases Option.some.inj hy
   exact (pa _ e).2
end
section
variable {P : Program} {w : World} {K : W.Frag} {mg : Str -> Option Value} {base : Heap} {CX : CXT} {C : Addr} {e : Ad}
theorem two_app {H : Hp} {rs : List Addr} {L : List (Nat × Nat)} (h : TsAt H rs (L.map prT)) {t1 t2 : Addr} {q1 q2 : Nat × Nat} (h1 : H t1 = some (.tup (prT q1))) (h2 : H t2 = some (.tup (prT q2))) : TsAt H (rs ++ [t1, t2]) ((L ++ [q1, q2]).map prT) := by
 have z := (h.snoc h1).snoc h2
 rw [List.append_assoc, List.append_assoc] at z
 rw [List.map_append]
 exact z
theorem if_join {b : Bool} {A B : TE} {σ : St} {H : Hp} {K : VK} {v : V} (h1 : b = true -> ∀ K : VK, K v H -> A σ H K) (h2 : b = false -> ∀ K : VK, K v H -> B σ H K) (k : K v H) : if b = true then A σ H K else B σ H K := by
 cases b with
 | true => rw [if_pos rfl]; exact h1 rfl K k
 | false => rw [if_neg Bool.false_ne_true]; exact h2 rfl K k
theorem sc_lnear : FnScope ["people", "pairs", "wives", "heirs", "a", "c", "groom", "found", "two", "b", "elder"] ["people", "pairs", "wives", "heirs", "a", "c"] (defScope (top 47)) := mkSc
theorem ok_lnear {f : Addr} {fd : FuncData} (F : Fun K "_law_near" "_law_near" (top 47) f fd) (T : Txt K mg C e) : FnOk P w K mg base CX 1 f fd ["people", "pairs", "wives", "heirs", "a", "c"] spLNear := by
 refine F.okN sc_lnear (fun vs H Q E h => ?_) (fun cdv A outer s H vs Q E hr h => ?_)
 . obtain ⟨LP, LR, D1, D2, ts, us, bk, n, w, h, a, c, rfl, _⟩ := h; rfl
 . obtain ⟨LP, LR, D1, D2, ts, us, bk, n, w', h', a, c, rfl, pe, pa, ok, g1, g2, tw, th, la, lc, k⟩ := h
   have nd := sc_lnear.nd
   have n60 := ok.n60
   have pl := ok.pl
   have ul := pa.len
   have tl := pe.len
   have big : 4000 <= sizeLine := by decide
   have hx : bk.ps[a]? = some bk.ps[a] := List.getElem?_eq_getElem la
   generalize bk.ps[a] = x at hx
   obtain ⟨t, ht, att, gt⟩ := pe.at_ hx
   have lg := grm_lt tw lc (s := x.1)
   have ix : ∀ {G : Hp} {D : Addr} {u : List Nat}, IsTurn n u -> G D = some (.lst (natL u)) -> SqL K G D ((intL u).map V.int) /\ (c : Int) ∈ intL u := fun {G D u} tu g => ⟨by rw [<- natL_intL]; exact SqL.of g, List.mem_map_of_mem (tu.mem.mpr lc)⟩
   refine ⟨_, (pss_cons (ps_set (i := 6) nd rfl (Or.inl rfl) (pe_ifExp (pt_cmpR op_eq (pe_ix ix_tup (pe_ix ix_list (pv 0) (pv 4) (fun _ _ => rfl)) pe_int (fun _ _ => rfl)) pe_str (nomark _)) (pv 5) (pe_bm PySem.F.plainAttrs_list PySem.F.slot_list_index PySem.F.type_list_index mt_index (pv 2) (pa_cons (pv 5) pa_nil))))
    (pss_cons (ps_set (i := 7) nd rfl (Or.inl rfl) (pe_lst pa_nil))
    (pss_cons (ps_for PassesOwn.never rfl (pi_list (pv 1)) (pg_name (i := 8) nd rfl (Or.inl rfl)) (pss_one (ps_if (pt_cmpR op_in_seq (pv 4) (pv 8) (by with_unfolding_all rfl)) (pss_one (ps_set (i := 7) nd rfl (Or.inl rfl) (pe_op op_cat (pv 7) (pe_lst (pa_cons (pe_tup (pa_cons (pe_ix ix_tup (pv 8) pe_int (fun _ _ => rfl)) (pa_cons (pv 6) pa_nil))) (pa_cons (pe_tup (pa_cons (pe_ix ix_tup (pv 8) pe_int (fun _ _ => rfl)) (pa_cons (pe_ix ix_list (pv 2) (pv 6) (fun _ _ => rfl)) pa_nil))) pa_nil)))))) pss_nil)))
    (pss_cons (ps_for PassesOwn.never rfl (pi_range1 rfl T.z_range (pa_cons (pe_callB call_len_seq rfl T.z_len PySem.boot_len (pa_cons (pv 0) pa_nil)) pa_nil)) (pg_name (i := 9) nd rfl (Or.inl rfl)) (pss_one (ps_if (pt_cmpR op_in_seq (pv 4) (pe_slice sl_tup (pe_ix ix_list (pv 0) (pv 9) (fun _ _ => rfl)) (po_some pe_int) po_none) (by with_unfolding_all rfl)) (pss_one (ps_expr (pe_bm PySem.F.plainAttrs_list PySem.F.slot_list_append PySem.F.type_list_append mt_append (pv 7) (pa_cons (pe_tup (pa_cons (pv 9) (pa_cons (pe_ix ix_list (pv 3) (pv 6) (fun _ _ => rfl)) pa_nil))) pa_nil)))) pss_nil)))
    (pss_cons (ps_if (pt_cmpR op_notN (pe_ix ix_tup (pe_ix ix_list (pv 0) (pv 4) (fun _ _ => rfl)) pe_int (fun _ _ => rfl)) pe_non (nomark _)) (pss_cons (ps_set (i := 10) nd rfl (Or.inl rfl) (pe_bm PySem.F.plainAttrs_list PySem.F.slot_list_index PySem.F.type_list_index mt_index (pv 3) (pa_cons (pv 5) pa_nil)))
    (pss_one (ps_set (i := 7) nd rfl (Or.inl rfl) (pe_op op_cat (pv 7) (pe_lst (pa_cons (pe_tup (pa_cons (pe_ix ix_tup (pe_ix ix_list (pv 0) (pv 4) (fun _ _ => rfl)) pe_int (fun _ _ => rfl)) (pa_cons (pv 10) pa_nil))) (pa_cons (pe_tup (pa_cons (pe_ix ix_tup (pe_ix ix_list (pv 0) (pv 4) (fun _ _ => rfl)) pe_int (fun _ _ => rfl)) (pa_cons (pe_ix ix_list (pv 2) (pv 10) (fun _ _ => rfl)) pa_nil))) pa_nil))))))) pss_nil)
    (pss_one (ps_ret (pv 7)))))))), ?_⟩
   refine ⟨_, rfl, _, rfl, LP, _, _, _, rfl, rfl, SqL.of pe.l, att, t, _, 0, _, rfl, rfl, SqT.of gt, rfl, rfl, _, rfl, if_join (v := nat (grm w' x.1 c)) (fun q K' kk => ⟨_, rfl, ?_⟩) (fun q K' kk => ⟨_, rfl, .inl ⟨rfl, _, SqL.of g1⟩, _, rfl, D1, intL w', (c : Int), rfl, rfl, (ix tw g1).1, (ix tw g1).2, ?_⟩) ?_⟩
   . rw [sex_man] at q
     unfold grm at kk; rw [q] at kk; exact kk
   . rw [sex_man] at q
     rw [idx_intL]
     unfold grm at kk; rw [q] at kk; exact kk
   generalize hgr : grm w' x.1 c = g at lg
   walk_at "ns"
   refine ⟨by decide, fun Df0 hDf0 => ?_⟩
   have s0 := same_new (o := .lst []) hDf0
   have f0 : (upd H Df0 (.lst [])) Df0 = some (.lst (([] : List Addr).map V.ref)) := upd_same
   generalize upd H Df0 (.lst []) = H0 at s0 f0
   walk_at "ns"
   refine ⟨_, rfl, LR, rfl, ⟨_, SqL.of (s0 _ _ pa.l)⟩, for_list (xs := us.map V.ref) (fun j σ G => ∃ (L : List (Nat × Nat)) (rs : List Addr) (Df : Addr) (o8 : Option V), σ = [some (.ref LP), some (.ref LR), some (.ref D1), some (.ref D2), some (nat a), some (nat c), some (nat g), some (.ref Df), o8, none, none] /\ Same H G /\ H Df = none /\ G Df = some (.lst (rs.map V.ref)) /\ TsAt G rs (L.map prT) /\ (∀ q ∈ L, Adj w' h' bk a c q.1 q.2 \/ q = (a, c)) /\ (∀ q ∈ bk.prs.take j, (a = q.1 \/ a = q.2) -> (q.1, g) ∈ L /\ (q.2, fw w' g) ∈ L) /\ L.length <= 2 * j) ⟨[], [], Df0, none, rfl, s0, hDf0, f0, TsAt.nil, fun q z => (by cases z), fun q z => (by simp at z), Nat.le_refl _⟩ (fun m σ G _ ⟨_, _, _, _, _, sG, _⟩ => SqL.of (sG _ _ pa.l)) ?_ ?_⟩
   . rintro j v σ G hj ⟨L, rs, Df, o8, rfl, sG, hDf, gf, tL, snd, cpl, ll⟩
     obtain ⟨u, q, rfl, hq, gu⟩ := pr_at (pa.same sG) hj
     have inq := List.mem_of_getElem? hq
     have jl : j < bk.prs.length := (List.getElem?_eq_some_iff.mp hq).1
     have rl := tL.len
     rw [List.length_map] at rl
     have tk : ∀ r, r ∈ bk.prs.take (j + 1) -> r ∈ bk.prs.take j \/ r = q := fun r hr => by
      rw [List.take_add_one, hq] at hr
      rcases List.mem_append.mp hr with z | z
      . exact .inl z
      . exact .inr (by simpa using z)
     walk_at "ns"
     refine ⟨_, rfl, _, rfl, u, _, rfl, .inr (SqT.of gu), rfl, rfl, _, rfl, ?_⟩
     show if inV (nat a) (prT q) = true then _ else _
     rw [inV_two]
     refine iteD2 (fun hin => ?_) (fun hno => ?_)
     . refine ⟨_, rfl, _, rfl, u, _, 0, _, rfl, rfl, SqT.of gu, rfl, _, rfl, two_fits, fun t1 h1 => ?_⟩
       have s1 : Same G (upd G t1 (.tup [nat q.1, nat g])) := same_new h1
       have gt1 : (upd G t1 (.tup [nat q.1, nat g])) t1 = some (.tup (prT (q.1, g))) := upd_same
       generalize upd G t1 (.tup [nat q.1, nat g]) = G1 at s1 gt1
       refine ⟨_, rfl, u, _, 1, _, rfl, rfl, SqT.of (s1 _ _ gu), rfl, _, rfl, _, rfl, D1, _, _, _, rfl, rfl, SqL.of ((sG.trans s1) _ _ g1), atN tw lg, two_fits, fun t2 h2 => ?_⟩
       have s2 : Same G1 (upd G1 t2 (.tup [nat q.2, nat (fw w' g)])) := same_new h2
       have gt2 : (upd G1 t2 (.tup [nat q.2, nat (fw w' g)])) t2 = some (.tup (prT (q.2, fw w' g))) := upd_same
       generalize upd G1 t2 (.tup [nat q.2, nat (fw w' g)]) = G2 at s2 gt2
       refine ⟨two_fits, fun l hl => ?_⟩
       have s3 : Same G2 (upd G2 l (.lst [.ref t1, .ref t2])) := same_new hl
       have g3 : (upd G2 l (.lst [.ref t1, .ref t2])) l = some (.lst ([t1, t2].map V.ref)) := upd_same
       generalize upd G2 l (.lst [.ref t1, .ref t2]) = G3 at s3 g3
       have s13 := s1.trans (s2.trans s3)
       refine ⟨Df, l, _, _, rfl, rfl, s13 _ _ gf, g3, by rw [List.length_map, List.length_map]; show rs.length + 2 <= sizeLine; omega, fun D' hD' => ?_⟩
       rw [<- List.map_append]
       have s4 := same_new (o := .lst ((rs ++ [t1, t2]).map V.ref)) hD'
       have s14 := s13.trans s4
       refine ⟨L ++ [(q.1, g), (q.2, fw w' g)], rs ++ [t1, t2], D', _, rfl, sG.trans s14, (sG.trans s13).free hD', upd_same, two_app (tL.same s14) ((s2.trans (s3.trans s4)) _ _ gt1) ((s3.trans s4) _ _ gt2), fun r hr => ?_, fun r hr o => ?_, by rw [List.length_append]; show L.length + 2 <= _; omega⟩
       . have np := near_pr (h := h') ok tw lc hx inq hin
         rw [hgr] at np
         rcases List.mem_append.mp hr with z | z
         . exact snd r z
         . simp only [List.mem_cons, List.not_mem_nil, or_false] at z
           rcases z with rfl | rfl
           . exact np.1
           . exact np.2
       . rcases tk r hr with z | rfl
         . exact ⟨List.mem_append_left _ (cpl r z o).1, List.mem_append_left _ (cpl r z o).2⟩
         . exact ⟨by simp, by simp⟩
     . refine ⟨L, rs, Df, _, rfl, sG, hDf, gf, tL, snd, fun r hr o => ?_, by omega⟩
       rcases tk r hr with z | rfl
       . exact cpl r z o
       . exact absurd o hno
   rintro σ G ⟨L, rs, Df, o8, rfl, sG, hDf, gf, tL, snd, cpl, ll⟩
   rw [List.length_map, ul, List.take_length] at cpl
   rw [List.length_map, ul] at ll
   have peG := pe.same sG
   refine ⟨_, rfl, LP, _, rfl, .inl (SqL.of peG.l), _, rfl, by rw [List.length_map]; omega, by rw [List.length_map]; omega, ?_⟩
   rw [List.length_map, tl, Int.toNat_natCast]
   refine for_range0 (fun i σ G' => ∃ (L' : List (Nat × Nat)) (rs' : List Addr) (o9 : Option V), σ = [some (.ref LP), some (.ref LR), some (.ref D1), some (.ref D2), some (nat a), some (nat c), some (nat g), some (.ref Df), o8, o9, none] /\ Same H G' /\ G' Df = some (.lst (rs'.map V.ref)) /\ TsAt G' rs' (L'.map prT) /\ (∀ q ∈ L', Adj w' h' bk a c q.1 q.2 \/ q = (a, c)) /\ (∀ q ∈ L, q ∈ L') /\ (∀ b y q, b < i -> bk.ps[b]? = some y -> y.2 = some q -> (a = q.1 \/ a = q.2) -> (b, fw h' g) ∈ L') /\ L'.length <= 2000 + i) ⟨L, rs, none, rfl, sG, gf, tL, snd, fun q z => z, fun b y q z => absurd z (Nat.not_lt_zero _), by omega⟩ ?_ ?_
   . rintro i σ G' hi ⟨L', rs', o9, rfl, sG', gf', tL', snd', sub', chd, ll'⟩
     have hy : bk.ps[i]? = some bk.ps[i] := List.getElem?_eq_getElem hi
     generalize bk.ps[i] = y at hy
     have pe' := pe.same sG'
     obtain ⟨ty, hty, aty, gty⟩ := pe'.at_ hy
     have rl := tL'.len
     rw [List.length_map] at rl
     walk_at "ns"
     refine ⟨_, rfl, _, rfl, _, rfl, LP, _, _, _, rfl, rfl, SqL.of pe'.l, aty, _, rfl, ty, _, rfl, SqT.of gty, ?_, fun t3 ht3 => ?_⟩
     . rintro ⟨z, _⟩; exact absurd z (show ¬ HT.sIx 3 0 (some 1) = 0 by decide)
     rw [cut1]
     have s1 : Same G' (upd G' t3 (.tup [faV y, moV y])) := same_new ht3
     have gt3 : (upd G' t3 (.tup [faV y, moV y])) t3 = some (.tup [faV y, moV y]) := upd_same
     generalize upd G' t3 (.tup [faV y, moV y]) = G1 at s1 gt3
     refine ⟨t3, _, rfl, .inr (SqT.of gt3), rfl, par_flat y, _, rfl, ?_⟩
     show if inV (nat a) [faV y, moV y] = true then _ else _
     refine iteB (fun hk => ?_) (fun hk => ?_)
     . obtain ⟨q, e, o⟩ := (inV_par a y).mp hk
       refine ⟨_, rfl, .inl ⟨rfl, _, SqL.of (s1 _ _ gf')⟩, _, rfl, _, rfl, _, rfl, D2, _, _, _, rfl, rfl, SqL.of ((sG'.trans s1) _ _ g2), atN th lg, two_fits, fun t4 ht4 => ?_⟩
       have s2 : Same G1 (upd G1 t4 (.tup [nat i, nat (fw h' g)])) := same_new ht4
       have gt4 : (upd G1 t4 (.tup [nat i, nat (fw h' g)])) t4 = some (.tup (prT (i, fw h' g))) := upd_same
       generalize upd G1 t4 (.tup [nat i, nat (fw h' g)]) = G2 at s2 gt4
       have s12 := s1.trans s2
       have gf2 := s12 _ _ gf'
       refine ⟨Df, _, _, rfl, rfl, gf2, by rw [List.length_map]; omega, ?_⟩
       have nt4 : t4 ≠ Df := fun z => by rw [z, gf2] at gt4; cases gt4
       refine ⟨L' ++ [(i, fw h' g)], rs' ++ [t4], _, rfl, same_upd (sG'.trans s12) hDf, by rw [upd_same, List.map_append]; rfl, ?_, fun r hr => ?_, fun r hr => List.mem_append_left _ (sub' r hr), fun b y' q' hb hy' e' o' => ?_, by rw [List.length_append]; show L'.length + 1 <= _; omega⟩
       . rw [List.map_append]
         refine TsAt.snoc ((tL'.same s12).keep fun p xs hp ho => ?_) (by rw [upd_ne nt4]; exact gt4)
         rw [upd_ne (fun z => by rw [z, gf2] at ho; cases ho)]; exact ho
       . rcases List.mem_append.mp hr with z | z
         . exact snd' r z
         . rw [List.mem_singleton.mp z]
           have := near_ch (w := w') (h := h') (c := c) ok hx hy e o
           rw [hgr] at this
           exact .inl this
       . by_cases z : b = i
         . subst z; exact List.mem_append_right _ (List.mem_singleton.mpr rfl)
         . exact List.mem_append_left _ (chd b y' q' (by omega) hy' e' o')
     . refine ⟨L', rs', _, rfl, sG'.trans s1, s1 _ _ gf', tL'.same s1, snd', sub', fun b y' q' hb hy' e' o' => ?_, by omega⟩
       by_cases z : b = i
       . subst z
         rw [hy] at hy'
         cases Option.some.inj hy'
         have := (inV_par a y).mpr ⟨q', e', o'⟩
         rw [hk] at this; cases this
       . exact chd b y' q' (by omega) hy' e' o'
   rintro σ G' ⟨L', rs', o9, rfl, sG', gf', tL', snd', sub', chd, ll'⟩
   have pe' := pe.same sG'
   obtain ⟨t', ht', att', gt'⟩ := pe'.at_ hx
   have rl := tL'.len
   rw [List.length_map] at rl
   have pr0 : ∀ q ∈ bk.prs, (a = q.1 \/ a = q.2) -> (q.1, grm w' x.1 c) ∈ L' /\ (q.2, fw w' (grm w' x.1 c)) ∈ L' := fun q hq o => by rw [hgr]; exact ⟨sub' _ (cpl q hq o).1, sub' _ (cpl q hq o).2⟩
   have ch0 : ∀ b y q, bk.ps[b]? = some y -> y.2 = some q -> (a = q.1 \/ a = q.2) -> (b, fw h' (grm w' x.1 c)) ∈ L' := fun b y q hy e o => by rw [hgr]; exact chd b y q (List.getElem?_eq_some_iff.mp hy).1 hy e o
   refine ⟨_, rfl, _, rfl, LP, _, _, _, rfl, rfl, SqL.of pe'.l, att', t', _, 1, _, rfl, rfl, SqT.of gt', rfl, rfl, _, rfl, ?_⟩
   cases hq : x.2 with
   | none =>
     have e9 : faV x = .non := by unfold faV; rw [hq]
     rw [e9]
     refine iteF ⟨_, rfl, k Df rs' L' G' hDf sG' gf' tL' ⟨snd', fun b k A => near_all ok hx pr0 ch0 (fun q e => by rw [hq] at e; cases e) A⟩ (by omega)⟩
   | some q =>
     have e9 : faV x = nat q.1 := by unfold faV; rw [hq]
     have e8 : moV x = nat q.2 := by unfold moV; rw [hq]
     rw [e9]
     refine iteT ⟨_, rfl, .inl ⟨rfl, _, SqL.of (sG' _ _ g2)⟩, _, rfl, D2, intL h', (c : Int), rfl, rfl, (ix th (sG' _ _ g2)).1, (ix th (sG' _ _ g2)).2, ?_⟩
     rw [idx_intL, show List.idxOf c h' = bw h' c from rfl]
     have lb := bw_lt th lc
     generalize hbw : bw h' c = el at lb
     walk_at "ns"
     refine ⟨_, rfl, _, rfl, _, rfl, LP, _, _, _, rfl, rfl, SqL.of pe'.l, att', t', _, 1, _, rfl, rfl, SqT.of gt', rfl, _, rfl, two_fits, fun t1 h1 => ?_⟩
     rw [e9]
     have s1 : Same G' (upd G' t1 (.tup [nat q.1, nat (el)])) := same_new h1
     have gt1 : (upd G' t1 (.tup [nat q.1, nat (el)])) t1 = some (.tup (prT (q.1, el))) := upd_same
     refine ⟨_, rfl, _, rfl, LP, _, _, _, rfl, rfl, SqL.of (s1 _ _ pe'.l), att', t', _, 2, _, rfl, rfl, SqT.of (s1 _ _ gt'), rfl, _, rfl, _, rfl, D1, _, _, _, rfl, rfl, SqL.of ((sG'.trans s1) _ _ g1), atN tw lb, two_fits, fun t2 h2 => ?_⟩
     rw [e8]
     generalize upd G' t1 (.tup [nat q.1, nat (el)]) = G1 at s1 gt1 h2
     have s2 : Same G1 (upd G1 t2 (.tup [nat q.2, nat (fw w' el)])) := same_new h2
     have gt2 : (upd G1 t2 (.tup [nat q.2, nat (fw w' el)])) t2 = some (.tup (prT (q.2, fw w' el))) := upd_same
     generalize upd G1 t2 (.tup [nat q.2, nat (fw w' el)]) = G2 at s2 gt2
     refine ⟨two_fits, fun l hl => ?_⟩
     have s3 : Same G2 (upd G2 l (.lst [.ref t1, .ref t2])) := same_new hl
     have g3 : (upd G2 l (.lst [.ref t1, .ref t2])) l = some (.lst ([t1, t2].map V.ref)) := upd_same
     generalize upd G2 l (.lst [.ref t1, .ref t2]) = G3 at s3 g3
     have s13 := s1.trans (s2.trans s3)
     refine ⟨Df, l, _, _, rfl, rfl, s13 _ _ gf', g3, by rw [List.length_map, List.length_map]; show rs'.length + 2 <= sizeLine; omega, fun D' hD' => ?_⟩
     rw [<- List.map_append]
     have s4 := same_new (o := .lst ((rs' ++ [t1, t2]).map V.ref)) hD'
     have s14 := s13.trans s4
     refine ⟨_, rfl, k D' (rs' ++ [t1, t2]) (L' ++ [(q.1, el), (q.2, fw w' el)]) _ ((sG'.trans s13).free hD') (sG'.trans s14) upd_same (two_app (tL'.same s14) ((s2.trans (s3.trans s4)) _ _ gt1) ((s3.trans s4) _ _ gt2)) ⟨fun r hr => ?_, fun b k A => ?_⟩ (by rw [List.length_append]; show L'.length + 2 <= _; omega)⟩
     . rcases List.mem_append.mp hr with z | z
       . exact snd' r z
       . simp only [List.mem_cons, List.not_mem_nil, or_false] at z
         rcases z with rfl | rfl
         . exact .inl (by rw [<- hbw]; exact .fa hx hq)
         . exact .inl (by rw [<- hbw]; exact .mo hx hq)
     . exact near_all ok hx (fun r hr o => ⟨List.mem_append_left _ (pr0 r hr o).1, List.mem_append_left _ (pr0 r hr o).2⟩) (fun b y r hy e o => List.mem_append_left _ (ch0 b y r hy e o)) (fun r e => by
        rw [hq] at e
        cases Option.some.inj e
        rw [hbw]
        exact ⟨by simp, by simp⟩) A
end
def KvIs (kvs : List (Key × V)) (ms : List (Option Nat)) : Prop := ∀ b : Nat, valV kvs (Sum.inl (b : Int)) = (oat ms b).map nat
theorem oat_set_self {ms : List (Option Nat)} {b k : Nat} (lb : b < ms.length) : oat (ms.set b (some k)) b = some k := oat_some.mpr (List.getElem?_set_self lb)
theorem oat_set_ne {ms : List (Option Nat)} {b k b' : Nat} (ne : b' ≠ b) : oat (ms.set b (some k)) b' = oat ms b' := by
 unfold oat
 rw [List.getElem?_set_ne (Ne.symm ne)]
theorem KvIs.put {kvs : List (Key × V)} {ms : List (Option Nat)} (h : KvIs kvs ms) {b k : Nat} (lb : b < ms.length) : KvIs (putK kvs (Sum.inl (b : Int)) (nat k)) (ms.set b (some k)) := fun b' => by
 rw [valV_put]
 by_cases e : b' = b
 . subst e; rw [if_pos rfl, oat_set_self lb]; rfl
 . rw [if_neg (fun z => e (by have := Sum.inl.inj z; omega)), h b', oat_set_ne e]
theorem Told.no_clash {w h : List Nat} {bk : Bk} {a c : Nat} {ms : List (Option Nat)} (T : Told w h bk a c ms) : ¬ Clash w h bk a c := by
 rintro ⟨b, k, k', t1, t2, ne⟩
 have e1 := (T.all b k).mpr t1
 rw [(T.all b k').mpr t2] at e1
 exact ne (Option.some.inj (Option.some.inj e1)).symm
theorem drop_snoc {l : List Nat} {i b : Nat} (h : i <= l.length) : (l ++ [b]).drop i = l.drop i ++ [b] := List.drop_append_of_le_length h
def spClash : Sp := fun vs H Q _ => ∃ (LP LR LT D1 D2 : Addr) (ts us : List Addr) (bk : Bk) (n : Nat) (w h : List Nat) (a c : Nat), vs = [.ref LP, .ref LR, .ref LT, nat a, nat c] /\ PeopleAt H LP ts bk.ps /\ PairsAt H LR us bk.prs /\ BkOk bk /\ H LT = some (.lst [.ref D1, .ref D2]) /\ H D1 = some (.lst (natL w)) /\ H D2 = some (.lst (natL h)) /\ IsTurn n w /\ IsTurn n h /\ a < bk.ps.length /\ c < n /\
 ∀ (b : Bool) H', Same H H' -> (b = true ↔ Clash w h bk a c) -> Q (.bl b) H'
section
variable {P : Program} {w : World} {K : W.Frag} {mg : Str -> Option Value} {base : Heap} {CX : CXT} {C : Addr} {e : Ad}
theorem sc_clash : FnScope ["people", "pairs", "turns", "a", "c", "told", "line", "at", "here", "b", "kind"] ["people", "pairs", "turns", "a", "c"] (defScope (top 48)) := mkSc
theorem ok_clash {f : Addr} {fd : FuncData} (F : Fun K "_law_clash" "_law_clash" (top 48) f fd) (T : Txt K mg C e) (hE : NoE (CXR P w)) (D__q11 : Def P w K mg base (CXR P w) "_law_near" 1 ["people", "pairs", "wives", "heirs", "a", "c"] spLNear) : FnOk P w K mg base (CXR P w) 2 f fd ["people", "pairs", "turns", "a", "c"] spClash := by
 refine F.okN sc_clash (fun vs H Q E h => ?_) (fun cdv A outer s H vs Q E hr h => ?_)
 . obtain ⟨LP, LR, LT, D1, D2, ts, us, bk, n, w, h, a, c, rfl, _⟩ := h; rfl
 . obtain ⟨LP, LR, LT, D1, D2, ts, us, bk, n, w', h', a, c, rfl, pe, pa, ok, gT, g1, g2, tw, th, la, lc, k⟩ := h
   have nd := sc_clash.nd
   have n60 := ok.n60
   have big : 4000 <= sizeLine := by decide
   refine ⟨_, (pss_cons (ps_set (i := 5) nd rfl (Or.inl rfl) (pe_disp (pps_cons (pv 3) (pv 4) pps_nil) rfl rfl (by simp) (by decide)))
    (pss_cons (ps_set (i := 6) nd rfl (Or.inl rfl) (pe_lst (pa_cons (pv 3) pa_nil)))
    (pss_cons (ps_set (i := 7) nd rfl (Or.inl rfl) pe_int)
    (pss_cons (ps_while PassesOwn.never (pt_cmpR op_lt (pv 7) (pe_callB call_len_seq rfl T.z_len PySem.boot_len (pa_cons (pv 6) pa_nil)) (nomark _)) (pss_cons (ps_set (i := 8) nd rfl (Or.inl rfl) (pe_ix ix_list (pv 6) (pv 7) (fun _ _ => rfl)))
    (pss_cons (ps_set (i := 7) nd rfl (Or.inl rfl) (pe_op op_add (pv 7) pe_int))
    (pss_one (ps_for PassesOwn.never rfl (pi_list (pe_callD D__q11 hE hr rfl (pa_cons (pv 0) (pa_cons (pv 1) (pa_cons (pe_ix ix_list (pv 2) pe_int (fun _ _ => rfl)) (pa_cons (pe_ix ix_list (pv 2) pe_int (fun _ _ => rfl)) (pa_cons (pv 8) (pa_cons (pe_dget (hu_of hr) (pv 5) (pv 8) (fun _ _ => rfl)) pa_nil)))))))) (pg_tup rfl (pgs_cons (pg_name (i := 9) nd rfl (Or.inl rfl)) (pgs_cons (pg_name (i := 10) nd rfl (Or.inl rfl)) pgs_nil))) (pss_cons (ps_if (pt_cmpR op_ne (pe_dget2 (hu_of hr) (pv 5) (pv 9) (pv 10) ⟨rfl, rfl, rfl, rfl⟩) (pv 10) (nomark _)) (pss_one (ps_ret pe_bl)) pss_nil)
    (pss_one (ps_if (pt_cmp (pc_dnotin (hu_of hr) (pv 9) (pv 5))) (pss_cons (ps_dput (hu_of hr) (pv 5) (pv 9) (pv 10) rfl)
    (pss_one (ps_expr (pe_bm PySem.F.plainAttrs_list PySem.F.slot_list_append PySem.F.type_list_append mt_append (pv 6) (pa_cons (pv 9) pa_nil))))) pss_nil))))))))
    (pss_one (ps_ret pe_bl)))))), ?_⟩
   intro Dd hDd
   refine ⟨_, rfl, _, rfl, upd_same, [(Sum.inl (a : Int), nat c)], rfl, (show 1 <= 15 by decide), ?_⟩
   have gd0 : (upd (upd H Dd (.dK [])) Dd (.dK (mergeK [] [(Sum.inl (a : Int), nat c)]))) Dd = some (.dK [(Sum.inl (a : Int), nat c)]) := upd_same
   have s1 : Same H (upd (upd H Dd (.dK [])) Dd (.dK (mergeK [] [(Sum.inl (a : Int), nat c)]))) := same_upd (same_new hDd) hDd
   generalize upd (upd H Dd (.dK [])) Dd (.dK (mergeK [] [(Sum.inl (a : Int), nat c)])) = H1 at gd0 s1
   walk_at "ns"
   refine ⟨_, rfl, one_fits, fun Dl hDl => ?_⟩
   have ndl : Dd ≠ Dl := ne_of_none gd0 hDl
   have hDlH : H Dl = none := s1.free hDl
   have s2 : Same H (upd H1 Dl (.lst [nat a])) := s1.trans (same_new hDl)
   have gl0 : (upd H1 Dl (.lst [nat a])) Dl = some (.lst (natL [a])) := upd_same
   have gd1 : (upd H1 Dl (.lst [nat a])) Dd = some (.dK [(Sum.inl (a : Int), nat c)]) := by rw [upd_ne ndl]; exact gd0
   generalize upd H1 Dl (.lst [nat a]) = H2 at s2 gl0 gd1
   walk_at "ns"
   walk_at "ns"
   have te1 := te_start (w := w') (h := h') la (c := c)
   have ms0 := te1.st
   refine ⟨fun m σ G => ∃ ms kvs ln at' o8 o9 o10, m = bk.ps.length - at' /\ σ = [some (.ref LP), some (.ref LR), some (.ref LT), some (nat a), some (nat c), some (.ref Dd), some (.ref Dl), some (nat at'), o8, o9, o10] /\ Same H G /\ G Dd = some (.dK kvs) /\ KvIs kvs ms /\ kvs.length <= ln.length /\ G Dl = some (.lst (natL ln)) /\ at' <= ln.length /\ ln.Nodup /\ (∀ b ∈ ln, ∃ k, ms[b]? = some (some k)) /\ TeAt w' h' bk a c ms (ln.drop at') fun _ => False,
    ⟨_, _, _, [a], 0, none, none, none, rfl, rfl, s2, gd1, ?_, (show 1 <= 1 by decide), gl0, Nat.zero_le _, List.nodup_cons.mpr ⟨fun z => (by cases z), List.nodup_nil⟩, fun b hb => ⟨c, by rw [List.mem_singleton.mp hb]; exact ms0⟩, te1⟩, ?_⟩
   . intro b
     by_cases e : b = a
     . subst e; rw [oat_some.mpr ms0]; exact valV_pos rfl
     . rw [valV_neg (fun z => e (by have := Sum.inl.inj z; omega)), oat_set_ne e]
       unfold oat
       rw [List.getElem?_replicate]
       split <;> rfl
   rintro m σ G ⟨ms, kvs, ln, at', o8, o9, o10, rfl, rfl, sG, gd, kv, kl, gl, al, nl, lso, te⟩
   have tlt : ∀ b k, ms[b]? = some (some k) -> b < bk.ps.length /\ k < n := fun b k hb => (te.sound b k hb).lt ok tw th la lc
   have ll : ln.length <= bk.ps.length := nodup_len _ _ nl fun b hb => by obtain ⟨k, hk⟩ := lso b hb; exact (tlt b k hk).1
   refine ⟨_, rfl, _, rfl, Dl, _, rfl, .inl (SqL.of gl), _, _, rfl, rfl, _, rfl, ?_⟩
   rw [natL_len]
   refine iteD2 (fun hlt => ?_) (fun hge => ?_)
   . have hlt : at' < ln.length := by omega
     have hh : ln[at']? = some ln[at'] := List.getElem?_eq_getElem hlt
     have hdr : ln.drop at' = ln[at'] :: ln.drop (at' + 1) := List.drop_eq_getElem_cons hlt
     generalize ln[at'] = here at hh hdr
     obtain ⟨kh, hkh⟩ := lso here (List.mem_of_getElem? hh)
     obtain ⟨lh, lk⟩ := tlt _ _ hkh
     have dg : DGet G Dd (nat here) (some (nat kh)) := by
      have := DGet.k (k := Sum.inl (here : Int)) gd
      rw [kv here, oat_some.mpr hkh] at this
      exact this
     refine ⟨fun σ' G' => ∃ m', m' < bk.ps.length - at' /\ ∃ ms kvs ln at' o8 o9 o10, m' = bk.ps.length - at' /\ σ' = [some (.ref LP), some (.ref LR), some (.ref LT), some (nat a), some (nat c), some (.ref Dd), some (.ref Dl), some (nat at'), o8, o9, o10] /\ Same H G' /\ G' Dd = some (.dK kvs) /\ KvIs kvs ms /\ kvs.length <= ln.length /\ G' Dl = some (.lst (natL ln)) /\ at' <= ln.length /\ ln.Nodup /\ (∀ b ∈ ln, ∃ k, ms[b]? = some (some k)) /\ TeAt w' h' bk a c ms (ln.drop at') fun _ => False, fun σ' G' h => h, ?_⟩
     refine ⟨_, rfl, _, rfl, Dl, _, _, _, rfl, rfl, SqL.of gl, atI_nat (natL_get hh), ?_⟩
     walk_at "ns"
     refine ⟨_, rfl, _, _, rfl, rfl, ?_⟩
     walk_at "ns"
     refine ⟨_, rfl, _, rfl, _, rfl, LT, _, 0, _, rfl, rfl, SqL.of (sG _ _ gT), rfl, _, rfl, LT, _, 1, _, rfl, rfl, SqL.of (sG _ _ gT), rfl, _, rfl, _, rfl, _, rfl, Dd, _, rfl, dg, LP, LR, D1, D2, ts, us, bk, n, w', h', here, kh, rfl, pe.same sG, pa.same sG, ok, sG _ _ g1, sG _ _ g2, tw, th, lh, lk, fun Dn rs L G1 hDn s3 gn tL nok lL => ?_⟩
     have rl := tL.len
     rw [List.length_map] at rl
     have gd1 := s3 _ _ gd
     have gl1 := s3 _ _ gl
     have nnd : Dn ≠ Dd := fun z => by rw [z, gd] at hDn; cases hDn
     have nnl : Dn ≠ Dl := fun z => by rw [z, gl] at hDn; cases hDn
     refine ⟨Dn, rfl, ⟨_, SqL.of gn⟩, for_list (xs := rs.map V.ref) (fun j σ G' => ∃ ms' kvs' ln' o9 o10, σ = [some (.ref LP), some (.ref LR), some (.ref LT), some (nat a), some (nat c), some (.ref Dd), some (.ref Dl), some (nat (at' + 1)), some (nat here), o9, o10] /\ (∀ c o, G1 c = some o -> c ≠ Dd -> c ≠ Dl -> G' c = some o) /\ G' Dd = some (.dK kvs') /\ KvIs kvs' ms' /\ kvs'.length <= ln'.length /\ G' Dl = some (.lst (natL ln')) /\ at' + 1 <= ln'.length /\ ln'.Nodup /\ (∀ b ∈ ln', ∃ k, ms'[b]? = some (some k)) /\ TeAt w' h' bk a c ms' (ln'.drop (at' + 1)) (fun d => d = here) /\ ms'[here]? = some (some kh) /\ ∀ q ∈ L.take j, ms'[q.1]? = some (some q.2)) ⟨ms, kvs, ln, _, _, rfl, fun c o h _ _ => h, gd1, kv, kl, gl1, hlt, nl, lso, ⟨te.len, te.st, te.sound, ?_, fun b hb => te.wso b (by rw [hdr]; exact List.mem_cons_of_mem _ hb), fun b k hb hn he => te.cl b k hb (fun z => ?_) id⟩, hkh, fun q z => by simp at z⟩ (fun m σ G' _ ⟨_, _, _, _, _, _, kp, _⟩ => SqL.of (kp _ _ gn nnd nnl)) ?_ ?_⟩
     . have := te.wnd
       rw [hdr] at this
       exact (List.nodup_cons.mp this).2
     . rw [hdr] at z
       rcases List.mem_cons.mp z with y | y
       . exact he y
       . exact hn y
     . rintro j v σ G' hj ⟨ms', kvs', ln', o9', o10', rfl, kp, gd', kv', kl', gl', al', nl', lso', te', hh', don⟩
       rw [List.getElem?_map] at hj
       obtain ⟨t, ht, rfl⟩ := Option.map_eq_some_iff.mp hj
       have lj : j < L.length := by rw [<- rl]; exact (List.getElem?_eq_some_iff.mp ht).1
       have hq : L[j]? = some L[j] := List.getElem?_eq_getElem lj
       generalize L[j] = q at hq
       obtain ⟨b, kd⟩ := q
       have gt1 : G1 t = some (.tup (prT (b, kd))) := tL.at_ j t _ ht (by rw [List.getElem?_map, hq]; rfl)
       have gt : G' t = some (.tup (prT (b, kd))) := kp _ _ gt1 (fun z => by rw [z, gd1] at gt1; cases gt1) (fun z => by rw [z, gl1] at gt1; cases gt1)
       have tb : Tells w' h' bk a c b kd := by
        rcases nok.snd _ (List.mem_of_getElem? hq) with z | z
        . exact .on (te'.sound _ _ hh') z
        . have e1 := (Prod.mk.inj z).1
          have e2 := (Prod.mk.inj z).2
          rw [e1, e2]; exact te'.sound _ _ hh'
       obtain ⟨lb, lkd⟩ := tb.lt ok tw th la lc
       have tk : ∀ r, r ∈ L.take (j + 1) -> r ∈ L.take j \/ r = (b, kd) := fun r hr => by
        rw [List.take_add_one, hq] at hr
        rcases List.mem_append.mp hr with z | z
        . exact .inl z
        . exact .inr (by simpa using z)
       have l60 : ln'.length <= bk.ps.length := nodup_len _ _ nl' fun b hb => by obtain ⟨k, hk⟩ := lso' b hb; exact ((te'.sound b k hk).lt ok tw th la lc).1
       have sG' : Same H G' := fun c o hc => kp c o (s3 _ _ (sG _ _ hc)) (fun z => by rw [z, hDd] at hc; cases hc) (fun z => by rw [z, hDlH] at hc; cases hc)
       refine ⟨t, _, rfl, SqT.of gt, rfl, _, _, rfl, _, _, rfl, rfl, ?_⟩
       walk_at "ns"
       have dg2 : DGet G' Dd (nat b) ((oat ms' b).map nat) := by
        have := DGet.k (k := Sum.inl (b : Int)) gd'
        rw [kv' b] at this
        exact this
       refine ⟨_, rfl, Dd, rfl, .inl ⟨_, .inl gd'⟩, _, rfl, _, rfl, _, dg2, _, rfl, ?_⟩
       cases ob : oat ms' b with
       | some k1 =>
         rw [ob] at dg2
         have mb := oat_some.mp ob
         refine ⟨rfl, _, rfl, ?_⟩
         show if (!decide (nat k1 = nat kd)) = true then _ else _
         by_cases e1 : k1 = kd
         . subst e1
           rw [decide_eq_true rfl]
           refine iteF ?_
           refine ⟨_, rfl, _, rfl, Dd, _, rfl, dg2, _, rfl, iteF ?_⟩
           refine ⟨ms', kvs', ln', _, _, rfl, kp, gd', kv', kl', gl', al', nl', lso', te', hh', fun r hr => ?_⟩
           rcases tk r hr with z | rfl
           . exact don r z
           . exact mb
         . rw [decide_eq_false (fun z => e1 (by have := V.int.inj z; omega))]
           exact iteT (k true G' sG' ⟨fun _ => ⟨b, k1, kd, te'.sound _ _ mb, tb, e1⟩, fun _ => rfl⟩)
       | none =>
         rw [ob] at dg2
         have mb : ms'[b]? = some none := by
          have := oat_get (ms := ms') (i := b) (by rw [te'.len]; exact lb)
          rw [ob] at this; exact this
         refine ⟨rfl, _, rfl, ?_⟩
         show if (!decide (nat kd = nat kd)) = true then _ else _
         rw [decide_eq_true rfl]
         refine iteF ?_
         refine ⟨_, rfl, _, rfl, Dd, _, rfl, dg2, _, rfl, iteT ?_⟩
         refine ⟨_, rfl, _, rfl, _, rfl, Dd, _, rfl, DPut.k (k := Sum.inl (b : Int)) gd' (by omega), ?_⟩
         have gl2 : (upd G' Dd (.dK (putK kvs' (Sum.inl (b : Int)) (nat kd)))) Dl = some (.lst (natL ln')) := by rw [upd_ne (Ne.symm ndl)]; exact gl'
         refine ⟨_, rfl, .inl ⟨rfl, _, SqL.of gl2⟩, _, rfl, Dl, _, _, rfl, rfl, gl2, by rw [natL_len]; omega, ?_⟩
         rw [natLs]
         have te2 := te'.more mb tb
         rw [<- drop_snoc al'] at te2
         have bn : b ∉ ln' := fun z => by
          obtain ⟨k', z⟩ := lso' b z
          rw [mb] at z; cases z
         refine ⟨ms'.set b (some kd), _, ln' ++ [b], _, _, rfl, fun c o hc c1 c2 => by rw [upd_ne c2, upd_ne c1]; exact kp c o hc c1 c2, by rw [upd_ne ndl]; exact upd_same, kv'.put (by rw [te'.len]; exact lb), ?_, upd_same, by rw [List.length_append]; show _ <= _ + 1; omega, nsnoc nl' bn, fun d hd => ?_, te2, set_keep mb hh', fun r hr => ?_⟩
         . have := length_putK kvs' (Sum.inl (b : Int)) (nat kd)
           rw [List.length_append]; show _ <= _ + 1; omega
         . rcases List.mem_append.mp hd with z | z
           . obtain ⟨k', z⟩ := lso' d z
             exact ⟨k', set_keep mb z⟩
           . rw [List.mem_singleton.mp z]; exact ⟨kd, List.getElem?_set_self (by rw [te'.len]; exact lb)⟩
         . rcases tk r hr with z | rfl
           . exact set_keep mb (don r z)
           . exact List.getElem?_set_self (by rw [te'.len]; exact lb)
     . rintro σ G' ⟨ms', kvs', ln', o9', o10', rfl, kp, gd', kv', kl', gl', al', nl', lso', te', hh', don⟩
       rw [List.length_map, rl, List.take_length] at don
       have sG' : Same H G' := fun c o hc => kp c o (s3 _ _ (sG _ _ hc)) (fun z => by rw [z, hDd] at hc; cases hc) (fun z => by rw [z, hDlH] at hc; cases hc)
       refine ⟨_, by omega, ms', kvs', ln', at' + 1, _, _, _, rfl, rfl, sG', gd', kv', kl', gl', al', nl', lso', te'.len, te'.st, te'.sound, te'.wnd, te'.wso, fun b k hb hn _ b' k' A => ?_⟩
       by_cases z : b = here
       . subst z
         rw [hh'] at hb
         cases Option.some.inj (Option.some.inj hb)
         exact don _ (nok.all _ _ A)
       . exact te'.cl b k hb hn z b' k' A
   . have ea : at' = ln.length := by omega
     have te0 := te
     rw [ea, List.drop_length] at te0
     exact k false G sG ⟨fun z => (by cases z), fun z => absurd z te0.told.no_clash⟩
end
theorem Nb.symm {bk : Bk} {a b : Nat} (h : Nb bk a b) : Nb bk b a := by
 rcases h with z | z | z | z
 . exact .inr (.inl z)
 . exact .inl z
 . exact .inr (.inr (.inr z))
 . exact .inr (.inr (.inl z))
theorem Hang.trans {bk : Bk} {a b c : Nat} (x : Hang bk a b) (y : Hang bk b c) : Hang bk a c := by
 induction y with
 | here => exact x
 | on _ s ih => exact .on ih s
theorem Hang.symm {bk : Bk} {a b : Nat} (x : Hang bk a b) : Hang bk b a := by
 induction x with
 | here => exact .here
 | on _ s ih => exact Hang.trans (.on .here s.symm) ih
def Seen (bk : Bk) (i b : Nat) : Prop := ∃ a, a < i /\ Hang bk a b
theorem seen_old {bk : Bk} {i : Nat} (h : Seen bk i i) (b : Nat) : Seen bk (i + 1) b ↔ Seen bk i b := by
 constructor
 . rintro ⟨a, la, hg⟩
   rcases Nat.lt_or_ge a i with z | z
   . exact ⟨a, z, hg⟩
   . have : a = i := by omega
     subst this
     obtain ⟨a', la', hg'⟩ := h
     exact ⟨a', la', hg'.trans hg⟩
 . rintro ⟨a, la, hg⟩
   exact ⟨a, by omega, hg⟩
theorem seen_new {bk : Bk} {i : Nat} (b : Nat) : Seen bk (i + 1) b ↔ Seen bk i b \/ Hang bk i b := by
 constructor
 . rintro ⟨a, la, hg⟩
   rcases Nat.lt_or_ge a i with z | z
   . exact .inl ⟨a, z, hg⟩
   . have : a = i := by omega
     subst this
     exact .inr hg
 . rintro (⟨a, la, hg⟩ | hg)
   . exact ⟨a, by omega, hg⟩
   . exact ⟨i, by omega, hg⟩
theorem seen_apart {bk : Bk} {i b : Nat} (h : ¬ Seen bk i i) (x : Seen bk i b) (y : Hang bk i b) : False := by
 obtain ⟨a, la, hg⟩ := x
 exact h ⟨a, la, hg.trans y.symm⟩
noncomputable def dec (p : Prop) : Bool := @decide p (Classical.propDecidable p)
theorem dec_iff {p : Prop} : dec p = true ↔ p := by unfold dec; exact @decide_eq_true_iff p (Classical.propDecidable p)
theorem dec_no {p : Prop} : dec p = false ↔ ¬ p := by
 cases e : dec p with
 | true => exact ⟨fun z => (by cases z), fun z => absurd (dec_iff.mp e) z⟩
 | false => exact ⟨fun _ z => (by rw [dec_iff.mpr z] at e; cases e), fun _ => rfl⟩
section
variable (n : Nat) (w h : List Nat) (bk : Bk)
noncomputable def goodC (a : Nat) : List Nat := (List.range n).filter fun c => dec (¬ Clash w h bk a c)
noncomputable def ways : Nat -> Nat
 | 0 => 1
 | i + 1 => if dec (Seen bk i i) = true then ways i else ways i * (goodC n w h bk i).length
end
theorem mem_goodC {n : Nat} {w h : List Nat} {bk : Bk} {a c : Nat} : c ∈ goodC n w h bk a ↔ c < n /\ ¬ Clash w h bk a c := by
 unfold goodC
 rw [List.mem_filter, List.mem_range, dec_iff]
theorem goodC_nodup {n : Nat} {w h : List Nat} {bk : Bk} {a : Nat} : (goodC n w h bk a).Nodup := List.nodup_range.filter _
theorem ways_zero {n : Nat} {w h : List Nat} {bk : Bk} {i : Nat} (z : ways n w h bk i = 0) : ∀ j, i <= j -> ways n w h bk j = 0 := by
 intro j hj
 induction j with
 | zero => have : i = 0 := by omega
           subst this; exact z
 | succ j ih =>
   rcases Nat.lt_or_ge i (j + 1) with q | q
   . have := ih (by omega)
     unfold ways
     split
     . exact this
     . rw [this, Nat.zero_mul]
   . have : i = j + 1 := by omega
     subst this; exact z
structure GoodM (n : Nat) (w h : List Nat) (bk : Bk) (i : Nat) (m : List (Option Nat)) : Prop where
 len : m.length = bk.ps.length
 lt : ∀ (b k : Nat), m[b]? = some (some k) -> k < n
 dom : ∀ b : Nat, b < bk.ps.length -> ((∃ k, m[b]? = some (some k)) ↔ Seen bk i b)
 cl : ∀ (b k b' k' : Nat), m[b]? = some (some k) -> Adj w h bk b k b' k' -> m[b']? = some (some k')
theorem get_cases {m : List (Option Nat)} {b N : Nat} (hl : m.length = N) (hb : b < N) : m[b]? = some none \/ ∃ k, m[b]? = some (some k) := by
 have e := List.getElem?_eq_getElem (l := m) (i := b) (by omega)
 cases z : m[b]'(by omega) with
 | none => rw [z] at e; exact .inl e
 | some k => rw [z] at e; exact .inr ⟨k, e⟩
theorem opt_ext {m m' : List (Option Nat)} (hl : m.length = m'.length) (h : ∀ (b k : Nat), b < m.length -> (m[b]? = some (some k) ↔ m'[b]? = some (some k))) : m = m' := by
 refine List.ext_getElem? fun b => ?_
 by_cases hb : b < m.length
 . rcases get_cases rfl hb with z | ⟨k, z⟩
   . rcases get_cases (m := m') rfl (by omega : b < m'.length) with y | ⟨k, y⟩
     . rw [z, y]
     . rw [(h b k hb).mpr y] at z; cases z
   . rw [z, (h b k hb).mp z]
 . rw [List.getElem?_eq_none (by omega), List.getElem?_eq_none (by omega)]
def mrg (m t : List (Option Nat)) : List (Option Nat) := (List.range m.length).map fun b => (oat m b).or (oat t b)
theorem mrg_len {m t : List (Option Nat)} : (mrg m t).length = m.length := by unfold mrg; rw [List.length_map, List.length_range]
theorem mrg_get {m t : List (Option Nat)} {b : Nat} (hb : b < m.length) {k : Nat} : (mrg m t)[b]? = some (some k) ↔ (oat m b).or (oat t b) = some k := by
 unfold mrg
 rw [List.getElem?_map, List.getElem?_range hb]
 constructor
 . intro z; exact Option.some.inj z
 . intro z; exact congrArg some z
theorem oat_none {m : List (Option Nat)} {b N : Nat} (hl : m.length = N) (hb : b < N) (h : ¬ ∃ k, m[b]? = some (some k)) : oat m b = none := by
 rcases get_cases hl hb with z | z
 . unfold oat; rw [z]; rfl
 . exact absurd z h
section
variable {n : Nat} {w h : List Nat} {bk : Bk}
theorem told_ex {a c : Nat} (nc : ¬ Clash w h bk a c) (ok : BkOk bk) (tw : IsTurn n w) (th : IsTurn n h) (la : a < bk.ps.length) (lc : c < n) : ∃ ms, Told w h bk a c ms := by
 refine ⟨(List.range bk.ps.length).map fun b => @dite _ (∃ k, Tells w h bk a c b k) (Classical.propDecidable _) (fun z => some (Classical.choose z)) (fun _ => none), by rw [List.length_map, List.length_range], fun b k => ?_⟩
 rw [List.getElem?_map]
 constructor
 . intro z
   by_cases hb : b < bk.ps.length
   . rw [List.getElem?_range hb] at z
     have z : (@dite _ (∃ k, Tells w h bk a c b k) (Classical.propDecidable _) (fun z => some (Classical.choose z)) (fun _ => none)) = some k := Option.some.inj z
     by_cases q : ∃ k, Tells w h bk a c b k
     . rw [dif_pos q] at z
       rw [<- Option.some.inj z]; exact Classical.choose_spec q
     . rw [dif_neg q] at z; cases z
   . rw [List.getElem?_eq_none (by rw [List.length_range]; omega)] at z; cases z
 . intro t
   have hb := (t.lt ok tw th la lc).1
   rw [List.getElem?_range hb]
   have q : ∃ k, Tells w h bk a c b k := ⟨k, t⟩
   show some (@dite _ (∃ k, Tells w h bk a c b k) (Classical.propDecidable _) (fun z => some (Classical.choose z)) (fun _ => none)) = _
   rw [dif_pos q]
   refine congrArg (fun x => some (some x)) ?_
   exact Classical.byContradiction fun ne => nc ⟨b, _, k, Classical.choose_spec q, t, ne⟩
noncomputable def tel (w h : List Nat) (bk : Bk) (a c : Nat) : List (Option Nat) := @dite _ (∃ ms, Told w h bk a c ms) (Classical.propDecidable _) (fun z => Classical.choose z) (fun _ => [])
theorem tel_is {a c : Nat} (nc : ¬ Clash w h bk a c) (ok : BkOk bk) (tw : IsTurn n w) (th : IsTurn n h) (la : a < bk.ps.length) (lc : c < n) : Told w h bk a c (tel w h bk a c) := by
 have q := told_ex nc ok tw th la lc
 unfold tel
 rw [dif_pos q]
 exact Classical.choose_spec q
noncomputable def allM (n : Nat) (w h : List Nat) (bk : Bk) : Nat -> List (List (Option Nat))
 | 0 => [List.replicate bk.ps.length none]
 | i + 1 => if dec (Seen bk i i) = true then allM n w h bk i else (allM n w h bk i).flatMap fun m => (goodC n w h bk i).map fun c => mrg m (tel w h bk i c)
theorem allM_len : ∀ i, (allM n w h bk i).length = ways n w h bk i
 | 0 => rfl
 | i + 1 => by
   unfold allM ways
   split
   . exact allM_len i
   . rw [List.length_flatMap, <- allM_len i]
     have : ∀ l : List (List (Option Nat)), (l.map fun m => ((goodC n w h bk i).map fun c => mrg m (tel w h bk i c)).length).sum = l.length * (goodC n w h bk i).length := fun l => by
      induction l with
      | nil => simp
      | cons x l ih => rw [List.map_cons, List.sum_cons, ih, List.length_map, List.length_cons, Nat.succ_mul, Nat.add_comm]
     exact this _
theorem Told.hang_iff {a c b : Nat} {ms : List (Option Nat)} (T : Told w h bk a c ms) : (∃ k, ms[b]? = some (some k)) ↔ Hang bk a b := by
 constructor
 . rintro ⟨k, z⟩; exact ((T.all b k).mp z).hang
 . intro hg
   obtain ⟨k, t⟩ := hg.tells (w := w) (h := h) c
   exact ⟨k, (T.all b k).mpr t⟩
theorem adj_hang {b k b' k' : Nat} (A : Adj w h bk b k b' k') : Hang bk b b' := .on .here A.nb
theorem good_mrg (ok : BkOk bk) (tw : IsTurn n w) (th : IsTurn n h) {i c : Nat} (li : i < bk.ps.length) (ns : ¬ Seen bk i i) {m : List (Option Nat)} (G : GoodM n w h bk i m) (lc : c < n) {t : List (Option Nat)} (T : Told w h bk i c t) : GoodM n w h bk (i + 1) (mrg m t) := by
 have tl := T.len
 have ml := G.len
 have key : ∀ {b k : Nat}, b < bk.ps.length -> ((mrg m t)[b]? = some (some k) ↔ m[b]? = some (some k) \/ t[b]? = some (some k)) := fun {b k} hb => by
  rw [mrg_get (by omega)]
  constructor
  . intro z
    cases e : oat m b with
    | some k' => rw [e] at z; have z : some k' = some k := z; exact .inl (oat_some.mp (by rw [e, z]))
    | none => rw [e] at z; exact .inr (oat_some.mp z)
  . rintro (z | z)
    . rw [oat_some.mpr z]; rfl
    . have : oat m b = none := oat_none ml hb fun y => seen_apart ns ((G.dom b hb).mp y) (T.hang_iff.mp ⟨k, z⟩)
      rw [this]; exact oat_some.mpr z
 have inl : ∀ {b k : Nat}, (mrg m t)[b]? = some (some k) -> b < bk.ps.length := fun {b k} z => by
  have := (List.getElem?_eq_some_iff.mp z).1
  rw [mrg_len] at this; omega
 refine ⟨by rw [mrg_len, ml], fun b k z => ?_, fun b hb => ?_, fun b k b' k' z A => ?_⟩
 . rcases (key (inl z)).mp z with y | y
   . exact G.lt b k y
   . exact (((T.all b k).mp y).lt ok tw th li lc).2
 . rw [seen_new]
   constructor
   . rintro ⟨k, z⟩
     rcases (key hb).mp z with y | y
     . exact .inl ((G.dom b hb).mp ⟨k, y⟩)
     . exact .inr (T.hang_iff.mp ⟨k, y⟩)
   . rintro (y | y)
     . obtain ⟨k, z⟩ := (G.dom b hb).mpr y
       exact ⟨k, (key hb).mpr (.inl z)⟩
     . obtain ⟨k, z⟩ := T.hang_iff.mpr y
       exact ⟨k, (key hb).mpr (.inr z)⟩
 . have hb' : b' < bk.ps.length := A.nb.lt ok
   refine (key hb').mpr ?_
   rcases (key (inl z)).mp z with y | y
   . exact .inl (G.cl b k b' k' y A)
   . exact .inr (T.on y A)
theorem mem_allM (ok : BkOk bk) (tw : IsTurn n w) (th : IsTurn n h) : ∀ i, i <= bk.ps.length -> ∀ m, m ∈ allM n w h bk i ↔ GoodM n w h bk i m
 | 0, _, m => by
   unfold allM
   rw [List.mem_singleton]
   constructor
   . rintro rfl
     have no : ∀ b k : Nat, ¬ (List.replicate bk.ps.length (none : Option Nat))[b]? = some (some k) := fun b k z => by
      rw [List.getElem?_replicate] at z
      split at z
      . cases z
      . cases z
     exact ⟨List.length_replicate, fun b k z => absurd z (no b k), fun b hb => ⟨fun ⟨k, z⟩ => absurd z (no b k), fun ⟨a, z, _⟩ => absurd z (Nat.not_lt_zero _)⟩, fun b k b' k' z => absurd z (no b k)⟩
   . intro G
     refine opt_ext (by rw [G.len, List.length_replicate]) fun b k hb => ⟨fun z => ?_, fun z => ?_⟩
     . obtain ⟨a, q, _⟩ := (G.dom b (by rw [<- G.len]; exact hb)).mp ⟨k, z⟩
       exact absurd q (Nat.not_lt_zero _)
     . rw [List.getElem?_replicate] at z
       split at z
       . cases z
       . cases z
 | i + 1, hi, m => by
   have ih := mem_allM ok tw th i (by omega)
   have li : i < bk.ps.length := by omega
   unfold allM
   cases ds : dec (Seen bk i i) with
   | true =>
     have sn := dec_iff.mp ds
     rw [if_pos rfl, ih m]
     constructor
     . intro G; exact ⟨G.len, G.lt, fun b hb => by rw [seen_old sn]; exact G.dom b hb, G.cl⟩
     . intro G; exact ⟨G.len, G.lt, fun b hb => by rw [<- seen_old sn]; exact G.dom b hb, G.cl⟩
   | false =>
     have ns := dec_no.mp ds
     rw [if_neg Bool.false_ne_true, List.mem_flatMap]
     constructor
     . rintro ⟨m', hm', z⟩
       obtain ⟨c, hc, rfl⟩ := List.mem_map.mp z
       obtain ⟨lc, nc⟩ := mem_goodC.mp hc
       exact good_mrg ok tw th li ns ((ih m').mp hm') lc (tel_is nc ok tw th li lc)
     . intro G
       obtain ⟨c, hc⟩ := (G.dom i li).mpr ⟨i, Nat.lt_succ_self i, .here⟩
       have lc := G.lt i c hc
       have sub : ∀ {b k : Nat}, Tells w h bk i c b k -> m[b]? = some (some k) := fun {b k} t => by
        induction t with
        | here => exact hc
        | on _ A ih => exact G.cl _ _ _ _ ih A
       have nc : ¬ Clash w h bk i c := by
        rintro ⟨b, k, k', t1, t2, ne⟩
        have := sub t1
        rw [sub t2] at this
        exact ne (Option.some.inj (Option.some.inj this)).symm
       have T := tel_is nc ok tw th li lc
       generalize tel w h bk i c = t at T
       let m' : List (Option Nat) := (List.range bk.ps.length).map fun b => if dec (Seen bk i b) = true then oat m b else none
       have ml' : m'.length = bk.ps.length := by show ((List.range bk.ps.length).map _).length = _; rw [List.length_map, List.length_range]
       have get' : ∀ {b k : Nat}, b < bk.ps.length -> (m'[b]? = some (some k) ↔ Seen bk i b /\ m[b]? = some (some k)) := fun {b k} hb => by
        show ((List.range bk.ps.length).map _)[b]? = _ ↔ _
        rw [List.getElem?_map, List.getElem?_range hb]
        show some (if dec (Seen bk i b) = true then oat m b else none) = some (some k) ↔ _
        cases q : dec (Seen bk i b) with
        | true => exact ⟨fun z => ⟨dec_iff.mp q, oat_some.mp (Option.some.inj z)⟩, fun z => congrArg some (oat_some.mpr z.2)⟩
        | false => exact ⟨fun z => (by cases z), fun z => absurd z.1 (dec_no.mp q)⟩
       have inl : ∀ {b k : Nat}, m'[b]? = some (some k) -> b < bk.ps.length := fun {b k} z => by
        have := (List.getElem?_eq_some_iff.mp z).1
        omega
       have G' : GoodM n w h bk i m' := by
        refine ⟨ml', fun b k z => G.lt b k ((get' (inl z)).mp z).2, fun b hb => ⟨fun ⟨k, z⟩ => ((get' hb).mp z).1, fun s => ?_⟩, fun b k b' k' z A => ?_⟩
        . obtain ⟨k, z⟩ := (G.dom b hb).mpr ((seen_new b).mpr (.inl s))
          exact ⟨k, (get' hb).mpr ⟨s, z⟩⟩
        . obtain ⟨⟨a, la, hg⟩, y⟩ := (get' (inl z)).mp z
          exact (get' (A.nb.lt ok)).mpr ⟨⟨a, la, hg.trans (adj_hang A)⟩, G.cl b k b' k' y A⟩
       refine ⟨m', (ih m').mpr G', List.mem_map.mpr ⟨c, mem_goodC.mpr ⟨lc, nc⟩, ?_⟩⟩
       have T0 := tel_is nc ok tw th li lc
       refine opt_ext (by rw [mrg_len, ml', G.len]) fun b k hb => ?_
       have hb' : b < bk.ps.length := by rw [mrg_len, ml'] at hb; exact hb
       rw [mrg_get (by rw [ml']; exact hb')]
       constructor
       . intro z
         cases e : oat m' b with
         | some k' => rw [e] at z; have z : some k' = some k := z; exact ((get' hb').mp (oat_some.mp (by rw [e, z]))).2
         | none => rw [e] at z; exact sub ((T0.all b k).mp (oat_some.mp z))
       . intro z
         rcases (seen_new b).mp ((G.dom b hb').mp ⟨k, z⟩) with s | s
         . rw [oat_some.mpr ((get' hb').mpr ⟨s, z⟩)]; rfl
         . have e : oat m' b = none := oat_none ml' hb' fun ⟨k', y⟩ => seen_apart ns ((get' hb').mp y).1 s
           rw [e]
           obtain ⟨k', y⟩ := T0.hang_iff.mpr s
           have := sub ((T0.all b k').mp y)
           rw [z] at this
           rw [Option.some.inj (Option.some.inj this)]
           exact oat_some.mpr y
theorem allM_nodup (ok : BkOk bk) (tw : IsTurn n w) (th : IsTurn n h) : ∀ i, i <= bk.ps.length -> (allM n w h bk i).Nodup
 | 0, _ => List.nodup_cons.mpr ⟨fun z => (by cases z), List.nodup_nil⟩
 | i + 1, hi => by
   have ih := allM_nodup ok tw th i (by omega)
   have li : i < bk.ps.length := by omega
   unfold allM
   cases ds : dec (Seen bk i i) with
   | true => rw [if_pos rfl]; exact ih
   | false =>
     have ns := dec_no.mp ds
     rw [if_neg Bool.false_ne_true]
     have at_i : ∀ {m : List (Option Nat)} {c : Nat}, m ∈ allM n w h bk i -> c ∈ goodC n w h bk i -> oat (mrg m (tel w h bk i c)) i = some c := fun {m c} hm hc => by
      have G := (mem_allM ok tw th i (by omega) m).mp hm
      obtain ⟨lc, nc⟩ := mem_goodC.mp hc
      have T := tel_is nc ok tw th li lc
      refine oat_some.mpr ((mrg_get (by rw [G.len]; exact li)).mpr ?_)
      rw [oat_none G.len li fun z => ns ((G.dom i li).mp z)]
      exact oat_some.mpr ((T.all i c).mpr .here)
     have back : ∀ {m : List (Option Nat)} {c b k : Nat}, m ∈ allM n w h bk i -> c ∈ goodC n w h bk i -> b < bk.ps.length -> (m[b]? = some (some k) ↔ Seen bk i b /\ (mrg m (tel w h bk i c))[b]? = some (some k)) := fun {m c b k} hm hc hb => by
      have G := (mem_allM ok tw th i (by omega) m).mp hm
      rw [mrg_get (by rw [G.len]; exact hb)]
      constructor
      . intro z; exact ⟨(G.dom b hb).mp ⟨k, z⟩, by rw [oat_some.mpr z]; rfl⟩
      . rintro ⟨s, z⟩
        obtain ⟨k', y⟩ := (G.dom b hb).mpr s
        rw [oat_some.mpr y] at z
        have z : some k' = some k := z
        rw [<- Option.some.inj z]; exact y
     unfold List.Nodup
     rw [List.pairwise_flatMap]
     refine ⟨fun m hm => ?_, ih.imp_of_mem fun {m m'} hm hm' ne x hx y hy e => ne ?_⟩
     . refine List.pairwise_map.mpr (goodC_nodup.imp_of_mem fun {c c'} hc hc' ne e => ne ?_)
       have h1 := at_i hm hc
       rw [e, at_i hm hc'] at h1
       exact (Option.some.inj h1).symm
     . obtain ⟨c, hc, rfl⟩ := List.mem_map.mp hx
       obtain ⟨c', hc', rfl⟩ := List.mem_map.mp hy
       have G := (mem_allM ok tw th i (by omega) m).mp hm
       have G' := (mem_allM ok tw th i (by omega) m').mp hm'
       refine opt_ext (by rw [G.len, G'.len]) fun b k hb => ?_
       rw [G.len] at hb
       rw [back hm hc hb, back hm' hc' hb, e]
theorem fits_good (ok : BkOk bk) (tw : IsTurn n w) (th : IsTurn n h) {l : List Nat} (ll : l.length = bk.ps.length) (lt : ∀ k ∈ l, k < n) : FitsO w h bk (l.map some) ↔ GoodM n w h bk bk.ps.length (l.map some) := by
 have get : ∀ {b k : Nat}, (l.map some)[b]? = some (some k) ↔ l[b]? = some k := fun {b k} => by
  rw [List.getElem?_map]
  constructor
  . intro z
    obtain ⟨k', hk, e⟩ := Option.map_eq_some_iff.mp z
    rw [hk, Option.some.inj e]
  . intro z; rw [z]; rfl
 have ex : ∀ b : Nat, b < bk.ps.length -> ∃ k, l[b]? = some k /\ k < n := fun b hb => ⟨_, List.getElem?_eq_getElem (by omega), lt _ (List.getElem_mem _)⟩
 have oa : ∀ {b k : Nat}, oat (l.map some) b = some k ↔ l[b]? = some k := fun {b k} => by rw [oat_some, get]
 constructor
 . intro F
   have pr : ∀ {a b k : Nat}, (a, b) ∈ bk.prs -> l[a]? = some k -> l[b]? = some (fw w k) := fun {a b k} hq z => oa.mp ((F.pr _ hq).1 k (oa.mpr z))
   have ch : ∀ {b : Nat} {y : Per} {a f k : Nat}, bk.ps[b]? = some y -> y.2 = some (a, f) -> l[a]? = some k -> l[b]? = some (fw h k) := fun {b y a f k} hy e z => oa.mp ((F.ch b y hy (a, f) e).1 k (oa.mpr z))
   refine ⟨by rw [List.length_map, ll], fun b k z => lt k (List.mem_of_getElem? (get.mp z)), fun b hb => ⟨fun _ => ⟨b, hb, .here⟩, fun _ => ?_⟩, fun b k b' k' z A => ?_⟩
   . obtain ⟨k, z, _⟩ := ex b hb
     exact ⟨k, get.mpr z⟩
   . have z := get.mp z
     have lk := lt k (List.mem_of_getElem? z)
     refine get.mpr ?_
     have hus : ∀ {m : Nat}, (m, b) ∈ bk.prs -> l[m]? = some (bw w k) := fun {m} hq => by
      obtain ⟨k2, z2, lk2⟩ := ex m (ok.pr _ hq).1.lt
      have := pr hq z2
      rw [z] at this
      rw [z2, Option.some.inj this, bw_fw tw lk2]
     cases A with
     | wi hq => exact pr hq z
     | hu hq => exact hus hq
     | kf hy e => exact ch hy e z
     | km hy e => exact ch hy e (hus (ok.par _ (List.mem_of_getElem? hy) _ e).2.2)
     | @fa x m f hx e =>
       obtain ⟨k2, z2, lk2⟩ := ex b' (ok.par _ (List.mem_of_getElem? hx) _ e).1.lt
       have := ch hx e z2
       rw [z] at this
       rw [z2, Option.some.inj this, bw_fw th lk2]
     | @mo x m f hx e =>
       obtain ⟨k2, z2, lk2⟩ := ex m (ok.par _ (List.mem_of_getElem? hx) _ e).1.lt
       have := ch hx e z2
       rw [z] at this
       rw [Option.some.inj this, bw_fw th lk2]
       exact pr (ok.par _ (List.mem_of_getElem? hx) _ e).2.2 z2
 . intro G
   refine ⟨fun q hq => ⟨fun k z => oa.mpr (get.mp (G.cl _ _ _ _ (get.mpr (oa.mp z)) (.wi hq))), fun z => ?_⟩, fun i x hx q e => ⟨fun k z => oa.mpr (get.mp (G.cl _ _ _ _ (get.mpr (oa.mp z)) (.kf (f := q.2) hx e))), fun z => ?_⟩⟩
   . obtain ⟨k, y, _⟩ := ex q.1 (ok.pr q hq).1.lt
     rw [oa.mpr y] at z; cases z
   . obtain ⟨k, y, _⟩ := ex q.1 (ok.par x (List.mem_of_getElem? hx) q e).1.lt
     rw [oa.mpr y] at z; cases z
def allL (n : Nat) : Nat -> List (List Nat)
 | 0 => [[]]
 | k + 1 => (allL n k).flatMap fun l => (List.range n).map fun c => l ++ [c]
theorem mem_allL : ∀ k l, l ∈ allL n k ↔ l.length = k /\ ∀ c ∈ l, c < n
 | 0, l => by
   unfold allL
   rw [List.mem_singleton]
   constructor
   . rintro rfl; exact ⟨rfl, fun c z => (by cases z)⟩
   . rintro ⟨z, _⟩; exact List.length_eq_zero_iff.mp z
 | k + 1, l => by
   unfold allL
   rw [List.mem_flatMap]
   constructor
   . rintro ⟨l', hl', z⟩
     obtain ⟨c, hc, rfl⟩ := List.mem_map.mp z
     obtain ⟨e, lt⟩ := (mem_allL k l').mp hl'
     refine ⟨by rw [List.length_append, e]; rfl, fun x hx => ?_⟩
     rcases List.mem_append.mp hx with y | y
     . exact lt x y
     . rw [List.mem_singleton.mp y]; exact List.mem_range.mp hc
   . rintro ⟨e, lt⟩
     rcases List.eq_nil_or_concat l with z | ⟨l', c, z⟩
     . subst z; cases e
     . rw [List.concat_eq_append] at z
       subst z
       rw [List.length_append] at e
       have e1 : [c].length = 1 := rfl
       exact ⟨l', (mem_allL k l').mpr ⟨by omega, fun x hx => lt x (List.mem_append_left _ hx)⟩, List.mem_map.mpr ⟨c, List.mem_range.mpr (lt c (List.mem_append_right _ (List.mem_singleton.mpr rfl))), rfl⟩⟩
theorem allL_nodup : ∀ k, (allL n k).Nodup
 | 0 => List.nodup_cons.mpr ⟨fun z => (by cases z), List.nodup_nil⟩
 | k + 1 => by
   unfold allL List.Nodup
   rw [List.pairwise_flatMap]
   refine ⟨fun l _ => List.pairwise_map.mpr (List.nodup_range.imp fun {c c'} ne e => ne ?_), (allL_nodup k).imp fun {l l'} ne x hx y hy e => ne ?_⟩
   . exact (List.cons.inj (List.append_cancel_left e)).1
   . obtain ⟨c, _, rfl⟩ := List.mem_map.mp hx
     obtain ⟨c', _, rfl⟩ := List.mem_map.mp hy
     exact (List.append_inj' e rfl).1
theorem map_some_inj {l l' : List Nat} (e : l.map some = l'.map some) : l = l' := by
 have := congrArg (List.map (Option.getD · 0)) e
 rw [List.map_map, List.map_map] at this
 have f : ((Option.getD · 0) ∘ some : Nat -> Nat) = id := rfl
 rw [f, List.map_id, List.map_id] at this
 exact this
theorem ways_count (ok : BkOk bk) (tw : IsTurn n w) (th : IsTurn n h) : ((allL n bk.ps.length).filter fun l => dec (FitsO w h bk (l.map some))).length = ways n w h bk bk.ps.length := by
 rw [<- allM_len bk.ps.length, <- List.length_map (f := List.map some)]
 refine List.Perm.length_eq ((List.perm_ext_iff_of_nodup ?_ (allM_nodup ok tw th _ (Nat.le_refl _))).mpr fun m => ?_)
 . exact List.pairwise_map.mpr (((allL_nodup _).filter _).imp fun {l l'} ne e => ne (map_some_inj e))
 . rw [mem_allM ok tw th _ (Nat.le_refl _), List.mem_map]
   constructor
   . rintro ⟨l, hl, rfl⟩
     obtain ⟨h1, h2⟩ := List.mem_filter.mp hl
     obtain ⟨ll, lt⟩ := (mem_allL _ l).mp h1
     exact (fits_good ok tw th ll lt).mp (dec_iff.mp h2)
   . intro G
     have get : ∀ b : Nat, b < bk.ps.length -> ∃ k, m[b]? = some (some k) := fun b hb => (G.dom b hb).mpr ⟨b, hb, .here⟩
     have em : (m.map (Option.getD · 0)).map some = m := by
      refine opt_ext (by rw [List.length_map, List.length_map]) fun b k hb => ?_
      rw [List.length_map, List.length_map, G.len] at hb
      obtain ⟨k', z⟩ := get b hb
      rw [List.getElem?_map, List.getElem?_map, z]
      rfl
     have ll : (m.map (Option.getD · 0)).length = bk.ps.length := by rw [List.length_map, G.len]
     have lt : ∀ c ∈ m.map (Option.getD · 0), c < n := fun c hc => by
      obtain ⟨b, hb⟩ := List.getElem?_of_mem hc
      have lb := (List.getElem?_eq_some_iff.mp hb).1
      rw [ll] at lb
      obtain ⟨k', z⟩ := get b lb
      rw [List.getElem?_map, z] at hb
      rw [<- Option.some.inj hb]
      exact G.lt b k' z
     refine ⟨m.map (Option.getD · 0), List.mem_filter.mpr ⟨(mem_allL _ _).mpr ⟨ll, lt⟩, dec_iff.mpr ((fits_good ok tw th ll lt).mpr (by rw [em]; exact G))⟩, em⟩
end
def spFitsFrom (C : Addr) (e : Ad) : Sp := fun vs H Q E => ∃ (p x : Addr) (fp : List Addr) (bk : Bk) (n : Nat) (w h : List Nat) (a : Nat), vs = [.ref p, .ref x, nat a] /\ BookAt e.Book H p fp bk /\ TableAt C H x n w h /\ a < bk.ps.length /\
 ∀ D (fs : Nat -> V) H', H D = none -> Same H H' -> H' D = some (.lst ((goodC n w h bk a).map fs)) -> (∀ c ∈ goodC n w h bk a, ∃ q ms, fs c = .ref q /\ H' q = some (.lst (ms.map optV)) /\ Told w h bk a c ms) -> Q (.ref D) H'
def spManyWays (C : Addr) (e : Ad) : Sp := fun vs H Q E => ∃ (p x : Addr) (fp : List Addr) (bk : Bk) (n : Nat) (w h : List Nat), vs = [.ref p, .ref x] /\ BookAt e.Book H p fp bk /\ TableAt C H x n w h /\
 ∀ H', Same H H' -> Q (nat (ways n w h bk bk.ps.length)) H'
theorem Told.no_cl {w h : List Nat} {bk : Bk} {a c : Nat} {ms : List (Option Nat)} (T : Told w h bk a c ms) : ¬ Clash w h bk a c := by
 rintro ⟨b, k, k', t1, t2, ne⟩
 have e1 := (T.all b k).mpr t1
 rw [(T.all b k').mpr t2] at e1
 exact ne (Option.some.inj (Option.some.inj e1)).symm
section
variable {fv : List (Str × Nat)} {σ : St} {te : TEB}
theorem comp_tried {n : Nat} {H1 : Hp} {Q : VK} (Pr : Nat -> List (Option Nat) -> Prop) (Cl : Nat -> Prop) (hn : n <= sizeLine)
 (el : ∀ (i : Nat) (H' : Hp) (R : VK), i < n -> Same H1 H' -> (∀ p ms H2, H' p = none -> Same H' H2 -> H2 p = some (.lst (ms.map optV)) -> Pr i ms -> R (.ref p) H2) -> (Cl i -> ∀ H2, Same H' H2 -> R .non H2) -> ∀ s₀ H₀ ex, te s₀ H₀ ex (blkS fv σ (some (nat i))) H' R)
 (fin : ∀ D ys H2, H1 D = none -> Same H1 H2 -> H2 D = some (.lst ys) -> ys.length = n -> (∀ (j : Nat) v, ys[j]? = some v -> (v = .non /\ Cl j) \/ ∃ p ms, v = .ref p /\ p ≠ D /\ H2 p = some (.lst (ms.map optV)) /\ Pr j ms) -> Q (.ref D) H2) : tCompJ fv te σ (Itr 0 n) H1 Q := by
 intro D hD
 have sd : ∀ {H2 : Hp} {o : HO}, Same H1 H2 -> Same H1 (upd H2 D o) := fun {H2 o} s b u e => by
  rw [upd_ne (ne_of_none e hD)]; exact s b u e
 refine ⟨fun i m ys G => m = n - i /\ i <= n /\ ys.length = i /\ Same H1 G /\ G D = some (.lst ys) /\ ∀ (j : Nat) v, ys[j]? = some v -> (v = .non /\ Cl j) \/ ∃ p ms, v = .ref p /\ p ≠ D /\ G p = some (.lst (ms.map optV)) /\ Pr j ms, ⟨n, by simp, Nat.zero_le _, rfl, sd (Same.refl H1), upd_same, fun j v z => (by cases z)⟩, ?_⟩
 rintro i m ys G ⟨rfl, hi, yl, sm, hDi, rel⟩
 refine ⟨hDi, ?_⟩
 by_cases hlt : i < n
 . refine .inr ⟨hlt, by omega, fun x H' y => ?_⟩
   obtain ⟨e, y⟩ := y
   subst H' y
   rw [Int.zero_add]
   have nxt : ∀ v G2, Same G G2 -> ((v = .non /\ Cl i) \/ ∃ p ms, v = .ref p /\ p ≠ D /\ G2 p = some (.lst (ms.map optV)) /\ Pr i ms) -> G2 D = some (.lst ys) /\ ∃ m', m' < n - i /\ (m' = n - (i + 1) /\ i + 1 <= n /\ (ys ++ [v]).length = i + 1 /\ Same H1 (upd G2 D (.lst (ys ++ [v]))) /\ (upd G2 D (.lst (ys ++ [v]))) D = some (.lst (ys ++ [v])) /\ ∀ (j : Nat) u, (ys ++ [v])[j]? = some u -> (u = .non /\ Cl j) \/ ∃ p ms, u = .ref p /\ p ≠ D /\ (upd G2 D (.lst (ys ++ [v]))) p = some (.lst (ms.map optV)) /\ Pr j ms) := by
    intro v G2 s2 hv
    refine ⟨s2 D _ hDi, _, ?_, rfl, hlt, by rw [List.length_append, yl]; rfl, sd (sm.trans s2), upd_same, fun j u hu => ?_⟩
    . omega
    . by_cases c : j < ys.length
      . rw [List.getElem?_append_left c] at hu
        rcases rel j u hu with z | ⟨p, ms, e, np, g, pr⟩
        . exact .inl z
        . exact .inr ⟨p, ms, e, np, by rw [upd_ne np]; exact s2 _ _ g, pr⟩
      . have ej : j = ys.length := by
         have := (List.getElem?_eq_some_iff.mp hu).1
         rw [List.length_append] at this
         have e1 : [v].length = 1 := rfl
         omega
        subst ej
        rw [List.getElem?_append_right (Nat.le_refl _), Nat.sub_self] at hu
        cases Option.some.inj hu
        rw [yl]
        rcases hv with z | ⟨p, ms, e, np, g, pr⟩
        . exact .inl z
        . exact .inr ⟨p, ms, e, np, by rw [upd_ne np]; exact g, pr⟩
   refine fun s₀ H₀ ex => el i _ _ hlt sm (fun p ms H2 hp s2 g pr => nxt _ H2 s2 (.inr ⟨p, ms, rfl, fun z => ?_, g, pr⟩)) (fun cl H2 s2 => nxt _ H2 s2 (.inl ⟨rfl, cl⟩)) s₀ H₀ ex
   rw [z, hDi] at hp; cases hp
 . have e : i = n := by omega
   subst e
   exact .inl ⟨Nat.le_refl _, fin D ys G hD sm hDi yl rel⟩
end
section
variable {P : Program} {w : World} {K : W.Frag} {mg : Str -> Option Value} {base : Heap} {CX : CXT} {C : Addr} {e : Ad}
theorem sc_fitsfrom : FnScope ["book", "table", "a", "tried"] ["book", "table", "a"] (defScope (top 24)) := mkSc
theorem ok_fitsfrom {f : Addr} {fd : FuncData} (F : Fun K "fits_from" "fits_from" (top 24) f fd) (T : Txt K mg C e) (D_Table_size : MDef P w K mg base (CXR P w) C "size" 1 ["self"] (spSize C)) (D_fitting : Def P w K mg base (CXR P w) "fitting" 7 ["book", "table", "a", "c"] (spFitting C e)) : FnOk P w K mg base (CXR P w) 8 f fd ["book", "table", "a"] (spFitsFrom C e) := by
 refine F.okX sc_fitsfrom (fun vs H Q E h => ?_) (fun cdv A outer s H vs Q E hr hx h => ?_)
 . obtain ⟨p, x, fp, bk, n, w, h, a, rfl, _⟩ := h; rfl
 . obtain ⟨p, x, fp, bk, n, w', h', a, rfl, BA, TA, la, k⟩ := h
   have nd := sc_fitsfrom.nd
   obtain ⟨dt, a1, b1, c1, d1, t1, t2, t3, t4, t5⟩ := id TA.ob
   have ok := BA.ok
   have n60 := ok.n60
   have n8 := TA.n8
   have p9 : (100 : Nat) < 10 ^ 9 := by decide
   have big : 4000 <= sizeLine := by decide
   have sn : ∀ i : Nat, i <= 60 -> Sn (i : Int) := fun i h => log_small (by show ((i : Nat) : Int).natAbs < 10 ^ 9; omega)
   have inA : InB bk (a : Int) := ⟨Int.natCast_nonneg a, by omega⟩
   refine ⟨_, (pss_cons (ps_setCompX (i := 3) nd rfl (Or.inl rfl) (fv := [("a", 2), ("book", 0), ("table", 1)]) ⟨rfl, by decide +kernel, rfl, by decide +kernel, rfl, by decide +kernel, ⟨⟨rfl, Or.inl rfl, Or.inl rfl, rfl⟩, ⟨⟨rfl, Or.inl rfl, Or.inl rfl, rfl⟩, ⟨⟨rfl, Or.inl rfl, Or.inl rfl, rfl⟩, trivial⟩⟩⟩, rfl, rfl⟩ rfl (pi_range1 rfl T.z_range (pa_cons (pe_methX0 (pv 1) T.cl_Table D_Table_size hx.s hr) pa_nil)) exitsA (fun _ _ _ => (pe_callX D_fitting exitsB hr rfl (pa_cons (pv 2) (pa_cons (pv 3) (pa_cons (pv 1) (pa_cons (pv 0) pa_nil)))))))
    (pss_one (ps_ret (pe_compF (fv := []) ⟨rfl, by decide +kernel, rfl, by decide +kernel, rfl, by decide +kernel, trivial, rfl, rfl⟩ rfl (pi_list (pv 3)) (fun _ _ _ => (pv 0)) (fun _ _ _ => (pt_cmpR op_notN (pv 0) pe_non (nomark _))))))), ?_⟩
   refine ⟨_, rfl, x, dt, _, rfl, t1, no_size .., x, n, w', h', rfl, TA, _, rfl, by omega, by omega, ?_⟩
   rw [Int.toNat_natCast]
   refine comp_tried (fun c ms => Told w' h' bk a c ms) (fun c => Clash w' h' bk a c) (by omega) (fun i H' R hi sm kT kN _ _ _ => ?_) fun D ys G hD sG gD yl rel => ?_
   . have inC : InC n (i : Int) := ⟨Int.natCast_nonneg i, by omega⟩
     exact ⟨_, rfl, _, rfl, _, rfl, _, rfl, p, x, fp, bk, n, w', h', a, i, rfl, BA.same sm, TA.same sm, sn a (by omega), sn i (by omega), fun _ _ => ⟨fun ms D H2 hD s2 g T => kT D ms H2 hD s2 g T, fun cl H2 s2 => kN cl H2 s2⟩, fun z => absurd inA z, fun _ z => absurd inC z⟩
   walk_at "ns"
   refine ⟨_, rfl, D, rfl, ⟨_, SqL.of gD⟩, ?_⟩
   refine comp_listF (fun j => match ys[j]? with
    | some v => !decide (v = V.non)
    | none => false) (fun j => match ys[j]? with
    | some v => v
    | none => V.non) (SqL.of gD) (by omega) (fun j v H' R hj sm kk _ _ _ => ?_) (fun j v H' R hj pj sm kk _ _ _ => ?_) fun D2 G2 hD2 s2 g2 => ?_
   . rw [hj] at kk
     exact ⟨_, rfl, rfl, _, rfl, kk _ (Same.refl _)⟩
   . rw [hj] at kk
     exact ⟨_, rfl, kk _ (Same.refl _)⟩
   have ef : (List.range ys.length).filter (fun j => match ys[j]? with
    | some v => !decide (v = V.non)
    | none => false) = goodC n w' h' bk a := by
    rw [yl]
    unfold goodC
    refine List.filter_congr fun j hj => ?_
    have lj : j < ys.length := by rw [yl]; exact List.mem_range.mp hj
    have ej : ys[j]? = some ys[j] := List.getElem?_eq_getElem lj
    rw [ej]
    rcases rel j _ ej with ⟨z, cl⟩ | ⟨q, ms, z, _, _, T⟩
    . rw [z, dec_no.mpr (fun y => y cl)]; rfl
    . rw [z, dec_iff.mpr T.no_cl]; rfl
   rw [ef] at g2
   refine k D2 _ G2 (sG.free hD2) (sG.trans s2) g2 fun c hc => ?_
   obtain ⟨lc, nc⟩ := mem_goodC.mp hc
   have ej : ys[c]? = some (ys[c]'(by rw [yl]; exact lc)) := List.getElem?_eq_getElem _
   rcases rel c _ ej with ⟨z, cl⟩ | ⟨q, ms, z, _, g, T⟩
   . exact absurd cl nc
   . exact ⟨q, ms, by rw [ej]; exact z, s2 _ _ g, T⟩
theorem sc_manyways : FnScope ["book", "table", "ways", "counted", "a", "fits", "b", "c"] ["book", "table"] (defScope (top 25)) := mkSc
theorem ok_manyways {f : Addr} {fd : FuncData} (F : Fun K "many_ways" "many_ways" (top 25) f fd) (T : Txt K mg C e) (D_Book_size : MDef P w K mg base (CXR P w) e.Book "size" 1 ["self"] (spSizeB e)) (D_fits_from : Def P w K mg base (CXR P w) "fits_from" 8 ["book", "table", "a"] (spFitsFrom C e)) : FnOk P w K mg base (CXR P w) 9 f fd ["book", "table"] (spManyWays C e) := by
 refine F.okX sc_manyways (fun vs H Q E h => ?_) (fun cdv A outer s H vs Q E hr hx h => ?_)
 . obtain ⟨p, x, fp, bk, n, w, h, rfl, _⟩ := h; rfl
 . obtain ⟨p, x, fp, bk, n, w', h', rfl, BA, TA, k⟩ := h
   have nd := sc_manyways.nd
   obtain ⟨dx, a0, b0, c0, d0, qs, hfp, e1, e2, e3, e4, e5, e6, e7⟩ := id BA.ob
   have ok := BA.ok
   have n60 := ok.n60
   have big : 4000 <= sizeLine := by decide
   refine ⟨_, (pss_cons (ps_set (i := 2) nd rfl (Or.inl rfl) pe_int)
    (pss_cons (ps_set (i := 3) nd rfl (Or.inl rfl) pe_dnewK)
    (pss_cons (ps_for PassesOwn.leaving rfl (pi_range1 rfl T.z_range (pa_cons (pe_methX0 (pv 0) T.cl_Book D_Book_size hx.s hr) pa_nil)) (pg_name (i := 4) nd rfl (Or.inl rfl)) (pss_one (ps_if (pt_cmp (pc_dnotin (hu_of hr) (pv 4) (pv 3))) (pss_cons (ps_set (i := 5) nd rfl (Or.inl rfl) (pe_callX D_fits_from hx.s hr rfl (pa_cons (pv 0) (pa_cons (pv 1) (pa_cons (pv 4) pa_nil)))))
    (pss_cons (ps_if (pt_cmpR op_eq (pe_callB call_len_seq rfl T.z_len PySem.boot_len (pa_cons (pv 5) pa_nil)) pe_int (nomark _)) (pss_one (ps_ret pe_int)) pss_nil)
    (pss_cons (ps_set (i := 2) nd rfl (Or.inl rfl) (pe_op op_mul (pv 2) (pe_callB call_len_seq rfl T.z_len PySem.boot_len (pa_cons (pv 5) pa_nil))))
    (pss_one (ps_for PassesOwn.leaving rfl (pi_enum rfl T.z_enumerate (pa_cons (pe_ix ix_list (pv 5) pe_int (fun _ _ => rfl)) pa_nil)) (pg_tup rfl (pgs_cons (pg_name (i := 6) nd rfl (Or.inl rfl)) (pgs_cons (pg_name (i := 7) nd rfl (Or.inl rfl)) pgs_nil))) (pss_one (ps_if (pt_cmpR op_notN (pv 7) pe_non (nomark _)) (pss_one (ps_dput (hu_of hr) (pv 3) (pv 6) pe_bl rfl)) pss_nil))))))) pss_nil)))
    (pss_one (ps_ret (pv 2)))))), ?_⟩
   walk_at "ns"
   intro Dd hDd
   have s1 := same_new (o := .dK []) hDd
   have gd0 : (upd H Dd (.dK [])) Dd = some (.dK (kvOf [])) := upd_same
   generalize upd H Dd (.dK []) = H1 at s1 gd0
   walk_at "ns"
   refine ⟨_, rfl, p, dx, _, rfl, s1 _ _ e1, bno .., p, fp, bk, rfl, BA.same s1, _, rfl, by omega, by omega, ?_⟩
   rw [Int.toNat_natCast]
   refine for_range0 (fun i σ G => ∃ ks o4 o5 o6 o7, σ = [some (.ref p), some (.ref x), some (nat (ways n w' h' bk i)), some (.ref Dd), o4, o5, o6, o7] /\ Same H G /\ G Dd = some (.dK (kvOf ks)) /\ ks.Nodup /\ (∀ d ∈ ks, d < bk.ps.length) /\ ∀ d, d ∈ ks ↔ Seen bk i d) ⟨[], none, none, none, none, rfl, s1, gd0, List.nodup_nil, fun d z => (by cases z), fun d => ⟨fun z => (by cases z), fun ⟨a, z, _⟩ => absurd z (Nat.not_lt_zero _)⟩⟩ ?_ ?_
   . rintro i σ G hi ⟨ks, o4, o5, o6, o7, rfl, sG, gd, nk, kl, mk⟩
     walk_at "ns"
     refine ⟨_, rfl, _, rfl, Dd, _, rfl, DGet.k (k := Sum.inl (i : Int)) gd, _, rfl, ?_⟩
     rw [valV_kv]
     by_cases q : i ∈ ks
     . rw [decide_eq_true q]
       have sn := (mk i).mp q
       have ew : ways n w' h' bk (i + 1) = ways n w' h' bk i := by
        show (if dec (Seen bk i i) = true then _ else _) = _
        rw [if_pos (dec_iff.mpr sn)]
       exact iteF ⟨ks, _, _, _, _, by rw [ew], sG, gd, nk, kl, fun d => by rw [seen_old sn]; exact mk d⟩
     . rw [decide_eq_false q]
       have ns : ¬ Seen bk i i := fun z => q ((mk i).mpr z)
       have ew : ways n w' h' bk (i + 1) = ways n w' h' bk i * (goodC n w' h' bk i).length := by
        show (if dec (Seen bk i i) = true then _ else _) = _
        rw [if_neg (by rw [dec_no.mpr ns]; exact Bool.false_ne_true)]
       refine iteT ⟨_, rfl, _, rfl, _, rfl, p, x, fp, bk, n, w', h', i, rfl, BA.same sG, TA.same sG, hi, fun D fs G1 hD s2 gD tol => ?_⟩
       have gd1 := s2 _ _ gd
       walk_at "ns"
       refine ⟨_, rfl, D, _, rfl, .inl (SqL.of gD), rfl, _, rfl, ?_⟩
       rw [List.length_map]
       refine iteD2 (fun z => ?_) (fun nz => ?_)
       . have z0 : (goodC n w' h' bk i).length = 0 := by have := V.int.inj z; omega
         have w0 : ways n w' h' bk bk.ps.length = 0 := ways_zero (i := i + 1) (by rw [ew, z0, Nat.mul_zero]) _ (by omega)
         have := k G1 (sG.trans s2)
         rw [w0] at this
         exact this
       . have gl : (goodC n w' h' bk i).length <= n := by
          unfold goodC
          exact Nat.le_trans (List.length_filter_le _ _) (by rw [List.length_range]; exact Nat.le_refl _)
         have n8 := TA.n8
         refine ⟨_, rfl, _, rfl, D, _, rfl, .inl (SqL.of gD), _, _, rfl, rfl, .inr ⟨by rw [List.length_map]; omega, by rw [List.length_map]; omega⟩, ?_⟩
         rw [List.length_map]
         have hne : goodC n w' h' bk i ≠ [] := fun z => nz (by rw [z]; rfl)
         obtain ⟨c0, r0, eg⟩ := List.exists_cons_of_ne_nil hne
         obtain ⟨q0, ms, f0, g0, T0⟩ := tol c0 (by rw [eg]; exact List.mem_cons_self)
         have at0 : atI ((goodC n w' h' bk i).map fs) 0 = some (.ref q0) := atI_nat (j := 0) (by rw [eg, <- f0]; rfl)
         have nq : q0 ≠ Dd := fun z => by rw [z, gd1] at g0; cases g0
         walk_at "ns"
         refine ⟨_, rfl, D, _, 0, _, rfl, rfl, SqL.of gD, at0, q0, rfl, ⟨_, SqL.of g0⟩, ?_⟩
         refine for_enum (xs := ms.map optV) (fun j σ G' => ∃ ks' o6 o7, σ = [some (.ref p), some (.ref x), some (nat (ways n w' h' bk (i + 1))), some (.ref Dd), some (nat i), some (.ref D), o6, o7] /\ (∀ c o, G1 c = some o -> c ≠ Dd -> G' c = some o) /\ G' Dd = some (.dK (kvOf ks')) /\ ks'.Nodup /\ (∀ d ∈ ks', d < bk.ps.length) /\ ∀ d, d ∈ ks' ↔ d ∈ ks \/ (d < j /\ Hang bk i d)) ⟨ks, _, _, by rw [ew]; rfl, fun c o h _ => h, gd1, nk, kl, fun d => ⟨.inl, fun z => z.elim id fun y => absurd y.1 (Nat.not_lt_zero _)⟩⟩ (fun j σ G' _ ⟨_, _, _, _, kp, _⟩ => SqL.of (kp _ _ g0 nq)) ?_ ?_
         . rintro j v σ G' hj ⟨ks', o6', o7', rfl, kp, gd', nk', kl', mk'⟩ T hT
           have nT : T ≠ Dd := fun z => by rw [z, gd'] at hT; cases hT
           rw [List.getElem?_map] at hj
           obtain ⟨o, ho, rfl⟩ := Option.map_eq_some_iff.mp hj
           have lj : j < bk.ps.length := by rw [<- T0.len]; exact (List.getElem?_eq_some_iff.mp ho).1
           have gd2 : (upd G' T (.tup [nat j, optV o])) Dd = some (.dK (kvOf ks')) := by rw [upd_ne (Ne.symm nT)]; exact gd'
           have kp2 : ∀ c o', G1 c = some o' -> c ≠ Dd -> (upd G' T (.tup [nat j, optV o])) c = some o' := fun c o' hc nc => by
            have := kp c o' hc nc
            rw [upd_ne (fun z => by rw [z, hT] at this; cases this)]; exact this
           have gT : (upd G' T (.tup [nat j, optV o])) T = some (.tup [nat j, optV o]) := upd_same
           generalize upd G' T (.tup [nat j, optV o]) = G2 at gd2 kp2 gT
           refine ⟨T, _, rfl, SqT.of gT, rfl, _, _, rfl, _, _, rfl, rfl, ?_⟩
           walk_at "ns"
           cases o with
           | none =>
             refine ⟨_, rfl, rfl, _, rfl, iteF ⟨ks', _, _, rfl, kp2, gd2, nk', kl', fun d => ?_⟩⟩
             have nh : ¬ Hang bk i j := fun z => by
              obtain ⟨k', y⟩ := T0.hang_iff.mpr z
              rw [ho] at y; cases y
             rw [mk' d]
             constructor
             . rintro (y | y)
               . exact .inl y
               . exact .inr ⟨by omega, y.2⟩
             . rintro (y | ⟨y1, y2⟩)
               . exact .inl y
               . rcases Nat.lt_or_ge d j with u | u
                 . exact .inr ⟨u, y2⟩
                 . exact absurd ((by omega : d = j) ▸ y2) nh
           | some k1 =>
             have yh : Hang bk i j := T0.hang_iff.mp ⟨k1, ho⟩
             have kl60 : ks'.length <= bk.ps.length := nodup_len _ _ nk' kl'
             refine ⟨_, rfl, rfl, _, rfl, iteT ⟨_, rfl, _, rfl, Dd, _, rfl, DPut.k (k := Sum.inl (j : Int)) gd2 (by unfold kvOf; rw [List.length_map]; omega), ?_⟩⟩
             rw [putK_kv]
             refine ⟨_, _, _, rfl, fun c o hc nc => by rw [upd_ne nc]; exact kp2 c o hc nc, upd_same, ?_, fun d hd => ?_, fun d => ?_⟩
             . by_cases z : j ∈ ks'
               . rw [if_pos z]; exact nk'
               . rw [if_neg z]; exact nsnoc nk' z
             . by_cases z : j ∈ ks'
               . rw [if_pos z] at hd; exact kl' d hd
               . rw [if_neg z] at hd
                 rcases List.mem_append.mp hd with y | y
                 . exact kl' d y
                 . rw [List.mem_singleton.mp y]; exact lj
             . have e : d ∈ (if j ∈ ks' then ks' else ks' ++ [j]) ↔ d ∈ ks' \/ d = j := by
                by_cases z : j ∈ ks'
                . rw [if_pos z]
                  exact ⟨.inl, fun y => y.elim id fun y => by rw [y]; exact z⟩
                . rw [if_neg z, List.mem_append, List.mem_singleton]
               rw [e, mk' d]
               constructor
               . rintro ((y | y) | y)
                 . exact .inl y
                 . exact .inr ⟨by omega, y.2⟩
                 . rw [y]; exact .inr ⟨by omega, yh⟩
               . rintro (y | ⟨y1, y2⟩)
                 . exact .inl (.inl y)
                 . rcases Nat.lt_or_ge d j with u | u
                   . exact .inl (.inr ⟨u, y2⟩)
                   . exact .inr (by omega)
         . rintro σ G' ⟨ks', o6', o7', rfl, kp, gd', nk', kl', mk'⟩
           refine ⟨ks', _, _, _, _, rfl, fun c o hc => kp c o (s2 _ _ (sG _ _ hc)) (fun z => by rw [z, hDd] at hc; cases hc), gd', nk', kl', fun d => ?_⟩
           rw [mk' d, mk d, seen_new, List.length_map, T0.len]
           constructor
           . rintro (y | y)
             . exact .inl y
             . exact .inr y.2
           . rintro (y | y)
             . exact .inl y
             . exact .inr ⟨y.lt ok hi, y⟩
   . rintro σ G ⟨ks, o4, o5, o6, o7, rfl, sG, gd, nk, kl, mk⟩
     exact ⟨_, rfl, k G sG⟩
end
theorem allL_len (n : Nat) : ∀ k, (allL n k).length = n ^ k
 | 0 => rfl
 | k + 1 => by
   unfold allL
   rw [List.length_flatMap, Nat.pow_succ, <- allL_len n k]
   have : ∀ l : List (List Nat), (l.map fun x => ((List.range n).map fun c => x ++ [c]).length).sum = l.length * n := fun l => by
    induction l with
    | nil => simp
    | cons x l ih => rw [List.map_cons, List.sum_cons, ih, List.length_map, List.length_range, List.length_cons, Nat.succ_mul, Nat.add_comm]
   exact this _
theorem allL_small {n k : Nat} (n3 : n <= 3) (k6 : k <= 6) : (allL n k).length <= 729 := by
 rw [allL_len]
 exact Nat.le_trans (Nat.pow_le_pow_left n3 k) (Nat.le_trans (Nat.pow_le_pow_right (by decide) k6) (by decide))
def spLists : Sp := fun vs H Q _ => ∃ (k n : Nat), vs = [nat k, nat n] /\ n <= 3 /\ k <= 6 /\ ∀ D ps H', H D = none -> Same H H' -> H' D = some (.lst (ps.map V.ref)) -> LsAt H' ps ((allL n k).map intL) -> Q (.ref D) H'
def spToldW (C : Addr) (e : Ad) : Sp := fun vs H Q _ => ∃ (b x LP LR LT D1 D2 : Addr) (fp ts us : List Addr) (bk : Bk) (n : Nat) (w h : List Nat), vs = [.ref b, .ref x, .ref LP, .ref LR, .ref LT] /\ BookAt e.Book H b fp bk /\ TableAt C H x n w h /\ PeopleAt H LP ts bk.ps /\ PairsAt H LR us bk.prs /\ H LT = some (.lst [.ref D1, .ref D2]) /\ H D1 = some (.lst (natL w)) /\ H D2 = some (.lst (natL h)) /\ bk.ps.length <= 6 /\ n <= 3 /\
 ∀ H', Same H H' -> Q (.bl true) H'
def spPartsDue : Sp := fun vs H Q _ => ∃ (LP LR LT D1 D2 : Addr) (ts us : List Addr) (bk : Bk) (n : Nat) (w h : List Nat), vs = [.ref LP, .ref LR, .ref LT] /\ PeopleAt H LP ts bk.ps /\ PairsAt H LR us bk.prs /\ BkOk bk /\ H LT = some (.lst [.ref D1, .ref D2]) /\ H D1 = some (.lst (natL w)) /\ H D2 = some (.lst (natL h)) /\ IsTurn n w /\ IsTurn n h /\ n <= 8 /\
 ∀ H', Same H H' -> Q (nat (ways n w h bk bk.ps.length)) H'
theorem ls_push {H : Hp} {ps : List Addr} {xss : List (List Int)} {p : Addr} {xs : List Int} (h : LsAt H ps xss) (hp : H p = some (.lst (xs.map V.int))) : LsAt H (ps ++ [p]) (xss ++ [xs]) := by
 refine ⟨by rw [List.length_append, List.length_append, h.len]; rfl, fun i q ys a b => ?_⟩
 by_cases c : i < ps.length
 . rw [List.getElem?_append_left c] at a
   rw [List.getElem?_append_left (by rw [<- h.len]; exact c)] at b
   exact h.at_ i q ys a b
 . have e : i = ps.length := by
    have := (List.getElem?_eq_some_iff.mp a).1
    rw [List.length_append] at this
    have e1 : [p].length = 1 := rfl
    omega
   subst e
   rw [List.getElem?_append_right (Nat.le_refl _), Nat.sub_self] at a
   rw [List.getElem?_append_right (by rw [h.len]; exact Nat.le_refl _), h.len, Nat.sub_self] at b
   cases Option.some.inj a
   cases Option.some.inj b
   exact hp
theorem ls_stay {H H' : Hp} {ps : List Addr} {xss : List (List Int)} (h : LsAt H ps xss) (s : ∀ p ∈ ps, ∀ o, H p = some o -> H' p = some o) : LsAt H' ps xss := ⟨h.len, fun i p xs a b => s p (List.mem_of_getElem? a) _ (h.at_ i p xs a b)⟩
section
variable {P : Program} {w : World} {K : W.Frag} {mg : Str -> Option Value} {base : Heap} {CX : CXT} {C : Addr} {e : Ad}
theorem sc_lists : FnScope ["size", "many", "rows", "k", "longer", "row", "c"] ["size", "many"] (defScope (top 45)) := mkSc
theorem ok_lists {f : Addr} {fd : FuncData} (F : Fun K "_law_lists" "_law_lists" (top 45) f fd) (T : Txt K mg C e) : FnOk P w K mg base CX 1 f fd ["size", "many"] spLists := by
 refine F.okN sc_lists (fun vs H Q E h => ?_) (fun cdv A outer s H vs Q E hr h => ?_)
 . obtain ⟨k, n, rfl, _⟩ := h; rfl
 . obtain ⟨sz, n, rfl, n3, k6, k⟩ := h
   have nd := sc_lists.nd
   have big : 4000 <= sizeLine := by decide
   refine ⟨_, (pss_cons (ps_set (i := 2) nd rfl (Or.inl rfl) (pe_lst (pa_cons (pe_lst pa_nil) pa_nil)))
    (pss_cons (ps_for PassesOwn.never rfl (pi_range1 rfl T.z_range (pa_cons (pv 0) pa_nil)) (pg_name (i := 3) nd rfl (Or.inl rfl)) (pss_cons (ps_set (i := 4) nd rfl (Or.inl rfl) (pe_lst pa_nil))
    (pss_cons (ps_for PassesOwn.never rfl (pi_list (pv 2)) (pg_name (i := 5) nd rfl (Or.inl rfl)) (pss_one (ps_for PassesOwn.never rfl (pi_range1 rfl T.z_range (pa_cons (pv 1) pa_nil)) (pg_name (i := 6) nd rfl (Or.inl rfl)) (pss_one (ps_expr (pe_bm PySem.F.plainAttrs_list PySem.F.slot_list_append PySem.F.type_list_append mt_append (pv 4) (pa_cons (pe_op op_cat (pv 5) (pe_lst (pa_cons (pv 6) pa_nil))) pa_nil)))))))
    (pss_one (ps_set (i := 2) nd rfl (Or.inl rfl) (pv 4))))))
    (pss_one (ps_ret (pv 2))))), ?_⟩
   refine ⟨by decide, fun l0 hl0 => ?_⟩
   have s0 := same_new (o := .lst []) hl0
   have g0 : (upd H l0 (.lst [])) l0 = some (.lst (([] : List Int).map V.int)) := upd_same
   generalize upd H l0 (.lst []) = H0 at s0 g0
   refine ⟨one_fits, fun Dr0 hDr0 => ?_⟩
   have s1 := s0.trans (same_new (o := .lst [.ref l0]) hDr0)
   have gr0 : (upd H0 Dr0 (.lst [.ref l0])) Dr0 = some (.lst ([l0].map V.ref)) := upd_same
   have g1 : (upd H0 Dr0 (.lst [.ref l0])) l0 = some (.lst (([] : List Int).map V.int)) := by rw [upd_ne (ne_of_none g0 hDr0)]; exact g0
   have fr0 : H Dr0 = none := s0.free hDr0
   generalize upd H0 Dr0 (.lst [.ref l0]) = H1 at s1 gr0 g1
   walk_at "ns"
   refine ⟨_, rfl, _, rfl, by omega, by omega, ?_⟩
   rw [Int.toNat_natCast]
   refine for_range0 (fun i σ G => ∃ (ps : List Addr) (Dr : Addr) (o3 o4 o5 o6 : Option V), σ = [some (nat sz), some (nat n), some (.ref Dr), o3, o4, o5, o6] /\ Same H G /\ H Dr = none /\ G Dr = some (.lst (ps.map V.ref)) /\ LsAt G ps ((allL n i).map intL)) ⟨[l0], Dr0, none, none, none, none, rfl, s1, fr0, gr0, rfl, fun i p xs a b => ?_⟩ ?_ ?_
   . rcases i with _ | i
     . cases Option.some.inj a
       cases Option.some.inj b
       exact g1
     . cases a
   . rintro i σ G hi ⟨ps, Dr, o3, o4, o5, o6, rfl, sG, fr, gr, ls⟩
     have al := allL_small (n := n) (k := i + 1) n3 (by omega)
     have pl : ps.length = (allL n i).length := by rw [ls.len, List.length_map]
     walk_at "ns"
     refine ⟨by decide, fun Dl hDl => ?_⟩
     have s2 := same_new (o := .lst []) hDl
     have gl0 : (upd G Dl (.lst [])) Dl = some (.lst (([] : List Addr).map V.ref)) := upd_same
     generalize upd G Dl (.lst []) = G1 at s2 gl0
     have hDlH : H Dl = none := sG.free hDl
     have gr1 := s2 _ _ gr
     have ls1 := ls.same s2
     have nrl : Dr ≠ Dl := ne_of_none gr hDl
     walk_at "ns"
     refine ⟨_, rfl, Dr, rfl, ⟨_, SqL.of gr1⟩, for_list (xs := ps.map V.ref) (fun j σ G' => ∃ (qs : List Addr) (o5 o6 : Option V), σ = [some (nat sz), some (nat n), some (.ref Dr), some (nat i), some (.ref Dl), o5, o6] /\ (∀ c o, G c = some o -> G' c = some o) /\ G' Dl = some (.lst (qs.map V.ref)) /\ LsAt G' qs ((((allL n i).take j).flatMap fun l => (List.range n).map fun c => l ++ [c]).map intL) /\ ∀ q ∈ qs, q ≠ Dl) ⟨[], _, _, rfl, fun c o h => s2 _ _ h, gl0, ⟨rfl, fun i p xs z => (by cases z)⟩, fun q z => (by cases z)⟩ (fun m σ G' _ ⟨_, _, _, _, kp, _⟩ => SqL.of (kp _ _ gr)) ?_ ?_⟩
     . rintro j v σ G' hj ⟨qs, o5', o6', rfl, kp, gl, lq, nq⟩
       rw [List.getElem?_map] at hj
       obtain ⟨p, hp, rfl⟩ := Option.map_eq_some_iff.mp hj
       have lj : j < (allL n i).length := by rw [<- pl]; exact (List.getElem?_eq_some_iff.mp hp).1
       have hrow : (allL n i)[j]? = some (allL n i)[j] := List.getElem?_eq_getElem lj
       generalize hrw : (allL n i)[j] = row at hrow
       have gp : G p = some (.lst ((intL row).map V.int)) := ls.at_ j p _ hp (by rw [List.getElem?_map, hrow]; rfl)
       have rl : row.length = i := ((mem_allL i row).mp (List.mem_of_getElem? hrow)).1
       have tl : ((((allL n i).take (j + 1)).flatMap fun l => (List.range n).map fun c => l ++ [c])) = (((allL n i).take j).flatMap fun l => (List.range n).map fun c => l ++ [c]) ++ (List.range n).map fun c => row ++ [c] := by
        rw [List.take_add_one, hrow, List.flatMap_append]
        simp
       have tot : ((((allL n i).take j).flatMap fun l => (List.range n).map fun c => l ++ [c])).length + n <= 729 := by
        have e1 : (allL n (i + 1)).length = ((allL n i).take (j + 1)).length * n + ((allL n i).drop (j + 1)).length * n := by
         rw [allL_len, Nat.pow_succ, <- allL_len n i, <- Nat.add_mul, <- List.length_append, List.take_append_drop]
        have e2 : ∀ l : List (List Nat), (l.flatMap fun x => (List.range n).map fun c => x ++ [c]).length = l.length * n := fun l => by
         rw [List.length_flatMap]
         induction l with
         | nil => simp
         | cons x l ih => rw [List.map_cons, List.sum_cons, ih, List.length_map, List.length_range, List.length_cons, Nat.succ_mul, Nat.add_comm]
        have e3 := congrArg List.length tl
        rw [e2, List.length_append, List.length_map, List.length_range] at e3
        omega
       generalize ((((allL n i).take j).flatMap fun l => (List.range n).map fun c => l ++ [c])) = X at lq tl tot
       walk_at "ns"
       refine ⟨_, rfl, _, rfl, by omega, by omega, ?_⟩
       rw [Int.toNat_natCast]
       refine for_range0 (fun c σ G2 => ∃ (rs : List Addr) (o6 : Option V), σ = [some (nat sz), some (nat n), some (.ref Dr), some (nat i), some (.ref Dl), some (.ref p), o6] /\ (∀ c o, G c = some o -> G2 c = some o) /\ G2 Dl = some (.lst (rs.map V.ref)) /\ LsAt G2 rs ((X ++ (List.range c).map fun c => row ++ [c]).map intL) /\ ∀ q ∈ rs, q ≠ Dl) ⟨qs, _, rfl, kp, gl, by rw [List.range_zero, List.map_nil, List.append_nil]; exact lq, nq⟩ ?_ ?_
       . rintro c σ G2 hc ⟨rs, o6'', rfl, kp2, gl2, lr, nr⟩
         have rsl : rs.length = X.length + c := by rw [lr.len, List.length_map, List.length_append, List.length_map, List.length_range]
         walk_at "ns"
         refine ⟨_, rfl, .inl ⟨rfl, _, SqL.of gl2⟩, _, rfl, _, rfl, one_fits, fun l1 hl1 => ?_⟩
         have q1 := same_new (o := .lst [nat c]) hl1
         have gl1 : (upd G2 l1 (.lst [nat c])) l1 = some (.lst [nat c]) := upd_same
         generalize upd G2 l1 (.lst [nat c]) = G3 at q1 gl1
         refine ⟨p, l1, _, _, rfl, rfl, q1 _ _ (kp2 _ _ gp), gl1, by rw [List.length_map, intL_len, rl]; show i + 1 <= sizeLine; omega, fun l2 hl2 => ?_⟩
         have q2 := same_new (o := .lst ((intL row).map V.int ++ [nat c])) hl2
         have gl2' : (upd G3 l2 (.lst ((intL row).map V.int ++ [nat c]))) l2 = some (.lst ((intL (row ++ [c])).map V.int)) := by
          rw [upd_same]
          unfold intL
          rw [List.map_append, List.map_append]
          rfl
         generalize upd G3 l2 (.lst ((intL row).map V.int ++ [nat c])) = G4 at q2 gl2'
         have q12 := q1.trans q2
         have nl2 : l2 ≠ Dl := fun z => by rw [z, q1 _ _ gl2] at hl2; cases hl2
         refine ⟨Dl, _, _, rfl, rfl, q12 _ _ gl2, by rw [List.length_map]; omega, ?_⟩
         refine ⟨rs ++ [l2], _, rfl, fun a o ha => ?_, by rw [upd_same, List.map_append]; rfl, ?_, fun q hq => ?_⟩
         . rw [upd_ne (fun z => by rw [z, hDl] at ha; cases ha)]; exact q12 _ _ (kp2 _ _ ha)
         . rw [show (X ++ (List.range (c + 1)).map fun c => row ++ [c]).map intL = (X ++ (List.range c).map fun c => row ++ [c]).map intL ++ [intL (row ++ [c])] by rw [List.range_succ]; simp]
           refine ls_push (ls_stay lr fun q hq o ho => ?_) ?_
           . rw [upd_ne (nr q hq)]; exact q12 _ _ ho
           . rw [upd_ne nl2]; exact gl2'
         . rcases List.mem_append.mp hq with z | z
           . exact nr q z
           . rw [List.mem_singleton.mp z]; exact nl2
       . rintro σ G2 ⟨rs, o6'', rfl, kp2, gl2, lr, nr⟩
         exact ⟨rs, _, _, rfl, kp2, gl2, by rw [tl]; exact lr, nr⟩
     . rintro σ G' ⟨qs, o5', o6', rfl, kp, gl, lq, nq⟩
       rw [List.length_map, pl, List.take_length] at lq
       walk_at "ns"
       exact ⟨_, rfl, qs, Dl, _, _, _, _, rfl, fun c o hc => kp _ _ (sG _ _ hc), hDlH, gl, lq⟩
   . rintro σ G ⟨ps, Dr, o3, o4, o5, o6, rfl, sG, fr, gr, ls⟩
     exact ⟨_, rfl, k Dr ps G fr sG gr ls⟩
end
section
variable {P : Program} {w : World} {K : W.Frag} {mg : Str -> Option Value} {base : Heap} {CX : CXT} {C : Addr} {e : Ad}
theorem nat_opt (l : List Nat) : (intL l).map V.int = (l.map some).map optV := by
 unfold intL
 rw [List.map_map, List.map_map]
 rfl
theorem sc_toldw : FnScope ["book", "table", "people", "pairs", "turns", "due", "told", "found"] ["book", "table", "people", "pairs", "turns"] (defScope (top 46)) := mkSc
theorem ok_toldw {f : Addr} {fd : FuncData} (F : Fun K "_law_told" "_law_told" (top 46) f fd) (T : Txt K mg C e) (hE : NoE (CXR P w)) (D__q9 : Def P w K mg base (CXR P w) "_law_lists" 1 ["size", "many"] spLists) (D__q13 : Def P w K mg base (CXR P w) "_law_fits" 1 ["people", "pairs", "told", "wives", "heirs"] spFits) (D__q10 : Def P w K mg base (CXR P w) "_law_whole" 1 ["found"] spWhole) (D_many_ways : Def P w K mg base (CXR P w) "many_ways" 9 ["book", "table"] (spManyWays C e)) : FnOk P w K mg base (CXR P w) 10 f fd ["book", "table", "people", "pairs", "turns"] (spToldW C e) := by
 refine F.okN sc_toldw (fun vs H Q E h => ?_) (fun cdv A outer s H vs Q E hr h => ?_)
 . obtain ⟨b, x, LP, LR, LT, D1, D2, fp, ts, us, bk, n, w, h, rfl, _⟩ := h; rfl
 . obtain ⟨b, x, LP, LR, LT, D1, D2, fp, ts, us, bk, n, w', h', rfl, BA, TA, pe, pa, gT, g1, g2, k6, n3, k⟩ := h
   have nd := sc_toldw.nd
   have ok := BA.ok
   have tw := TA.tw
   have th := TA.th
   have tl := pe.len
   refine ⟨_, (pss_cons (ps_set (i := 5) nd rfl (Or.inl rfl) pe_int)
    (pss_cons (ps_for PassesOwn.never rfl (pi_list (pe_callD D__q9 hE hr rfl (pa_cons (pe_callB call_len_seq rfl T.z_len PySem.boot_len (pa_cons (pv 2) pa_nil)) (pa_cons (pe_callB call_len_seq rfl T.z_len PySem.boot_len (pa_cons (pe_ix ix_list (pv 4) pe_int (fun _ _ => rfl)) pa_nil)) pa_nil)))) (pg_name (i := 6) nd rfl (Or.inl rfl)) (pss_one (ps_if (pt_val (pe_callD D__q13 hE hr rfl (pa_cons (pv 2) (pa_cons (pv 3) (pa_cons (pv 6) (pa_cons (pe_ix ix_list (pv 4) pe_int (fun _ _ => rfl)) (pa_cons (pe_ix ix_list (pv 4) pe_int (fun _ _ => rfl)) pa_nil))))))) (pss_one (ps_set (i := 5) nd rfl (Or.inl rfl) (pe_op op_add (pv 5) pe_int))) pss_nil)))
    (pss_cons (ps_set (i := 7) nd rfl (Or.inl rfl) (pe_callD D_many_ways hE hr rfl (pa_cons (pv 0) (pa_cons (pv 1) pa_nil))))
    (pss_one (ps_ret (pe_and (pe_callD D__q10 hE hr rfl (pa_cons (pv 7) pa_nil)) (pe_one (pe_cmpR op_eq (pv 7) (pv 5) (nomark _))))))))), ?_⟩
   walk_at "ns"
   refine ⟨_, rfl, LP, _, rfl, .inl (SqL.of pe.l), _, rfl, LT, _, 0, _, rfl, rfl, SqL.of gT, rfl, D1, _, rfl, .inl (SqL.of g1), bk.ps.length, n, by rw [List.length_map, tl, natL_len, tw.len] <;> rfl, n3, k6, fun D ps G hD sG gD ls => ?_⟩
   have pl : ps.length = (allL n bk.ps.length).length := by rw [ls.len, List.length_map]
   refine ⟨D, rfl, ⟨_, SqL.of gD⟩, for_list (xs := ps.map V.ref) (fun j σ G' => ∃ o6, σ = [some (.ref b), some (.ref x), some (.ref LP), some (.ref LR), some (.ref LT), some (nat (((allL n bk.ps.length).take j).filter fun l => dec (FitsO w' h' bk (l.map some))).length), o6, none] /\ G' = G) ⟨none, rfl, rfl⟩ (fun m σ G' _ ⟨_, _, z⟩ => by rw [z]; exact SqL.of gD) ?_ ?_⟩
   . rintro j v σ G' hj ⟨o6, rfl, rfl⟩
     rw [List.getElem?_map] at hj
     obtain ⟨p, hp, rfl⟩ := Option.map_eq_some_iff.mp hj
     have lj : j < (allL n bk.ps.length).length := by rw [<- pl]; exact (List.getElem?_eq_some_iff.mp hp).1
     have hrow : (allL n bk.ps.length)[j]? = some (allL n bk.ps.length)[j] := List.getElem?_eq_getElem lj
     generalize (allL n bk.ps.length)[j] = row at hrow
     obtain ⟨rl, rlt⟩ := (mem_allL _ row).mp (List.mem_of_getElem? hrow)
     have gp : G' p = some (.lst ((row.map some).map optV)) := by rw [<- nat_opt]; exact ls.at_ j p _ hp (by rw [List.getElem?_map, hrow]; rfl)
     walk_at "ns"
     refine ⟨_, rfl, _, rfl, _, rfl, _, rfl, LT, _, 0, _, rfl, rfl, SqL.of (sG _ _ gT), rfl, _, rfl, LT, _, 1, _, rfl, rfl, SqL.of (sG _ _ gT), rfl, LP, LR, p, D1, D2, ts, us, bk, n, w', h', row.map some, rfl, pe.same sG, pa.same sG, ok, gp, sG _ _ g1, sG _ _ g2, tw, th, by rw [List.length_map, rl], fun i k hk => ?_, fun b' hb => ⟨_, rfl, ?_⟩⟩
     . have := oat_some.mp hk
       rw [List.getElem?_map] at this
       obtain ⟨k', hk', e'⟩ := Option.map_eq_some_iff.mp this
       cases Option.some.inj e'
       exact rlt k (List.mem_of_getElem? hk')
     . have tk : ((allL n bk.ps.length).take (j + 1)).filter (fun l => dec (FitsO w' h' bk (l.map some))) = ((allL n bk.ps.length).take j).filter (fun l => dec (FitsO w' h' bk (l.map some))) ++ (if b' = true then [row] else []) := by
        rw [List.take_add_one, hrow, List.filter_append]
        congr 1
        have ed : dec (FitsO w' h' bk (row.map some)) = b' := by
         cases hb' : b' with
         | true => exact dec_iff.mpr (hb.mp hb')
         | false => exact dec_no.mpr (fun z => by rw [hb.mpr z] at hb'; cases hb')
        show [row].filter (fun l => dec (FitsO w' h' bk (l.map some))) = _
        cases hb' : b' with
        | true => rw [hb'] at ed; simp [ed]
        | false => rw [hb'] at ed; simp [ed]
       refine iteB (fun hb' => ?_) (fun hb' => ?_)
       . refine ⟨_, rfl, _, _, rfl, rfl, some (.ref p), ?_, rfl⟩
         rw [tk, hb', if_pos rfl, List.length_append]
         rfl
       . refine ⟨some (.ref p), ?_, rfl⟩
         rw [tk, hb', if_neg Bool.false_ne_true, List.append_nil]
   rintro σ G' ⟨o6, rfl, rfl⟩
   rw [List.length_map, pl, List.take_length, ways_count ok tw th]
   refine ⟨_, rfl, _, rfl, b, x, fp, bk, n, w', h', rfl, BA.same sG, TA.same sG, fun G2 s2 => ?_⟩
   walk_at "ns"
   refine ⟨_, rfl, _, rfl, true, rfl, iteT ?_⟩
   refine ⟨_, rfl, _, rfl, rfl, ?_⟩
   show Q (.bl (decide (nat _ = nat _))) G2
   rw [decide_eq_true rfl]
   exact k _ (sG.trans s2)
theorem sc_partsdue : FnScope ["people", "pairs", "turns", "due", "seen", "a"] ["people", "pairs", "turns"] (defScope (top 49)) := mkSc
theorem ok_partsdue {f : Addr} {fd : FuncData} (F : Fun K "_law_parts_due" "_law_parts_due" (top 49) f fd) (T : Txt K mg C e) (hE : NoE (CXR P w)) (D__q2 : Def P w K mg base (CXR P w) "_law_together" 1 ["people", "pairs", "a"] spTogether) (D__q6 : Def P w K mg base (CXR P w) "_law_clash" 2 ["people", "pairs", "turns", "a", "c"] spClash) : FnOk P w K mg base (CXR P w) 3 f fd ["people", "pairs", "turns"] spPartsDue := by
 refine F.okN sc_partsdue (fun vs H Q E h => ?_) (fun cdv A outer s H vs Q E hr h => ?_)
 . obtain ⟨LP, LR, LT, D1, D2, ts, us, bk, n, w, h, rfl, _⟩ := h; rfl
 . obtain ⟨LP, LR, LT, D1, D2, ts, us, bk, n, w', h', rfl, pe, pa, ok, gT, g1, g2, tw, th, n8, k⟩ := h
   have nd := sc_partsdue.nd
   have n60 := ok.n60
   have tl := pe.len
   have big : 4000 <= sizeLine := by decide
   refine ⟨_, (pss_cons (ps_set (i := 3) nd rfl (Or.inl rfl) pe_int)
    (pss_cons (ps_set (i := 4) nd rfl (Or.inl rfl) (pe_lst pa_nil))
    (pss_cons (ps_for PassesOwn.never rfl (pi_range1 rfl T.z_range (pa_cons (pe_callB call_len_seq rfl T.z_len PySem.boot_len (pa_cons (pv 0) pa_nil)) pa_nil)) (pg_name (i := 5) nd rfl (Or.inr rfl)) (pss_one (ps_if (pt_cmpR op_notIn_seq (pv 5) (pv 4) (by with_unfolding_all rfl)) (pss_cons (ps_set (i := 4) nd rfl (Or.inl rfl) (pe_op op_cat (pv 4) (pe_callD D__q2 hE hr rfl (pa_cons (pv 0) (pa_cons (pv 1) (pa_cons (pv 5) pa_nil))))))
    (pss_one (ps_set (i := 3) nd rfl (Or.inl rfl) (pe_op op_mul (pv 3) (pe_callB call_len_seq rfl T.z_len PySem.boot_len (pa_cons (pe_compF (fv := [("a", 5), ("pairs", 1), ("people", 0), ("turns", 2)]) ⟨rfl, by decide +kernel, rfl, by decide +kernel, rfl, by decide +kernel, ⟨⟨rfl, Or.inl rfl, Or.inl rfl, rfl⟩, ⟨⟨rfl, Or.inl rfl, Or.inl rfl, rfl⟩, ⟨⟨rfl, Or.inl rfl, Or.inl rfl, rfl⟩, ⟨⟨rfl, Or.inl rfl, Or.inl rfl, rfl⟩, trivial⟩⟩⟩⟩, rfl, rfl⟩ rfl (pi_range1 rfl T.z_range (pa_cons (pe_callB call_len_seq rfl T.z_len PySem.boot_len (pa_cons (pe_ix ix_list (pv 2) pe_int (fun _ _ => rfl)) pa_nil)) pa_nil)) (fun _ _ _ => (pv 0)) (fun _ _ _ => (pt_not (pt_val (pe_callD D__q6 hE hr rfl (pa_cons (pv 3) (pa_cons (pv 2) (pa_cons (pv 4) (pa_cons (pv 1) (pa_cons (pv 0) pa_nil)))))))))) pa_nil)))))) pss_nil)))
    (pss_one (ps_ret (pv 3)))))), ?_⟩
   walk_at "ns"
   refine ⟨by decide, fun Ds0 hDs0 => ?_⟩
   have s0 := same_new (o := .lst []) hDs0
   have gs0 : (upd H Ds0 (.lst [])) Ds0 = some (.lst (natL [])) := upd_same
   generalize upd H Ds0 (.lst []) = H0 at s0 gs0
   walk_at "ns"
   refine ⟨_, rfl, LP, _, rfl, .inl (SqL.of (s0 _ _ pe.l)), _, rfl, by rw [List.length_map]; omega, by rw [List.length_map]; omega, ?_⟩
   rw [List.length_map, tl, Int.toNat_natCast]
   refine for_range0 (fun i σ G => ∃ (xs : List Nat) (Ds : Addr) (o5 : Option V), σ = [some (.ref LP), some (.ref LR), some (.ref LT), some (nat (ways n w' h' bk i)), some (.ref Ds), o5] /\ Same H G /\ G Ds = some (.lst (natL xs)) /\ (∀ d, d ∈ xs ↔ Seen bk i d) /\ xs.length <= 60 * i) ⟨[], Ds0, none, rfl, s0, gs0, fun d => ⟨fun z => (by cases z), fun ⟨a, z, _⟩ => absurd z (Nat.not_lt_zero _)⟩, Nat.le_refl _⟩ ?_ ?_
   . rintro i σ G hi ⟨xs, Ds, o5, rfl, sG, gs, mk, xl⟩
     walk_at "ns"
     refine ⟨_, rfl, _, rfl, Ds, _, rfl, .inl (SqL.of gs), rfl, natL_flat _, _, rfl, ?_⟩
     show if (!inV (nat i) (natL xs)) = true then _ else _
     rw [inV_natL]
     by_cases q : i ∈ xs
     . rw [decide_eq_true q]
       have sn := (mk i).mp q
       have ew : ways n w' h' bk (i + 1) = ways n w' h' bk i := by
        show (if dec (Seen bk i i) = true then _ else _) = _
        rw [if_pos (dec_iff.mpr sn)]
       exact iteF ⟨xs, Ds, _, by rw [ew], sG, gs, fun d => by rw [seen_old sn]; exact mk d, by omega⟩
     . rw [decide_eq_false q]
       have ns : ¬ Seen bk i i := fun z => q ((mk i).mpr z)
       have ew : ways n w' h' bk (i + 1) = ways n w' h' bk i * (goodC n w' h' bk i).length := by
        show (if dec (Seen bk i i) = true then _ else _) = _
        rw [if_neg (by rw [dec_no.mpr ns]; exact Bool.false_ne_true)]
       refine iteT ⟨_, rfl, _, rfl, _, rfl, _, rfl, LP, LR, ts, us, bk, i, rfl, pe.same sG, pa.same sG, ok, hi, fun D ys G1 hD s1 gD my ny => ?_⟩
       have yl : ys.length <= bk.ps.length := nodup_len _ _ ny fun d hd => ((my d).mp hd).lt ok hi
       refine ⟨Ds, D, _, _, rfl, rfl, s1 _ _ gs, gD, by rw [natL_len, natL_len]; omega, fun D' hD' => ?_⟩
       rw [show natL xs ++ natL ys = natL (xs ++ ys) by unfold natL; rw [List.map_append]]
       have s2 := s1.trans (same_new (o := .lst (natL (xs ++ ys))) hD')
       have gs2 : (upd G1 D' (.lst (natL (xs ++ ys)))) D' = some (.lst (natL (xs ++ ys))) := upd_same
       generalize upd G1 D' (.lst (natL (xs ++ ys))) = G2 at s2 gs2
       have sG2 := sG.trans s2
       walk_at "ns"
       refine ⟨_, rfl, _, rfl, LT, _, 0, _, rfl, rfl, SqL.of (sG2 _ _ gT), rfl, D1, _, rfl, .inl (SqL.of (sG2 _ _ g1)), _, rfl, by rw [natL_len, tw.len]; omega, by rw [natL_len, tw.len]; omega, ?_⟩
       rw [natL_len, tw.len, Int.toNat_natCast]
       refine comp_rangeF0 (fun c => dec (¬ Clash w' h' bk i c)) nat (by omega) (fun c H' R hc sm kk _ _ _ => ?_) (fun c H' R hc pc sm kk _ _ _ => ⟨_, rfl, kk _ (Same.refl _)⟩) fun D3 G3 hD3 s3 g3 => ?_
       . have sH := sG2.trans sm
         refine ⟨_, rfl, _, rfl, _, rfl, _, rfl, _, rfl, LP, LR, LT, D1, D2, ts, us, bk, n, w', h', i, c, rfl, pe.same sH, pa.same sH, ok, sH _ _ gT, sH _ _ g1, sH _ _ g2, tw, th, hi, hc, fun b' H2 sm2 hb => ⟨_, rfl, ?_⟩⟩
         have eb : (!b') = dec (¬ Clash w' h' bk i c) := by
          cases b' with
          | true => exact (dec_no.mpr (fun z => z (hb.mp rfl))).symm
          | false => exact (dec_iff.mpr (fun z => by have := hb.mpr z; cases this)).symm
         show R (!b') H2
         rw [eb]
         exact kk _ sm2
       have gl : (goodC n w' h' bk i).length <= n := by
        unfold goodC
        exact Nat.le_trans (List.length_filter_le _ _) (by rw [List.length_range]; exact Nat.le_refl _)
       have g3 : G3 D3 = some (.lst (natL (goodC n w' h' bk i))) := g3
       refine ⟨D3, _, rfl, .inl (SqL.of g3), _, _, rfl, rfl, .inr ⟨by rw [natL_len]; omega, by rw [natL_len]; omega⟩, ?_⟩
       rw [natL_len]
       refine ⟨xs ++ ys, D', _, by rw [ew]; rfl, sG2.trans s3, s3 _ _ gs2, fun d => ?_, by rw [List.length_append]; omega⟩
       rw [List.mem_append, mk d, my d, seen_new]
   . rintro σ G ⟨xs, Ds, o5, rfl, sG, gs, mk, xl⟩
     exact ⟨_, rfl, k G sG⟩
end
theorem cut_dropF (xs : List V) (k : Nat) : ∃ m, cutV xs (some (k : Int)) none = xs.drop m := by
 by_cases h : k <= xs.length
 . exact ⟨k, cut_dropN xs k h⟩
 . refine ⟨xs.length, ?_⟩
   unfold cutV
   have e1 : HT.sIx xs.length 0 (some (k : Int)) = xs.length := by unfold HT.sIx; simp only; split <;> omega
   rw [e1]
   have e2 : HT.sIx xs.length xs.length none = xs.length := rfl
   rw [e2, Nat.sub_self, List.take_zero, List.drop_length]
structure TuAt (G : Hp) (LT D1 D2 : Addr) (w h : List Nat) (av : List Addr) : Prop where
 gT : G LT = some (.lst [.ref D1, .ref D2])
 g1 : G D1 = some (.lst (natL w))
 g2 : G D2 = some (.lst (natL h))
 nT : LT ∉ av
 n1 : D1 ∉ av
 n2 : D2 ∉ av
theorem TuAt.go {G G' : Hp} {LT D1 D2 : Addr} {w h : List Nat} {av av' : List Addr} (t : TuAt G LT D1 D2 w h av) (kp : ∀ c o, G c = some o -> c ∉ av -> G' c = some o) (fr : ∀ c ∈ av', c ∈ av \/ G c = none) : TuAt G' LT D1 D2 w h av' := by
 have key : ∀ {c o}, G c = some o -> c ∉ av -> c ∉ av' := fun {c o} hc n z => (fr c z).elim n fun y => by rw [y] at hc; cases hc
 exact ⟨kp _ _ t.gT t.nT, kp _ _ t.g1 t.n1, kp _ _ t.g2 t.n2, key t.gT t.nT, key t.g1 t.n1, key t.g2 t.n2⟩
theorem TuAt.same {G G' : Hp} {LT D1 D2 : Addr} {w h : List Nat} {av : List Addr} (t : TuAt G LT D1 D2 w h av) (s : Same G G') : TuAt G' LT D1 D2 w h av := t.go (fun c o hc _ => s c o hc) fun c hc => .inl hc
theorem TuAt.sub {G : Hp} {LT D1 D2 : Addr} {w h : List Nat} {av av' : List Addr} (t : TuAt G LT D1 D2 w h av) (s : ∀ c ∈ av', c ∈ av) : TuAt G LT D1 D2 w h av' := t.go (fun c o hc _ => hc) fun c hc => .inl (s c hc)
theorem scr_sub {K : W.Frag} {H : Hp} {a : Addr} {xs : List V} {av av' : List Addr} (t : ScrAt K H a xs av) (s : ∀ c ∈ av', c ∈ av) : ScrAt K H a xs av' := t.go (fun c o hc _ => hc) fun c hc => .inl (s c hc)
theorem acc_came {B : Addr} {H : Hp} {b LP LR t : Addr} {fp ts us : List Addr} {bk : Bk} (ac : Acc B H b LP LR fp ts us bk) {sx : Bool} (ht : H t = some (.tup (perT (sx, none)))) {H1 : Hp} (hH : upd H LP (.lst (ts.map V.ref ++ [.ref t])) = H1) :
 BookAt B H1 b fp bk /\ ∀ fp2 H2, BookAt B H2 b fp2 (bk.add (sx, none)) -> (∀ c o, H1 c = some o -> c ∉ fp -> H2 c = some o) -> (∀ c ∈ fp2, c ∈ fp \/ H1 c = none) -> Acc B H2 b LP LR fp2 (ts ++ [t]) us (bk.add (sx, none)) /\ (∀ c o, H c = some o -> c ∉ LP :: LR :: fp -> H2 c = some o) /\ ∀ c ∈ fp2, c ∈ fp \/ H c = none := by
 obtain ⟨BA1, PE1, PA1, o1⟩ := ac.person (x := (sx, none)) ht hH
 refine ⟨BA1, fun fp2 H2 BA2 kp2 fr2 => ?_⟩
 have nP2 : LP ∉ fp2 := fun z => (fr2 _ z).elim ac.nP fun y => by rw [PE1.l] at y; cases y
 have nR2 : LR ∉ fp2 := fun z => (fr2 _ z).elim ac.nR fun y => by rw [PA1.l] at y; cases y
 have PE2 : PeopleAt H2 LP (ts ++ [t]) (bk.ps ++ [(sx, none)]) := ⟨kp2 _ _ PE1.l ac.nP, PE1.t.keep fun p xs _ hp => kp2 _ _ hp (BA1.notin hp)⟩
 have PA2 : PairsAt H2 LR us bk.prs := ⟨kp2 _ _ PA1.l ac.nR, PA1.t.keep fun p xs _ hp => kp2 _ _ hp (BA1.notin hp)⟩
 refine ⟨⟨BA2, PE2, PA2, nP2, nR2, ac.ne⟩, fun c o hc hn => ?_, fun c hc => ?_⟩
 . simp only [List.mem_cons, not_or] at hn
   exact kp2 c o (o1 c o hc hn.1) hn.2.2
 . rcases fr2 c hc with z | z
   . exact .inl z
   . refine .inr ?_
     cases y : H c with
     | none => rfl
     | some o =>
       have : c ≠ LP := fun q => nP2 (q ▸ hc)
       rw [o1 c o y this] at z; cases z
theorem av_go {LP LR : Addr} {fp fp2 : List Addr} {G : Hp} (fr : ∀ c ∈ fp2, c ∈ fp \/ G c = none) : ∀ c ∈ LP :: LR :: fp2, c ∈ LP :: LR :: fp \/ G c = none := fun c hc => by
 simp only [List.mem_cons] at hc ⊢
 rcases hc with h | h | h
 . exact .inl (.inl h)
 . exact .inl (.inr (.inl h))
 . rcases fr c h with y | y
   . exact .inl (.inr (.inr y))
   . exact .inr y
section
variable {P : Program} {w : World} {K : W.Frag} {mg : Str -> Option Value} {base : Heap} {CX : CXT} {C : Addr} {e : Ad}
theorem sc_great : FnScope ["script", "many", "turns", "book", "people", "pairs", "k", "found"] ["script"] (defScope (top 50)) := mkSc
theorem ok_great {f : Addr} {fd : FuncData} (F : Fun K "_law_great" "_law_great" (top 50) f fd) (T : Txt K mg C e) (hE : NoE (CXR P w))
 (D__q4 : Def P w K mg base (CXR P w) "_law_cell_at" 1 ["script", "k"] (spCellAt K)) (D__q5 : Def P w K mg base (CXR P w) "_law_turn_by" 1 ["cell", "many"] spTurnBy) (D__q10 : Def P w K mg base (CXR P w) "_law_whole" 1 ["found"] spWhole)
 (D__q3 : Def P w K mg base (CXR P w) "_law_fit_book" 5 ["book", "people", "pairs", "kinds", "turns", "cells"] (spFitBook e K)) (D__q0 : Def P w K mg base (CXR P w) "_law_parts_due" 3 ["people", "pairs", "turns"] spPartsDue)
 (D_many_ways : Def P w K mg base (CXR P w) "many_ways" 9 ["book", "table"] (spManyWays C e)) (D_come : MDef P w K mg base (CXR P w) e.Book "come" 2 ["self", "sex"] (spCome e))
 (D_Table : CDef P w K mg base (CXR P w) "Table" C 2 ["self", "wives", "heirs"] (spInitX C e)) (D_Book : CDef P w K mg base (CXR P w) "Book" e.Book 1 ["self"] (spBookInit e)) :
 FnOk P w K mg base (CXR P w) 10 f fd ["script"] (spLaw K) := by
 refine F.okN sc_great (fun vs H Q E h => ?_) (fun cdv A outer s H vs Q E hr h => ?_)
 . obtain ⟨a, ns, rfl, _⟩ := h; rfl
 . obtain ⟨a, ns, rfl, n63, hS, k⟩ := h
   have nd := sc_great.nd
   have big : 4000 <= sizeLine := by decide
   have D_Table := D_Table.imp (initN (e := e))
   refine ⟨_, (pss_cons (ps_set (i := 1) nd rfl (Or.inl rfl) (pe_op op_add pe_int (pe_op op_mod (pe_op op_fdiv (pe_callD D__q4 hE hr rfl (pa_cons (pv 0) (pa_cons pe_int pa_nil))) pe_int) pe_int)))
    (pss_cons (ps_set (i := 2) nd rfl (Or.inl rfl) (pe_lst (pa_cons (pe_callD D__q5 hE hr rfl (pa_cons (pe_callD D__q4 hE hr rfl (pa_cons (pv 0) (pa_cons pe_int pa_nil))) (pa_cons (pv 1) pa_nil))) (pa_cons (pe_callD D__q5 hE hr rfl (pa_cons (pe_callD D__q4 hE hr rfl (pa_cons (pv 0) (pa_cons pe_int pa_nil))) (pa_cons (pv 1) pa_nil))) pa_nil))))
    (pss_cons (ps_set (i := 3) nd rfl (Or.inl rfl) (pe_makeD0 D_Book hE hr rfl))
    (pss_cons (ps_set (i := 4) nd rfl (Or.inl rfl) (pe_lst pa_nil))
    (pss_cons (ps_set (i := 5) nd rfl (Or.inl rfl) (pe_lst pa_nil))
    (pss_cons (ps_if (pt_not (pt_val (pe_callD D__q3 hE hr rfl (pa_cons (pv 3) (pa_cons (pv 4) (pa_cons (pv 5) (pa_cons (pe_lst pa_nil) (pa_cons (pv 2) (pa_cons (pe_slice sl_list (pv 0) (po_some pe_int) po_none) pa_nil))))))))) (pss_one (ps_ret pe_bl)) pss_nil)
    (pss_cons (ps_join (ps_if (pt_cmpR op_eq (pe_op op_mod (pe_op op_fdiv (pe_callD D__q4 hE hr rfl (pa_cons (pv 0) (pa_cons pe_int pa_nil))) pe_int) pe_int) pe_int (nomark _)) (pss_one (ps_set (i := 2) nd rfl (Or.inl rfl) (pe_lst (pa_cons (pe_callD D__q5 hE hr rfl (pa_cons (pe_callD D__q4 hE hr rfl (pa_cons (pv 0) (pa_cons pe_int pa_nil))) (pa_cons (pv 1) pa_nil))) (pa_cons (pe_ix ix_list (pv 2) pe_int (fun _ _ => rfl)) pa_nil))))) pss_nil))
    (pss_cons (ps_for PassesOwn.never rfl (pi_range1 rfl T.z_range (pa_cons (pe_op op_mod (pe_op op_fdiv (pe_callD D__q4 hE hr rfl (pa_cons (pv 0) (pa_cons pe_int pa_nil))) pe_int) (pe_op op_sub pe_int (pe_callB call_len_seq rfl T.z_len PySem.boot_len (pa_cons (pv 4) pa_nil)))) pa_nil)) (pg_name (i := 6) nd rfl (Or.inl rfl)) (pss_cons (ps_expr (pe_bm PySem.F.plainAttrs_list PySem.F.slot_list_append PySem.F.type_list_append mt_append (pv 4) (pa_cons (pe_tup (pa_cons pe_str (pa_cons pe_non (pa_cons pe_non pa_nil)))) pa_nil)))
    (pss_one (ps_if (pt_cmpR op_ne (pe_methD (pv 3) T.cl_Book D_come hE hr (pa_cons pe_str pa_nil)) (pe_op op_sub (pe_callB call_len_seq rfl T.z_len PySem.boot_len (pa_cons (pv 4) pa_nil)) pe_int) (nomark _)) (pss_one (ps_ret pe_bl)) pss_nil))))
    (pss_cons (ps_set (i := 7) nd rfl (Or.inl rfl) (pe_callD D_many_ways hE hr rfl (pa_cons (pv 3) (pa_cons (pe_makeD D_Table hE hr rfl (pa_cons (pe_ix ix_list (pv 2) pe_int (fun _ _ => rfl)) (pa_cons (pe_ix ix_list (pv 2) pe_int (fun _ _ => rfl)) pa_nil))) pa_nil))))
    (pss_one (ps_ret (pe_and (pe_callD D__q10 hE hr rfl (pa_cons (pv 7) pa_nil)) (pe_one (pe_cmpR op_eq (pv 7) (pe_callD D__q0 hE hr rfl (pa_cons (pv 4) (pa_cons (pv 5) (pa_cons (pv 2) pa_nil)))) (nomark _))))))))))))))), ?_⟩
   refine ⟨_, rfl, a, ns, 0, rfl, hS, fun z0 _ => ⟨_, _, rfl, rfl, ⟨by decide, by decide⟩, _, _, rfl, rfl, (show (0 : Int) < 8 by decide), _, _, rfl, rfl, ?_⟩⟩
   dsimp only
   obtain ⟨n, hn, n1, n8⟩ : ∃ n : Nat, 1 + z0 / 3 % 8 = (n : Int) /\ 1 <= n /\ n <= 8 := ⟨(1 + z0 / 3 % 8).toNat, by omega, by omega, by omega⟩
   rw [hn]
   walk_at "ns"
   refine ⟨_, rfl, a, ns, 1, rfl, hS, fun z1 _ => ⟨_, rfl, z1, n, rfl, n8, fun wv D1 H1 tw hD1 s1 hl1 => ?_⟩⟩
   refine ⟨_, rfl, a, ns, 2, rfl, s1.seq hS, fun z2 _ => ⟨_, rfl, z2, n, rfl, n8, fun hv D2 H2 th hD2 s2 hl2 => ⟨two_fits, fun LT hLT => ?_⟩⟩⟩
   have s3 := same_new (o := .lst [.ref D1, .ref D2]) hLT
   have gT5 : (upd H2 LT (.lst [.ref D1, .ref D2])) LT = some (.lst [.ref D1, .ref D2]) := upd_same
   generalize upd H2 LT (.lst [.ref D1, .ref D2]) = H5 at s3 gT5
   have g15 := s3 _ _ (s2 _ _ hl1)
   have g25 := s3 _ _ hl2
   have s05 := s1.trans (s2.trans s3)
   clear s1 s2 s3 hl1 hl2 hD1 hD2 hLT
   walk_at "ns"
   intro b dx nx ndx nex
   have sx : Same H5 (upd (upd H5 dx (.own b)) b (.ins e.Book dx [])) := same_upd (same_new ndx) nx
   refine ⟨b, dx, rfl, upd_same, fun fp0 H6 kp0 fr0 BA0 => ⟨rfl, ?_⟩⟩
   have s6 : Same H5 H6 := fun c o h => kp0 c o (sx c o h) (ne_of_none h nx)
   have fr5 : ∀ c ∈ fp0, H5 c = none := fun c hc => by
    cases z : H5 c with
    | none => rfl
    | some o => have := sx c o z; rw [fr0 c hc] at this; cases this
   clear kp0 sx
   walk_at "ns"
   refine ⟨by decide, fun LP hLP => ?_⟩
   have s7 := same_new (o := .lst []) hLP
   have gP : (upd H6 LP (.lst [])) LP = some (.lst []) := upd_same
   generalize upd H6 LP (.lst []) = H7 at s7 gP
   walk_at "ns"
   refine ⟨by decide, fun LR hLR => ?_⟩
   have s8 := same_new (o := .lst []) hLR
   have gR : (upd H7 LR (.lst [])) LR = some (.lst []) := upd_same
   generalize upd H7 LR (.lst []) = H8 at s8 gR
   have held : ∀ {G : Hp}, BookAt e.Book G b fp0 ⟨[], []⟩ -> ∀ {c : Addr}, G c = none -> c ∉ fp0 := fun BA c hc z => by
    obtain ⟨o, ho⟩ := BA.held (List.mem_cons_of_mem b z)
    rw [hc] at ho; cases ho
   have ac8 : Acc e.Book H8 b LP LR fp0 [] [] ⟨[], []⟩ := ⟨BA0.same (s7.trans s8), ⟨s8 _ _ gP, TsAt.nil⟩, ⟨gR, TsAt.nil⟩, held BA0 hLP, held (BA0.same s7) hLR, ne_of_none gP hLR⟩
   have av5 : ∀ c ∈ LP :: LR :: fp0, H5 c = none := fun c hc => by
    simp only [List.mem_cons] at hc
    rcases hc with rfl | rfl | hc
    . exact s6.free hLP
    . exact (s6.trans s7).free hLR
    . exact fr5 c hc
   have s58 := s6.trans (s7.trans s8)
   have newn : ∀ {G : Hp} {c : Addr}, Same H8 G -> G c = none -> c ∉ LP :: LR :: fp0 := fun sG hc z => by
    simp only [List.mem_cons] at z
    rcases z with rfl | rfl | z
    . rw [sG _ _ ac8.pe.l] at hc; cases hc
    . rw [sG _ _ ac8.pa.l] at hc; cases hc
    . exact held (ac8.bo.same sG) hc z
   walk_at "ns"
   obtain ⟨m0, em0⟩ := cut_dropF (ns.map V.int) 5
   have em1 : cutV (ns.map V.int) (some 5) none = (ns.drop m0).map V.int := by rw [List.map_drop]; exact em0
   refine ⟨_, rfl, _, rfl, _, rfl, by decide, fun LK hLK => ?_⟩
   have q1 := same_new (o := .lst []) hLK
   have gK : (upd H8 LK (.lst [])) LK = some (.lst []) := upd_same
   generalize upd H8 LK (.lst []) = H9 at q1 gK
   have nin : ∀ c o, H5 c = some o -> c ∉ LP :: LR :: LK :: fp0 := fun c o ho z => by
    simp only [List.mem_cons] at z
    rcases z with z | z | z | z
    . rw [av5 c (by simp [z])] at ho; cases ho
    . rw [av5 c (by simp [z])] at ho; cases ho
    . rw [z, s58.free hLK] at ho; cases ho
    . rw [av5 c (by simp [z])] at ho; cases ho
   have sc9 : ScrAt K H9 a (ns.map V.int) (LP :: LR :: LK :: fp0) := (ScrAt.of (av := LP :: LR :: LK :: fp0) (s05.seq hS) (nin a)).same (s58.trans q1)
   have tu9 : TuAt H9 LT D1 D2 wv hv (LP :: LR :: LK :: fp0) := TuAt.same ⟨gT5, g15, g25, nin _ _ gT5, nin _ _ g15, nin _ _ g25⟩ (s58.trans q1)
   refine ⟨_, rfl, _, rfl, _, rfl, a, _, rfl, sc9.sq, fun LC hLC => ?_⟩
   rw [em1]
   have q2 := same_new (o := .lst ((ns.drop m0).map V.int)) hLC
   have gC : (upd H9 LC (.lst ((ns.drop m0).map V.int))) LC = some (.lst ((ns.drop m0).map V.int)) := upd_same
   generalize upd H9 LC (.lst ((ns.drop m0).map V.int)) = H10 at q2 gC
   have q12 := q1.trans q2
   have nK : LK ∉ LP :: LR :: fp0 := newn (Same.refl _) hLK
   have nC : LC ∉ LP :: LR :: LK :: fp0 := fun z => by
    have := newn q1 hLC
    simp only [List.mem_cons] at z this
    rcases z with z | z | z | z
    . exact this (.inl z)
    . exact this (.inr (.inl z))
    . rw [z, gK] at hLC; cases hLC
    . exact this (.inr (.inr z))
   have tu10 := tu9.same q2
   refine ⟨b, LP, LR, LK, LT, LC, D1, D2, fp0, [], [], ⟨[], []⟩, [], n, wv, hv, ns.drop m0, rfl, ac8.same q12, q2 _ _ gK, Fits.nil, tu10.gT, tu10.g1, tu10.g2, tw, th, n1, .inr ⟨.inl gC, nC⟩, nK, tu10.nT, tu10.n1, tu10.n2, by show 0 + _ <= 900; rw [List.length_drop]; omega, by show 0 <= 58; decide, fun fp ts us bk ks G ac gKs nK2 FF kp fr l58 l900 => ⟨_, rfl, iteF ?_⟩⟩
   have sub : ∀ c ∈ LP :: LR :: fp, c ∈ LP :: LR :: LK :: fp := fun c hc => by
    simp only [List.mem_cons] at hc ⊢
    rcases hc with h | h | h
    . exact .inl h
    . exact .inr (.inl h)
    . exact .inr (.inr (.inr h))
   have sa := scr_sub ((sc9.same q2).go kp fr) sub
   have tu := (tu10.go kp fr).sub sub
   clear sc9 tu9 tu10 nin newn ac8 held av5 s58 s8 s7 s6 hLR hLP gP gR BA0 fr0 fr5 s05 gT5 g15 g25 kp fr q1 q2 q12 nC nK gC gK hLK hLC gKs nK2 FF
   have hld : ∀ {G' : Hp}, Same G G' -> ∀ {c : Addr}, G' c = none -> c ∉ LP :: LR :: fp := fun sG c hc z => by
    simp only [List.mem_cons] at z
    rcases z with rfl | rfl | z
    . rw [sG _ _ ac.pe.l] at hc; cases hc
    . rw [sG _ _ ac.pa.l] at hc; cases hc
    . obtain ⟨o, ho⟩ := (ac.bo.same sG).held (List.mem_cons_of_mem b z)
      rw [hc] at ho; cases ho
   refine ⟨fun σ' G' => ∃ LT D1 D2 wv hv, IsTurn n wv /\ IsTurn n hv /\ σ' = [some (.ref a), some (nat n), some (.ref LT), some (.ref b), some (.ref LP), some (.ref LR), none, none] /\ Same G G' /\ TuAt G' LT D1 D2 wv hv (LP :: LR :: fp), ?_, ?_⟩
   . refine ⟨_, rfl, a, ns, 3, rfl, sa.sq, fun z3 _ => ⟨_, _, rfl, rfl, ⟨by decide, by decide⟩, _, _, rfl, rfl, (show (0 : Int) < 3 by decide), rfl, _, rfl, iteD2 (fun _ => ?_) (fun _ => ⟨LT, D1, D2, wv, hv, tw, th, rfl, Same.refl _, tu⟩)⟩⟩
     refine ⟨_, rfl, a, ns, 4, rfl, sa.sq, fun y4 _ => ⟨_, rfl, y4, n, rfl, n8, fun wb E1 G1 tb hE1 q1 gl1 => ?_⟩⟩
     refine ⟨_, rfl, LT, _, 1, _, rfl, rfl, SqL.of (q1 _ _ tu.gT), rfl, two_fits, fun LB hLB => ?_⟩
     have q2 := same_new (o := .lst [.ref E1, .ref D2]) hLB
     exact ⟨LB, E1, D2, wb, hv, tb, th, rfl, q1.trans q2, ⟨upd_same, q2 _ _ gl1, (q1.trans q2) _ _ tu.g2, hld q1 hLB, hld (Same.refl _) hE1, tu.n2⟩⟩
   clear tu tw th
   clear LT D1 D2 wv hv
   rintro σ' G1 ⟨LT, D1, D2, wv, hv, tw, th, rfl, sG1, tu⟩
   have ac1 := ac.same sG1
   have sa1 := sa.same sG1
   have tl := ac.pe.len
   have n60 := ac.bo.ok.n60
   have pos : 0 < 59 - bk.ps.length := by omega
   refine ⟨_, rfl, a, ns, 3, rfl, sa1.sq, fun z3 _ => ⟨_, _, rfl, rfl, ⟨by decide, by decide⟩, _, rfl, LP, _, rfl, .inl (SqL.of ac1.pe.l), _, _, rfl, rfl, _, _, rfl, rfl, by rw [List.length_map, tl]; omega, ?_⟩⟩
   obtain ⟨r, hr', lr⟩ := emod_nat (z3 / 6) pos
   have er : (fun i j : Int => V.int (i % j)) (z3 / 6) ((59 : Int) - (((ts.map V.ref).length : Nat) : Int)) = nat r := by
    rw [List.length_map, tl]
    rw [show ((59 - bk.ps.length : Nat) : Int) = (59 : Int) - (bk.ps.length : Int) by omega] at hr'
    exact congrArg V.int hr'
   rw [er]
   refine ⟨_, rfl, by omega, by omega, ?_⟩
   rw [Int.toNat_natCast]
   refine for_range0 (fun i σ G' => ∃ (o6 : Option V) (fp' ts' : List Addr) (bk' : Bk), σ = [some (.ref a), some (nat n), some (.ref LT), some (.ref b), some (.ref LP), some (.ref LR), o6, none] /\ Acc e.Book G' b LP LR fp' ts' us bk' /\ TuAt G' LT D1 D2 wv hv (LP :: LR :: fp') /\ bk'.ps.length = bk.ps.length + i) ⟨none, fp, ts, bk, rfl, ac1, tu, rfl⟩ ?_ ?_
   . rintro i σ G2 hi ⟨o6, fp', ts', bk', rfl, ac', tu', bl'⟩
     have tl' := ac'.pe.len
     walk_at "ns"
     refine ⟨_, rfl, .inl ⟨rfl, _, SqL.of ac'.pe.l⟩, (show 3 <= sizeLine by decide), fun t ht => ?_⟩
     have q1 := same_new (o := .tup [V.str "man", V.non, V.non]) ht
     have gt : (upd G2 t (.tup [V.str "man", V.non, V.non])) t = some (.tup (perT (true, none))) := upd_same
     generalize upd G2 t (.tup [V.str "man", V.non, V.non]) = G3 at q1 gt
     have ac3 := ac'.same q1
     refine ⟨LP, _, _, rfl, rfl, ac3.pe.l, by rw [List.length_map, tl']; omega, ?_⟩
     generalize hH : upd G3 LP (.lst (ts'.map V.ref ++ [.ref t])) = G4
     obtain ⟨BA4, cm⟩ := acc_came ac3 gt hH
     obtain ⟨dx4, a4, b4, c4, d4, qs4, hfp4, e4, _⟩ := id BA4.ob
     refine ⟨_, rfl, b, dx4, _, rfl, e4, bno .., b, fp', bk', true, rfl, BA4, fun _ fp2 G5 BA5 kp5 fr5 _ => ?_, fun z => absurd z (by omega)⟩
     obtain ⟨ac5, kp, fr⟩ := cm fp2 G5 BA5 kp5 fr5
     refine ⟨_, rfl, LP, _, rfl, .inl (SqL.of ac5.pe.l), _, _, rfl, rfl, rfl, _, rfl, ?_⟩
     have ev := len_sub bk'.ps.length ((ts' ++ [t]).map V.ref) (by rw [List.length_map, List.length_append, tl']; rfl)
     show if (!decide (nat bk'.ps.length = V.int ((((ts' ++ [t]).map V.ref).length : Nat) - (1 : Int)))) = true then _ else _
     rw [ev, decide_eq_true rfl]
     refine iteF ⟨_, fp2, ts' ++ [t], _, rfl, ac5, (tu'.same q1).go kp (av_go fr), ?_⟩
     show (bk'.ps ++ [_]).length = _
     rw [List.length_append, bl']
     rfl
   rintro σ G2 ⟨o6, fp', ts', bk', rfl, ac', tu', bl'⟩
   refine ⟨_, rfl, _, rfl, LT, _, 0, _, rfl, rfl, SqL.of tu'.gT, rfl, _, rfl, LT, _, 1, _, rfl, rfl, SqL.of tu'.gT, rfl, ?_⟩
   intro x dx' nx' ndx' nex'
   have sx : Same G2 (upd (upd G2 dx' (.own x)) x (.ins C dx' [])) := same_upd (same_new ndx') nx'
   refine ⟨x, dx', D1, D2, wv, hv, n, rfl, upd_same, sx _ _ tu'.g1, sx _ _ tu'.g2, tw, th, n1, n8, fun G3 kp TA => ⟨rfl, ?_⟩⟩
   have s3 : Same G2 G3 := fun c o hc => kp c o (sx _ _ hc) (ne_of_none hc nx')
   clear kp sx
   have ac3 := ac'.same s3
   refine ⟨b, x, fp', bk', n, wv, hv, rfl, ac3.bo, TA, fun G4 s4 => ?_⟩
   have ac4 := ac3.same s4
   have tu4 := tu'.same (s3.trans s4)
   walk_at "ns"
   refine ⟨_, rfl, _, rfl, true, rfl, iteT ?_⟩
   refine ⟨_, rfl, _, rfl, _, rfl, _, rfl, LP, LR, LT, D1, D2, ts', us, bk', n, wv, hv, rfl, ac4.pe, ac4.pa, ac4.bo.ok, tu4.gT, tu4.g1, tu4.g2, tw, th, n8, fun G5 s5 => ⟨rfl, ?_⟩⟩
   show Q (.bl (decide (nat _ = nat _))) G5
   rw [decide_eq_true rfl]
   exact k _
end
def isWd : Com -> Bool
 | .wed _ _ => true
 | _ => false
def hdC : Com -> V
 | .come s => sexV s
 | .wed _ _ => .str "wed"
 | .born s _ _ => sexV s
theorem hd_at (c : Com) (ex : List V) : atI (comT c ++ ex) 0 = some (hdC c) := by cases c <;> exact atI_nat (j := 0) rfl
theorem hd_wed (c : Com) : decide (hdC c = V.str "wed") = isWd c := by
 cases c with
 | come s => exact decide_eq_false (sex_wed s)
 | wed m f => exact decide_eq_true rfl
 | born s m f => exact decide_eq_false (sex_wed s)
theorem hd_scal (c : Com) (x : Str) : scal (hdC c) (.str x) = true := by cases c <;> rfl
theorem com_len (c : Com) (ex : List V) : (comT c ++ ex).length = 3 + ex.length := by
 rw [List.length_append]
 cases c <;> rfl
theorem com_cut (c : Com) (ex : List V) : cutV (comT c ++ ex) none (some 3) = comT c := by
 have : ∀ l : List V, l.length = 3 -> cutV (l ++ ex) none (some 3) = l := fun l hl => by
  unfold cutV
  have e1 : HT.sIx (l ++ ex).length 0 none = 0 := rfl
  have e2 : HT.sIx (l ++ ex).length (l ++ ex).length (some 3) = 3 := by
   rw [List.length_append, hl]
   unfold HT.sIx
   simp only
   split <;> omega
  rw [e1, e2, List.drop_zero, Nat.sub_zero]
  conv => lhs; rw [<- hl]
  exact List.take_left
 exact this _ (by cases c <;> rfl)
theorem sl_both {K : W.Frag} {G : Hp} {t : Addr} {c : Com} {ex : List V} {Q : VK} (g : G t = some (.tup (comT c ++ ex))) (key : ∀ t2 G3, Same G G3 -> G3 t2 = some (.tup (comT c)) -> Q (.ref t2) G3) : rSlT K (.ref t) none (some 3) G Q \/ rSlW K (.ref t) none (some 3) G Q := by
 have l3 := com_len c ex
 cases ex with
 | nil =>
   refine .inr ⟨t, _, rfl, SqT.of g, ⟨rfl, ?_⟩, key t G (Same.refl _) (by rw [g, List.append_nil])⟩
   rw [l3]; rfl
 | cons v r =>
   refine .inl ⟨t, _, rfl, SqT.of g, fun z => ?_, fun t2 ht2 => ?_⟩
   . have z := z.2
     rw [l3] at z
     unfold HT.sIx at z
     simp only [List.length_cons] at z
     split at z <;> omega
   . rw [com_cut]
     exact key t2 _ (same_new ht2) upd_same
theorem doC_ps (bk : Bk) (c : Com) : (doC bk c).ps.length = bk.ps.length + (if isWd c = true then 0 else 1) := by
 cases c with
 | come s => show (bk.ps ++ [_]).length = _; rw [List.length_append]; rfl
 | wed m f => rfl
 | born s m f => show (bk.ps ++ [_]).length = _; rw [List.length_append]; rfl
theorem fitC_lt {n : Nat} {w h ks : List Nat} {k : Nat} {c : Com} (f : FitC n w h ks k c) (nw : isWd c = false) : k < n := by
 cases c with
 | come s => exact f
 | wed m f => cases nw
 | born s m f' => exact f.2.2
theorem kd_all {n : Nat} {ks : List Nat} {k : Nat} (h : ∀ i, i < ks.length -> kdAt ks i < n) (hk : k < n) : ∀ i, i < (ks ++ [k]).length -> kdAt (ks ++ [k]) i < n := fun i hi => by
 rw [List.length_append] at hi
 have e1 : [k].length = 1 := rfl
 rcases Nat.lt_or_ge i ks.length with z | z
 . rw [kd_old z]; exact h i z
 . have : i = ks.length := by omega
   subst this; rw [kd_new]; exact hk
theorem at3 (c : Com) (v : V) : atI (comT c ++ [v]) 3 = some v := by cases c <;> exact atI_nat (j := 3) rfl
section
variable {P : Program} {w : World} {K : W.Frag} {mg : Str -> Option Value} {base : Heap} {CX : CXT} {C : Addr} {e : Ad}
theorem sc_law : FnScope ["script", "many", "turns", "book", "people", "pairs", "kinds", "count", "k", "cell", "comer", "table"] ["script"] (defScope (top 51)) := mkSc
theorem ok_law {f : Addr} {fd : FuncData} (F : Fun K "law" "law" (top 51) f fd) (T : Txt K mg C e) (hE : NoE (CXR P w))
 (D__q4 : Def P w K mg base (CXR P w) "_law_cell_at" 1 ["script", "k"] (spCellAt K)) (D__q5 : Def P w K mg base (CXR P w) "_law_turn_by" 1 ["cell", "many"] spTurnBy) (D__q7 : Def P w K mg base (CXR P w) "_law_great" 10 ["script"] (spLaw K))
 (D__q8 : Def P w K mg base (CXR P w) "_law_comer" 1 ["people", "cell"] spComer) (D__q14 : Def P w K mg base (CXR P w) "_law_put" 4 ["book", "people", "pairs", "comer"] (spPut e)) (D__q1 : Def P w K mg base (CXR P w) "_law_fit_comer" 1 ["people", "kinds", "wives", "heirs", "cell"] spFitComer)
 (D__q12 : Def P w K mg base (CXR P w) "_law_told" 10 ["book", "table", "people", "pairs", "turns"] (spToldW C e)) (D_come : MDef P w K mg base (CXR P w) e.Book "come" 2 ["self", "sex"] (spCome e))
 (D_Table : CDef P w K mg base (CXR P w) "Table" C 2 ["self", "wives", "heirs"] (spInitX C e)) (D_Book : CDef P w K mg base (CXR P w) "Book" e.Book 1 ["self"] (spBookInit e)) :
 FnOk P w K mg base (CXR P w) 11 f fd ["script"] (spLaw K) := by
 refine F.okN sc_law (fun vs H Q E h => ?_) (fun cdv A outer s H vs Q E hr h => ?_)
 . obtain ⟨a, ns, rfl, _⟩ := h; rfl
 . obtain ⟨a, ns, rfl, n63, hS, k⟩ := h
   have nd := sc_law.nd
   have big : 4000 <= sizeLine := by decide
   refine ⟨_, (pss_cons (ps_if (pt_cmpR op_eq (pe_op op_mod (pe_callD D__q4 hE hr rfl (pa_cons (pv 0) (pa_cons pe_int pa_nil))) pe_int) pe_int (nomark _)) (pss_one (ps_ret (pe_callD D__q7 hE hr rfl (pa_cons (pv 0) pa_nil)))) pss_nil)
    (pss_cons (ps_set (i := 1) nd rfl (Or.inl rfl) (pe_op op_add pe_int (pe_op op_mod (pe_callD D__q4 hE hr rfl (pa_cons (pv 0) (pa_cons pe_int pa_nil))) pe_int)))
    (pss_cons (ps_set (i := 2) nd rfl (Or.inl rfl) (pe_lst (pa_cons (pe_callD D__q5 hE hr rfl (pa_cons (pe_callD D__q4 hE hr rfl (pa_cons (pv 0) (pa_cons pe_int pa_nil))) (pa_cons (pv 1) pa_nil))) (pa_cons (pe_callD D__q5 hE hr rfl (pa_cons (pe_callD D__q4 hE hr rfl (pa_cons (pv 0) (pa_cons pe_int pa_nil))) (pa_cons (pv 1) pa_nil))) pa_nil))))
    (pss_cons (ps_set (i := 3) nd rfl (Or.inl rfl) (pe_makeD0 D_Book hE hr rfl))
    (pss_cons (ps_set (i := 4) nd rfl (Or.inl rfl) (pe_lst pa_nil))
    (pss_cons (ps_set (i := 5) nd rfl (Or.inl rfl) (pe_lst pa_nil))
    (pss_cons (ps_set (i := 6) nd rfl (Or.inl rfl) (pe_lst pa_nil))
    (pss_cons (ps_set (i := 7) nd rfl (Or.inl rfl) (pe_op op_mod (pe_callD D__q4 hE hr rfl (pa_cons (pv 0) (pa_cons pe_int pa_nil))) pe_int))
    (pss_cons (ps_for PassesOwn.never rfl (pi_range1 rfl T.z_range (pa_cons pe_int pa_nil)) (pg_name (i := 8) nd rfl (Or.inl rfl)) (pss_cons (ps_set (i := 9) nd rfl (Or.inl rfl) (pe_callD D__q4 hE hr rfl (pa_cons (pv 0) (pa_cons (pe_op op_add pe_int (pv 8)) pa_nil))))
    (pss_cons (ps_set (i := 10) nd rfl (Or.inl rfl) (pe_callD D__q8 hE hr rfl (pa_cons (pv 4) (pa_cons (pv 9) pa_nil))))
    (pss_cons (ps_join (ps_if (pt_cmpR op_eq (pe_op op_mod (pe_op op_fdiv (pe_callD D__q4 hE hr rfl (pa_cons (pv 0) (pa_cons pe_int pa_nil))) pe_int) pe_int) pe_int (nomark _)) (pss_one (ps_set (i := 10) nd rfl (Or.inl rfl) (pe_callD D__q1 hE hr rfl (pa_cons (pv 4) (pa_cons (pv 6) (pa_cons (pe_ix ix_list (pv 2) pe_int (fun _ _ => rfl)) (pa_cons (pe_ix ix_list (pv 2) pe_int (fun _ _ => rfl)) (pa_cons (pv 9) pa_nil)))))))) pss_nil))
    (pss_one (ps_if (PW.pt (pw_or (pt_cmpR op_eq (pe_ix ix_tup (pv 10) pe_int (fun _ _ => rfl)) pe_str (nomark _)) (pw_or1 (pt_cmpR op_lt (pe_callB call_len_seq rfl T.z_len PySem.boot_len (pa_cons (pv 4) pa_nil)) (pv 7) (nomark _))))) (pss_cons (ps_join (ps_if (PW.pt (pw_and (pt_cmpR op_ne (pe_ix ix_tup (pv 10) pe_int (fun _ _ => rfl)) pe_str (nomark _)) (pw_and1 (pt_cmpR op_eq (pe_callB call_len_seq rfl T.z_len PySem.boot_len (pa_cons (pv 10) pa_nil)) pe_int (nomark _))))) (pss_one (ps_expr (pe_bm PySem.F.plainAttrs_list PySem.F.slot_list_append PySem.F.type_list_append mt_append (pv 6) (pa_cons (pe_ix ix_tup (pv 10) pe_int (fun _ _ => rfl)) pa_nil)))) pss_nil))
    (pss_one (ps_if (pt_not (pt_val (pe_callD D__q14 hE hr rfl (pa_cons (pv 3) (pa_cons (pv 4) (pa_cons (pv 5) (pa_cons (pe_slice (SlR.or sl_tup sl_tupW) (pv 10) po_none (po_some pe_int)) pa_nil))))))) (pss_one (ps_ret pe_bl)) pss_nil))) pss_nil))))))
    (pss_cons (ps_set (i := 11) nd rfl (Or.inl rfl) (pe_makeD D_Table hE hr rfl (pa_cons (pe_ix ix_list (pv 2) pe_int (fun _ _ => rfl)) (pa_cons (pe_ix ix_list (pv 2) pe_int (fun _ _ => rfl)) pa_nil))))
    (pss_cons (ps_if (pt_not (pt_val (pe_callD D__q12 hE hr rfl (pa_cons (pv 3) (pa_cons (pv 11) (pa_cons (pv 4) (pa_cons (pv 5) (pa_cons (pv 2) pa_nil)))))))) (pss_one (ps_ret pe_bl)) pss_nil)
    (pss_cons (ps_expr (pe_bm PySem.F.plainAttrs_list PySem.F.slot_list_append PySem.F.type_list_append mt_append (pv 4) (pa_cons (pe_tup (pa_cons pe_str (pa_cons pe_non (pa_cons pe_non pa_nil)))) pa_nil)))
    (pss_one (ps_ret (pe_and (pe_cmpR op_eq (pe_methD (pv 3) T.cl_Book D_come hE hr (pa_cons pe_str pa_nil)) (pe_op op_sub (pe_callB call_len_seq rfl T.z_len PySem.boot_len (pa_cons (pv 4) pa_nil)) pe_int) (nomark _)) (pe_one (pe_callD D__q12 hE hr rfl (pa_cons (pv 3) (pa_cons (pv 11) (pa_cons (pv 4) (pa_cons (pv 5) (pa_cons (pv 2) pa_nil)))))))))))))))))))))), ?_⟩
   refine ⟨_, rfl, a, ns, 3, rfl, hS, fun z _ => ⟨_, _, rfl, rfl, (show (0 : Int) < 4 by decide), rfl, _, rfl, iteD2 (fun _ => ⟨_, rfl, a, ns, rfl, n63, hS, k⟩) (fun _ => ?_)⟩⟩
   refine ⟨_, rfl, a, ns, 0, rfl, hS, fun z0 _ => ⟨_, _, rfl, rfl, (show (0 : Int) < 3 by decide), _, _, rfl, rfl, ?_⟩⟩
   dsimp only
   obtain ⟨n, hn, n1, n3⟩ : ∃ n : Nat, 1 + z0 % 3 = (n : Int) /\ 1 <= n /\ n <= 3 := ⟨(1 + z0 % 3).toNat, by omega, by omega, by omega⟩
   have n8 : n <= 8 := by omega
   rw [hn]
   walk_at "ns"
   refine ⟨_, rfl, a, ns, 1, rfl, hS, fun z1 _ => ⟨_, rfl, z1, n, rfl, n8, fun wv D1 H1 tw hD1 s1 hl1 => ?_⟩⟩
   refine ⟨_, rfl, a, ns, 2, rfl, s1.seq hS, fun z2 _ => ⟨_, rfl, z2, n, rfl, n8, fun hv D2 H2 th hD2 s2 hl2 => ⟨two_fits, fun LT hLT => ?_⟩⟩⟩
   have s3 := same_new (o := .lst [.ref D1, .ref D2]) hLT
   have gT5 : (upd H2 LT (.lst [.ref D1, .ref D2])) LT = some (.lst [.ref D1, .ref D2]) := upd_same
   generalize upd H2 LT (.lst [.ref D1, .ref D2]) = H5 at s3 gT5
   have g15 := s3 _ _ (s2 _ _ hl1)
   have g25 := s3 _ _ hl2
   have s05 := s1.trans (s2.trans s3)
   clear s1 s2 s3 hl1 hl2 hD1 hD2 hLT
   walk_at "ns"
   intro b dx nx ndx nex
   have sx : Same H5 (upd (upd H5 dx (.own b)) b (.ins e.Book dx [])) := same_upd (same_new ndx) nx
   refine ⟨b, dx, rfl, upd_same, fun fp0 H6 kp0 fr0 BA0 => ⟨rfl, ?_⟩⟩
   have s6 : Same H5 H6 := fun c o h => kp0 c o (sx c o h) (ne_of_none h nx)
   have fr5 : ∀ c ∈ fp0, H5 c = none := fun c hc => by
    cases z : H5 c with
    | none => rfl
    | some o => have := sx c o z; rw [fr0 c hc] at this; cases this
   clear kp0 sx
   walk_at "ns"
   refine ⟨by decide, fun LP hLP => ?_⟩
   have s7 := same_new (o := .lst []) hLP
   have gP : (upd H6 LP (.lst [])) LP = some (.lst []) := upd_same
   generalize upd H6 LP (.lst []) = H7 at s7 gP
   walk_at "ns"
   refine ⟨by decide, fun LR hLR => ?_⟩
   have s8 := same_new (o := .lst []) hLR
   have gR : (upd H7 LR (.lst [])) LR = some (.lst []) := upd_same
   generalize upd H7 LR (.lst []) = H8 at s8 gR
   walk_at "ns"
   refine ⟨by decide, fun LK hLK => ?_⟩
   have s9 := same_new (o := .lst []) hLK
   have gK : (upd H8 LK (.lst [])) LK = some (.lst []) := upd_same
   generalize upd H8 LK (.lst []) = H9 at s9 gK
   have held : ∀ {G : Hp}, BookAt e.Book G b fp0 ⟨[], []⟩ -> ∀ {c : Addr}, G c = none -> c ∉ fp0 := fun BA c hc z => by
    obtain ⟨o, ho⟩ := BA.held (List.mem_cons_of_mem b z)
    rw [hc] at ho; cases ho
   have ac9 : Acc e.Book H9 b LP LR fp0 [] [] ⟨[], []⟩ := ⟨BA0.same (s7.trans (s8.trans s9)), ⟨s9 _ _ (s8 _ _ gP), TsAt.nil⟩, ⟨s9 _ _ gR, TsAt.nil⟩, held BA0 hLP, held (BA0.same s7) hLR, ne_of_none gP hLR⟩
   have nK9 : LK ∉ LP :: LR :: fp0 := fun z => by
    simp only [List.mem_cons] at z
    rcases z with rfl | rfl | z
    . rw [s8 _ _ gP] at hLK; cases hLK
    . rw [gR] at hLK; cases hLK
    . exact held (BA0.same (s7.trans s8)) hLK z
   have av5 : ∀ c ∈ LP :: LR :: LK :: fp0, H5 c = none := fun c hc => by
    simp only [List.mem_cons] at hc
    rcases hc with rfl | rfl | rfl | hc
    . exact s6.free hLP
    . exact (s6.trans s7).free hLR
    . exact (s6.trans (s7.trans s8)).free hLK
    . exact fr5 c hc
   have s59 := s6.trans (s7.trans (s8.trans s9))
   have nin : ∀ c o, H5 c = some o -> c ∉ LP :: LR :: LK :: fp0 := fun c o ho z => by rw [av5 c z] at ho; cases ho
   have sc9 : ScrAt K H9 a (ns.map V.int) (LP :: LR :: LK :: fp0) := (ScrAt.of (av := LP :: LR :: LK :: fp0) (s05.seq hS) (nin a)).same s59
   have tu9 : TuAt H9 LT D1 D2 wv hv (LP :: LR :: LK :: fp0) := TuAt.same ⟨gT5, g15, g25, nin _ _ gT5, nin _ _ g15, nin _ _ g25⟩ s59
   clear nin av5 s59 s6 s7 s8 s9 hLP hLR hLK gP gR BA0 fr0 fr5 s05 gT5 g15 g25 held
   walk_at "ns"
   refine ⟨_, rfl, a, ns, 3, rfl, sc9.sq, fun z3 hz3 => ⟨_, _, rfl, rfl, (show (0 : Int) < 6 by decide), ?_⟩⟩
   obtain ⟨ct, hct, lct⟩ := emod_nat z3 (show 0 < 6 by decide)
   rw [show (fun i j : Int => V.int (i % j)) z3 6 = nat ct from congrArg V.int hct]
   walk_at "ns"
   refine ⟨_, rfl, by decide, by decide, ?_⟩
   refine for_range0 (n := 7) (fun i σ G => ∃ (o8 o9 o10 : Option V) (fp ts us : List Addr) (bk : Bk) (ks : List Nat), σ = [some (.ref a), some (nat n), some (.ref LT), some (.ref b), some (.ref LP), some (.ref LR), some (.ref LK), some (nat ct), o8, o9, o10, none] /\ Acc e.Book G b LP LR fp ts us bk /\ G LK = some (.lst (natL ks)) /\ LK ∉ LP :: LR :: fp /\ ScrAt K G a (ns.map V.int) (LP :: LR :: LK :: fp) /\ TuAt G LT D1 D2 wv hv (LP :: LR :: LK :: fp) /\ bk.ps.length <= ct /\ bk.prs.length <= i /\ ks.length <= i /\ (z3 / 6 % 2 = 1 -> ks.length = bk.ps.length /\ ∀ j, j < ks.length -> kdAt ks j < n)) ⟨none, none, none, fp0, [], [], ⟨[], []⟩, [], rfl, ac9, gK, nK9, sc9, tu9, Nat.zero_le _, Nat.le_refl _, Nat.le_refl _, fun _ => ⟨rfl, fun j z => absurd z (Nat.not_lt_zero _)⟩⟩ ?_ ?_
   . rintro i σ G hi ⟨o8, o9, o10, fp, ts, us, bk, ks, rfl, ac, gKs, nK, sa, tu, pl, prl, kl, md⟩
     have tl := ac.pe.len
     have n60 := ac.bo.ok.n60
     walk_at "ns"
     refine ⟨_, rfl, _, rfl, _, _, rfl, rfl, a, ns, 4 + i, rfl, sa.sq, fun y _ => ?_⟩
     walk_at "ns"
     refine ⟨_, rfl, _, rfl, LP, ts, bk, y, rfl, ac.pe, n60, fun t0 c0 G1 ht0 s1 gt0 okc0 => ?_⟩
     have ac1 := ac.same s1
     have sa1 := sa.same s1
     have tu1 := tu.same s1
     have gK1 := s1 _ _ gKs
     walk_at "ns"
     refine ⟨fun σ' G' => ∃ t c ex, σ' = [some (.ref a), some (nat n), some (.ref LT), some (.ref b), some (.ref LP), some (.ref LR), some (.ref LK), some (nat ct), some (nat i), some (.int y), some (.ref t), none] /\ Same G1 G' /\ G' t = some (.tup (comT c ++ ex)) /\ ComOk bk c /\ ((ex = [] /\ ¬ z3 / 6 % 2 = 1) \/ ∃ kq, ex = [nat kq] /\ z3 / 6 % 2 = 1 /\ (isWd c = false -> kq < n)), ?_, ?_⟩
     . refine ⟨_, rfl, a, ns, 3, rfl, sa1.sq, fun z3' hz3' => ⟨_, _, rfl, rfl, ⟨by decide, by decide⟩, _, _, rfl, rfl, (show (0 : Int) < 2 by decide), rfl, _, rfl, ?_⟩⟩
       have ez : z3' = z3 := by rw [hz3, hz3']
       subst ez
       refine iteD2 (fun hm => ?_) (fun hm => ⟨t0, c0, [], rfl, Same.refl _, by rw [List.append_nil]; exact gt0, okc0, .inl ⟨rfl, fun z => hm (congrArg V.int z)⟩⟩)
       have hm : z3' / 6 % 2 = 1 := V.int.inj hm
       obtain ⟨m1, m2⟩ := md hm
       refine ⟨_, rfl, _, rfl, _, rfl, LT, _, 0, _, rfl, rfl, SqL.of tu1.gT, rfl, _, rfl, LT, _, 1, _, rfl, rfl, SqL.of tu1.gT, rfl, _, rfl, LP, LK, D1, D2, ts, bk, ks, n, wv, hv, y, rfl, ac1.pe, n60, gK1, m1, m2, tu1.g1, tu1.g2, tw, th, n1, fun t c kq G2 ht s2 gt okc fc => ?_⟩
       exact ⟨t, c, [nat kq], rfl, s2, gt, okc, .inr ⟨kq, rfl, hm, fitC_lt fc⟩⟩
     rintro σ' G2 ⟨t, c, ex, rfl, s2, gt, okc, hex⟩
     have s12 := s1.trans s2
     have ac2 := ac.same s12
     have sa2 := sa.same s12
     have tu2 := tu.same s12
     have gK2 := s12 _ _ gKs
     refine ⟨_, rfl, t, _, 0, _, rfl, rfl, SqT.of gt, hd_at c ex, hd_scal c _, _, rfl, ?_⟩
     rw [hd_wed]
     refine (fun (inner : (isWd c = true \/ bk.ps.length < ct) -> _) => iteB (fun wd => inner (.inl wd)) (fun nw => ⟨_, rfl, LP, _, rfl, .inl (SqL.of ac2.pe.l), _, rfl, _, _, rfl, rfl, _, rfl, iteD2 (fun lt => inner (.inr (by rw [List.length_map, tl] at lt; omega))) (fun _ => ⟨_, _, _, fp, ts, us, bk, ks, rfl, ac2, gK2, nK, sa2, tu2, pl, Nat.le_succ_of_le prl, Nat.le_succ_of_le kl, md⟩)⟩)) ?_
     intro hd
     refine iteT ?_
     refine ⟨fun σ' G' => ∃ ks' : List Nat, σ' = [some (.ref a), some (nat n), some (.ref LT), some (.ref b), some (.ref LP), some (.ref LR), some (.ref LK), some (nat ct), some (nat i), some (.int y), some (.ref t), none] /\ G' LK = some (.lst (natL ks')) /\ (∀ r o, G2 r = some o -> r ≠ LK -> G' r = some o) /\ ks'.length <= ks.length + 1 /\ (z3 / 6 % 2 = 1 -> ks'.length = bk.ps.length + (if isWd c = true then 0 else 1) /\ ∀ j, j < ks'.length -> kdAt ks' j < n), ?_, ?_⟩
     . refine ⟨_, rfl, t, _, 0, _, rfl, rfl, SqT.of gt, hd_at c ex, hd_scal c _, _, rfl, ?_⟩
       show if (!decide (hdC c = V.str "wed")) = true then _ else _
       rw [hd_wed]
       cases hw : isWd c with
       | true =>
         refine iteF ⟨ks, rfl, gK2, fun r o hr _ => hr, Nat.le_succ _, fun hm => ?_⟩
         rw [if_pos rfl]
         exact md hm
       | false =>
         refine iteT ⟨_, rfl, t, _, rfl, .inr (SqT.of gt), rfl, _, rfl, ?_⟩
         rw [com_len]
         rcases hex with ⟨rfl, nm⟩ | ⟨kq, rfl, hm, lq⟩
         . exact iteDn (by intro z; have := V.int.inj z; exact absurd this (by decide)) ⟨ks, rfl, gK2, fun r o hr _ => hr, Nat.le_succ _, fun hm => absurd hm nm⟩
         . obtain ⟨m1, m2⟩ := md hm
           refine iteD rfl ⟨_, rfl, .inl ⟨rfl, _, SqL.of gK2⟩, _, rfl, t, _, 3, _, rfl, rfl, SqT.of gt, at3 c _, LK, _, _, rfl, rfl, gK2, by rw [natL_len]; omega, ?_⟩
           refine ⟨ks ++ [kq], rfl, by rw [upd_same, natLs], fun r o hr hn => by rw [upd_ne hn]; exact hr, by rw [List.length_append]; exact Nat.le_refl _, fun _ => ⟨?_, kd_all m2 (lq hw)⟩⟩
           rw [List.length_append, m1, if_neg Bool.false_ne_true]
           rfl
     rintro σ' G3 ⟨ks', rfl, gK3, o2, kl', md'⟩
     have ac3 := ac2.apart nK gK2 o2
     have gt3 := o2 _ _ gt fun q => by rw [q, gK2] at gt; cases gt
     refine ⟨_, rfl, _, rfl, _, rfl, _, rfl, _, rfl, sl_both gt3 fun t2 G4 s4 g4 => ?_⟩
     refine ⟨b, LP, LR, t2, fp, ts, us, bk, c, rfl, ac3.same s4, g4, okc, by omega, by omega, fun fp5 ts5 us5 G5 ac5 kp5 fr5 => ⟨_, rfl, iteF ?_⟩⟩
     have gK5 := kp5 _ _ (s4 _ _ gK3) nK
     have nK5 : LK ∉ LP :: LR :: fp5 := fun q => by
      rcases av_go fr5 _ q with z | z
      . exact nK z
      . rw [s4 _ _ gK3] at z; cases z
     have kp25 : ∀ c' o, G2 c' = some o -> c' ∉ LP :: LR :: LK :: fp -> G5 c' = some o := fun c' o hc hn => by
      simp only [List.mem_cons, not_or] at hn
      refine kp5 c' o (s4 _ _ (o2 _ _ hc hn.2.2.1)) ?_
      simp only [List.mem_cons, not_or]
      exact ⟨hn.1, hn.2.1, hn.2.2.2⟩
     have fr25 : ∀ c' ∈ LP :: LR :: LK :: fp5, c' ∈ LP :: LR :: LK :: fp \/ G2 c' = none := fun c' hc => by
      simp only [List.mem_cons] at hc ⊢
      rcases hc with h | h | h | h
      . exact .inl (.inl h)
      . exact .inl (.inr (.inl h))
      . exact .inl (.inr (.inr (.inl h)))
      . rcases fr5 c' h with y' | y'
        . exact .inl (.inr (.inr (.inr y')))
        . by_cases q : c' = LK
          . exact .inl (.inr (.inr (.inl q)))
          . refine .inr ?_
            cases u : G2 c' with
            | none => rfl
            | some o => rw [s4 _ _ (o2 _ _ u q)] at y'; cases y'
     have dp := doC_ps bk c
     refine ⟨_, _, _, fp5, ts5, us5, doC bk c, ks', rfl, ac5, gK5, nK5, sa2.go kp25 fr25, tu2.go kp25 fr25, ?_, Nat.le_trans (doC_len bk c) (Nat.succ_le_succ prl), by omega, fun hm => ⟨by rw [dp]; exact (md' hm).1, (md' hm).2⟩⟩
     rw [dp]
     rcases hd with z | z
     . rw [if_pos z]; exact pl
     . split <;> omega
   rintro σ G ⟨o8, o9, o10, fp, ts, us, bk, ks, rfl, ac, gKs, nK, sa, tu0, pl, prl, kl, md⟩
   have tu := tu0.sub (av' := LP :: LR :: fp) fun c hc => by
    simp only [List.mem_cons] at hc ⊢
    rcases hc with h | h | h
    . exact .inl h
    . exact .inr (.inl h)
    . exact .inr (.inr (.inr h))
   have tl := ac.pe.len
   have hld : ∀ c ∈ LP :: LR :: fp, ∃ o, G c = some o := fun c hc => by
    simp only [List.mem_cons] at hc
    rcases hc with rfl | rfl | hc
    . exact ⟨_, ac.pe.l⟩
    . exact ⟨_, ac.pa.l⟩
    . exact ac.bo.held (List.mem_cons_of_mem b hc)
   refine ⟨_, rfl, LT, _, 0, _, rfl, rfl, SqL.of tu.gT, rfl, _, rfl, LT, _, 1, _, rfl, rfl, SqL.of tu.gT, rfl, ?_⟩
   intro x dx' nx' ndx' nex'
   have sx : Same G (upd (upd G dx' (.own x)) x (.ins C dx' [])) := same_upd (same_new ndx') nx'
   refine ⟨x, dx', D1, D2, intL wv, intL hv, rfl, upd_same, by rw [<- natL_intL]; exact sx _ _ tu.g1, by rw [<- natL_intL]; exact sx _ _ tu.g2, turn_sm tw n8, turn_sm th n8, fun m w2 h2 e1 e2 q1 q2 _ _ G2 kp TT => ?_, fun z => absurd ⟨n, wv, hv, rfl, rfl, tw, th, n1, n8⟩ z⟩
   have e1 := intL_inj e1
   have e2 := intL_inj e2
   subst e1 e2
   have em : m = n := by rw [<- q1.len, tw.len]
   subst em
   refine ⟨rfl, ?_⟩
   have s2 : Same G G2 := fun c o hc => kp c o (sx _ _ hc) (ne_of_none hc nx')
   have TT2 : ∀ G', (∀ c o, G2 c = some o -> c ∉ LP :: LR :: fp -> G' c = some o) -> TableAt C G' x m wv hv := fun G' h => TT G' fun c o hc hn => h c o hc fun z => by
    obtain ⟨o', ho'⟩ := hld c z
    rcases hn with hn | rfl
    . rw [sx _ _ ho'] at hn; cases hn
    . rw [nx'] at ho'; cases ho'
   clear TT kp sx
   have ac2 := ac.same s2
   have tu2 := tu.same s2
   have TA2 : TableAt C G2 x m wv hv := TT2 G2 fun c o h _ => h
   walk_at "ns"
   refine ⟨_, rfl, _, rfl, _, rfl, _, rfl, _, rfl, b, x, LP, LR, LT, D1, D2, fp, ts, us, bk, m, wv, hv, rfl, ac2.bo, TA2, ac2.pe, ac2.pa, tu2.gT, tu2.g1, tu2.g2, by omega, n3, fun G3 s3 => ⟨_, rfl, iteF ?_⟩⟩
   have s23 := s2.trans s3
   refine ⟨_, rfl, .inl ⟨rfl, _, SqL.of (ac.same s23).pe.l⟩, (show 3 <= sizeLine by decide), fun t ht => ?_⟩
   have q1 := same_new (o := .tup [V.str "woman", V.non, V.non]) ht
   have gt : (upd G3 t (.tup [V.str "woman", V.non, V.non])) t = some (.tup (perT (false, none))) := upd_same
   generalize upd G3 t (.tup [V.str "woman", V.non, V.non]) = G4 at q1 gt
   have s34 := s3.trans q1
   have ac4 := ac2.same s34
   refine ⟨LP, _, _, rfl, rfl, ac4.pe.l, by rw [List.length_map, tl]; omega, ?_⟩
   generalize hH : upd G4 LP (.lst (ts.map V.ref ++ [.ref t])) = G5
   obtain ⟨BA5, cm⟩ := acc_came ac4 gt hH
   obtain ⟨dx5, a5, b5, c5, d5, qs5, hfp5, e5, _⟩ := id BA5.ob
   refine ⟨_, rfl, b, dx5, _, rfl, e5, bno .., b, fp, bk, false, rfl, BA5, fun _ fp2 G6 BA6 kp6 fr6 _ => ?_, fun z => absurd z (by omega)⟩
   obtain ⟨ac6, kp, fr⟩ := cm fp2 G6 BA6 kp6 fr6
   refine ⟨_, rfl, LP, _, rfl, .inl (SqL.of ac6.pe.l), _, _, rfl, rfl, rfl, ?_⟩
   have ev := len_sub bk.ps.length ((ts ++ [t]).map V.ref) (by rw [List.length_map, List.length_append, tl]; rfl)
   have ed : decide (nat bk.ps.length = V.int ((((ts ++ [t]).map V.ref).length : Nat) - (1 : Int))) = true := by rw [ev]; exact decide_eq_true rfl
   refine ⟨_, congrArg V.bl ed, iteT ?_⟩
   have TA6 : TableAt C G6 x m wv hv := TT2 G6 fun c o hc hn => kp c o (s34 _ _ hc) hn
   have tu6 := (tu2.same s34).go kp (av_go fr)
   refine ⟨_, rfl, _, rfl, _, rfl, _, rfl, _, rfl, b, x, LP, LR, LT, D1, D2, fp2, ts ++ [t], us, bk.add (false, none), m, wv, hv, rfl, ac6.bo, TA6, ac6.pe, ac6.pa, tu6.gT, tu6.g1, tu6.g2, ?_, n3, fun G7 _ => k _⟩
   show (bk.ps ++ [_]).length <= 6
   rw [List.length_append]
   show bk.ps.length + 1 <= 6
   omega
end
set_option maxHeartbeats 0 in
theorem all_mk {l : W.OpenLaw} {w : World} {K : W.Frag} {h : Heap} {mg : Str -> Option Value} {fa : Addr} (X : K.In h) (G : h.Ns mainGlobals mg) (hfa : mg "law" = some (.ref fa))
 {a_Za : Addr}
 {a_Zb : Addr}
 {a_Zc : Addr}
 {a_Zd : Addr}
 {a_Zf : Addr}
 {a_Zg : Addr}
 {a_Zh : Addr}
 {a_Book : Addr}
 {a_Table : Addr}
 {oc_d__q4 kV_d__q4 dc_d__q4 pm_d__q4 cd_d__q4 ct_d__q4 : Value} {od_d__q4 an_d__q4 : Option Addr} {sl_d__q4 : Array (Option Value)} {f_d__q4 : Addr}
 {oc_d__q5 kV_d__q5 dc_d__q5 pm_d__q5 cd_d__q5 ct_d__q5 : Value} {od_d__q5 an_d__q5 : Option Addr} {sl_d__q5 : Array (Option Value)} {f_d__q5 : Addr}
 {oc_d__q10 kV_d__q10 dc_d__q10 pm_d__q10 cd_d__q10 ct_d__q10 : Value} {od_d__q10 an_d__q10 : Option Addr} {sl_d__q10 : Array (Option Value)} {f_d__q10 : Addr}
 {oc_d__q1 kV_d__q1 dc_d__q1 pm_d__q1 cd_d__q1 ct_d__q1 : Value} {od_d__q1 an_d__q1 : Option Addr} {sl_d__q1 : Array (Option Value)} {f_d__q1 : Addr}
 {oc_m_check_room kV_m_check_room dc_m_check_room pm_m_check_room cd_m_check_room ct_m_check_room : Value} {od_m_check_room an_m_check_room : Option Addr} {sl_m_check_room : Array (Option Value)} {f_m_check_room : Addr}
 {oc_m_enter kV_m_enter dc_m_enter pm_m_enter cd_m_enter ct_m_enter : Value} {od_m_enter an_m_enter : Option Addr} {sl_m_enter : Array (Option Value)} {f_m_enter : Addr}
 {oc_m_come kV_m_come dc_m_come pm_m_come cd_m_come ct_m_come : Value} {od_m_come an_m_come : Option Addr} {sl_m_come : Array (Option Value)} {f_m_come : Addr}
 {oc_m_check_person kV_m_check_person dc_m_check_person pm_m_check_person cd_m_check_person ct_m_check_person : Value} {od_m_check_person an_m_check_person : Option Addr} {sl_m_check_person : Array (Option Value)} {f_m_check_person : Addr}
 {oc_m_check_couple kV_m_check_couple dc_m_check_couple pm_m_check_couple cd_m_check_couple ct_m_check_couple : Value} {od_m_check_couple an_m_check_couple : Option Addr} {sl_m_check_couple : Array (Option Value)} {f_m_check_couple : Addr}
 {oc_m_pair kV_m_pair dc_m_pair pm_m_pair cd_m_pair ct_m_pair : Value} {od_m_pair an_m_pair : Option Addr} {sl_m_pair : Array (Option Value)} {f_m_pair : Addr}
 {oc_m_born kV_m_born dc_m_born pm_m_born cd_m_born ct_m_born : Value} {od_m_born an_m_born : Option Addr} {sl_m_born : Array (Option Value)} {f_m_born : Addr}
 {oc_m_wed kV_m_wed dc_m_wed pm_m_wed cd_m_wed ct_m_wed : Value} {od_m_wed an_m_wed : Option Addr} {sl_m_wed : Array (Option Value)} {f_m_wed : Addr}
 {oc_d__q14 kV_d__q14 dc_d__q14 pm_d__q14 cd_d__q14 ct_d__q14 : Value} {od_d__q14 an_d__q14 : Option Addr} {sl_d__q14 : Array (Option Value)} {f_d__q14 : Addr}
 {oc_d__q3 kV_d__q3 dc_d__q3 pm_d__q3 cd_d__q3 ct_d__q3 : Value} {od_d__q3 an_d__q3 : Option Addr} {sl_d__q3 : Array (Option Value)} {f_d__q3 : Addr}
 {oc_d__q2 kV_d__q2 dc_d__q2 pm_d__q2 cd_d__q2 ct_d__q2 : Value} {od_d__q2 an_d__q2 : Option Addr} {sl_d__q2 : Array (Option Value)} {f_d__q2 : Addr}
 {oc_d__q11 kV_d__q11 dc_d__q11 pm_d__q11 cd_d__q11 ct_d__q11 : Value} {od_d__q11 an_d__q11 : Option Addr} {sl_d__q11 : Array (Option Value)} {f_d__q11 : Addr}
 {oc_d__q6 kV_d__q6 dc_d__q6 pm_d__q6 cd_d__q6 ct_d__q6 : Value} {od_d__q6 an_d__q6 : Option Addr} {sl_d__q6 : Array (Option Value)} {f_d__q6 : Addr}
 {oc_d__q0 kV_d__q0 dc_d__q0 pm_d__q0 cd_d__q0 ct_d__q0 : Value} {od_d__q0 an_d__q0 : Option Addr} {sl_d__q0 : Array (Option Value)} {f_d__q0 : Addr}
 {oc_m_Book_size kV_m_Book_size dc_m_Book_size pm_m_Book_size cd_m_Book_size ct_m_Book_size : Value} {od_m_Book_size an_m_Book_size : Option Addr} {sl_m_Book_size : Array (Option Value)} {f_m_Book_size : Addr}
 {oc_m_Table_size kV_m_Table_size dc_m_Table_size pm_m_Table_size cd_m_Table_size ct_m_Table_size : Value} {od_m_Table_size an_m_Table_size : Option Addr} {sl_m_Table_size : Array (Option Value)} {f_m_Table_size : Addr}
 {oc_m_check_class kV_m_check_class dc_m_check_class pm_m_check_class cd_m_check_class ct_m_check_class : Value} {od_m_check_class an_m_check_class : Option Addr} {sl_m_check_class : Array (Option Value)} {f_m_check_class : Addr}
 {oc_d_w6 kV_d_w6 dc_d_w6 pm_d_w6 cd_d_w6 ct_d_w6 : Value} {od_d_w6 an_d_w6 : Option Addr} {sl_d_w6 : Array (Option Value)} {f_d_w6 : Addr}
 {oc_m_wife_of kV_m_wife_of dc_m_wife_of pm_m_wife_of cd_m_wife_of ct_m_wife_of : Value} {od_m_wife_of an_m_wife_of : Option Addr} {sl_m_wife_of : Array (Option Value)} {f_m_wife_of : Addr}
 {oc_m_father_of kV_m_father_of dc_m_father_of pm_m_father_of cd_m_father_of ct_m_father_of : Value} {od_m_father_of an_m_father_of : Option Addr} {sl_m_father_of : Array (Option Value)} {f_m_father_of : Addr}
 {oc_m_husband_of kV_m_husband_of dc_m_husband_of pm_m_husband_of cd_m_husband_of ct_m_husband_of : Value} {od_m_husband_of an_m_husband_of : Option Addr} {sl_m_husband_of : Array (Option Value)} {f_m_husband_of : Addr}
 {oc_d_w0 kV_d_w0 dc_d_w0 pm_d_w0 cd_d_w0 ct_d_w0 : Value} {od_d_w0 an_d_w0 : Option Addr} {sl_d_w0 : Array (Option Value)} {f_d_w0 : Addr}
 {oc_m_heir_of kV_m_heir_of dc_m_heir_of pm_m_heir_of cd_m_heir_of ct_m_heir_of : Value} {od_m_heir_of an_m_heir_of : Option Addr} {sl_m_heir_of : Array (Option Value)} {f_m_heir_of : Addr}
 {oc_d_w5 kV_d_w5 dc_d_w5 pm_d_w5 cd_d_w5 ct_d_w5 : Value} {od_d_w5 an_d_w5 : Option Addr} {sl_d_w5 : Array (Option Value)} {f_d_w5 : Addr}
 {oc_d_w3 kV_d_w3 dc_d_w3 pm_d_w3 cd_d_w3 ct_d_w3 : Value} {od_d_w3 an_d_w3 : Option Addr} {sl_d_w3 : Array (Option Value)} {f_d_w3 : Addr}
 {oc_d_w2 kV_d_w2 dc_d_w2 pm_d_w2 cd_d_w2 ct_d_w2 : Value} {od_d_w2 an_d_w2 : Option Addr} {sl_d_w2 : Array (Option Value)} {f_d_w2 : Addr}
 {oc_d_w8 kV_d_w8 dc_d_w8 pm_d_w8 cd_d_w8 ct_d_w8 : Value} {od_d_w8 an_d_w8 : Option Addr} {sl_d_w8 : Array (Option Value)} {f_d_w8 : Addr}
 {oc_d_w12 kV_d_w12 dc_d_w12 pm_d_w12 cd_d_w12 ct_d_w12 : Value} {od_d_w12 an_d_w12 : Option Addr} {sl_d_w12 : Array (Option Value)} {f_d_w12 : Addr}
 {oc_m_sex_of kV_m_sex_of dc_m_sex_of pm_m_sex_of cd_m_sex_of ct_m_sex_of : Value} {od_m_sex_of an_m_sex_of : Option Addr} {sl_m_sex_of : Array (Option Value)} {f_m_sex_of : Addr}
 {oc_m_children kV_m_children dc_m_children pm_m_children cd_m_children ct_m_children : Value} {od_m_children an_m_children : Option Addr} {sl_m_children : Array (Option Value)} {f_m_children : Addr}
 {oc_m_siblings kV_m_siblings dc_m_siblings pm_m_siblings cd_m_siblings ct_m_siblings : Value} {od_m_siblings an_m_siblings : Option Addr} {sl_m_siblings : Array (Option Value)} {f_m_siblings : Addr}
 {oc_m_kin_by_letter kV_m_kin_by_letter dc_m_kin_by_letter pm_m_kin_by_letter cd_m_kin_by_letter ct_m_kin_by_letter : Value} {od_m_kin_by_letter an_m_kin_by_letter : Option Addr} {sl_m_kin_by_letter : Array (Option Value)} {f_m_kin_by_letter : Addr}
 {oc_m_kin kV_m_kin dc_m_kin pm_m_kin cd_m_kin ct_m_kin : Value} {od_m_kin an_m_kin : Option Addr} {sl_m_kin : Array (Option Value)} {f_m_kin : Addr}
 {oc_d_w1 kV_d_w1 dc_d_w1 pm_d_w1 cd_d_w1 ct_d_w1 : Value} {od_d_w1 an_d_w1 : Option Addr} {sl_d_w1 : Array (Option Value)} {f_d_w1 : Addr}
 {oc_d_w10 kV_d_w10 dc_d_w10 pm_d_w10 cd_d_w10 ct_d_w10 : Value} {od_d_w10 an_d_w10 : Option Addr} {sl_d_w10 : Array (Option Value)} {f_d_w10 : Addr}
 {oc_d_w7 kV_d_w7 dc_d_w7 pm_d_w7 cd_d_w7 ct_d_w7 : Value} {od_d_w7 an_d_w7 : Option Addr} {sl_d_w7 : Array (Option Value)} {f_d_w7 : Addr}
 {oc_d_w9 kV_d_w9 dc_d_w9 pm_d_w9 cd_d_w9 ct_d_w9 : Value} {od_d_w9 an_d_w9 : Option Addr} {sl_d_w9 : Array (Option Value)} {f_d_w9 : Addr}
 {oc_d_w11 kV_d_w11 dc_d_w11 pm_d_w11 cd_d_w11 ct_d_w11 : Value} {od_d_w11 an_d_w11 : Option Addr} {sl_d_w11 : Array (Option Value)} {f_d_w11 : Addr}
 {oc_d_w4 kV_d_w4 dc_d_w4 pm_d_w4 cd_d_w4 ct_d_w4 : Value} {od_d_w4 an_d_w4 : Option Addr} {sl_d_w4 : Array (Option Value)} {f_d_w4 : Addr}
 {oc_m_Table___init__ kV_m_Table___init__ dc_m_Table___init__ pm_m_Table___init__ cd_m_Table___init__ ct_m_Table___init__ : Value} {od_m_Table___init__ an_m_Table___init__ : Option Addr} {sl_m_Table___init__ : Array (Option Value)} {f_m_Table___init__ : Addr}
 {oc_m_Book___init__ kV_m_Book___init__ dc_m_Book___init__ pm_m_Book___init__ cd_m_Book___init__ ct_m_Book___init__ : Value} {od_m_Book___init__ an_m_Book___init__ : Option Addr} {sl_m_Book___init__ : Array (Option Value)} {f_m_Book___init__ : Addr}
 {oc_d__q7 kV_d__q7 dc_d__q7 pm_d__q7 cd_d__q7 ct_d__q7 : Value} {od_d__q7 an_d__q7 : Option Addr} {sl_d__q7 : Array (Option Value)} {f_d__q7 : Addr}
 {oc_d__q8 kV_d__q8 dc_d__q8 pm_d__q8 cd_d__q8 ct_d__q8 : Value} {od_d__q8 an_d__q8 : Option Addr} {sl_d__q8 : Array (Option Value)} {f_d__q8 : Addr}
 {oc_d__q9 kV_d__q9 dc_d__q9 pm_d__q9 cd_d__q9 ct_d__q9 : Value} {od_d__q9 an_d__q9 : Option Addr} {sl_d__q9 : Array (Option Value)} {f_d__q9 : Addr}
 {oc_d__q13 kV_d__q13 dc_d__q13 pm_d__q13 cd_d__q13 ct_d__q13 : Value} {od_d__q13 an_d__q13 : Option Addr} {sl_d__q13 : Array (Option Value)} {f_d__q13 : Addr}
 {oc_d__q12 kV_d__q12 dc_d__q12 pm_d__q12 cd_d__q12 ct_d__q12 : Value} {od_d__q12 an_d__q12 : Option Addr} {sl_d__q12 : Array (Option Value)} {f_d__q12 : Addr}
 {oc_d_law kV_d_law dc_d_law pm_d_law cd_d_law ct_d_law : Value} {od_d_law an_d_law : Option Addr} {sl_d_law : Array (Option Value)} {f_d_law : Addr}
 {t_LETTERS : Tok}
 {t_LETTERS_TO_MEN : Tok}
 {t_MOST_LETTERS : Tok}
 {t_LETTERS_THAT_HANG : Tok}
 {t_MOST_PERSONS : Tok}
 {t_MOST_CLASSES : Tok}
 (b_Za : W.nsIn K mainGlobals "KinError" = some (some (.ref a_Za)))
 (b_Zb : W.nsIn K mainGlobals "NoTable" = some (some (.ref a_Zb)))
 (b_Zc : W.nsIn K mainGlobals "NoClass" = some (some (.ref a_Zc)))
 (b_Zd : W.nsIn K mainGlobals "NoWalk" = some (some (.ref a_Zd)))
 (b_Zf : W.nsIn K mainGlobals "NoPerson" = some (some (.ref a_Zf)))
 (b_Zg : W.nsIn K mainGlobals "NoParents" = some (some (.ref a_Zg)))
 (b_Zh : W.nsIn K mainGlobals "TooMany" = some (some (.ref a_Zh)))
 (b_Book : W.nsIn K mainGlobals "Book" = some (some (.ref a_Book)))
 (b_Table : W.nsIn K mainGlobals "Table" = some (some (.ref a_Table)))
 (pg_Book : W.plainGet K a_Book Str.empty = true)
 (hd_Book : W.hasDictIn K a_Book = true)
 (po_Book : W.plainOver K a_Book = true)
 (sa_Book : W.findIn K (.ref a_Book) "__setattr__" = some (some (.builtin "object.__setattr__")))
 (mk_Book : W.makesIn K a_Book = true)
 (kc_Book : W.keepIn K (.ref a_Book) = true)
 (n_sexes : W.findIn K (.ref a_Book) "sexes" = some none)
 (n_fathers : W.findIn K (.ref a_Book) "fathers" = some none)
 (n_mothers : W.findIn K (.ref a_Book) "mothers" = some none)
 (n_partner_lists : W.findIn K (.ref a_Book) "partner_lists" = some none)
 (pg_Table : W.plainGet K a_Table Str.empty = true)
 (hd_Table : W.hasDictIn K a_Table = true)
 (po_Table : W.plainOver K a_Table = true)
 (sa_Table : W.findIn K (.ref a_Table) "__setattr__" = some (some (.builtin "object.__setattr__")))
 (mk_Table : W.makesIn K a_Table = true)
 (kc_Table : W.keepIn K (.ref a_Table) = true)
 (n_wife_turn : W.findIn K (.ref a_Table) "wife_turn" = some none)
 (n_heir_turn : W.findIn K (.ref a_Table) "heir_turn" = some none)
 (n_husband_turn : W.findIn K (.ref a_Table) "husband_turn" = some none)
 (n_father_turn : W.findIn K (.ref a_Table) "father_turn" = some none)
 (kd1 : W.specialIn K (.builtin "object.__class__") "__get__" = some (some (.builtin "getset_descriptor.__get__")))
 (kd2 : W.takesIn K (.builtin "object.__class__") = some true)
 (x_Zb : W.excIn K a_Zb bmVE "ValueError.__new__" = true)
 (c1_Zb : W.isClsIn K a_Zb = true)
 (c2_Zb : W.findIn K (.ref a_Zb) "__getattribute__" = some (some (.builtin "BaseException.__getattribute__")))
 (c3_Zb : W.findIn K (.ref a_Zb) "__getattr__" = some none)
 (c4_Zb : W.findIn K (.ref a_Zb) "__class__" = some (some (.builtin "object.__class__")))
 (c5_Zb : W.mroIn K a_Zb (.type "object") = some true)
 (c6_Zb : W.mroIn K a_Zb (.type "BaseException") = some true)
 (w_Zb : W.exmOne K (.ref a_Zb) (.ref a_Za) = some true)
 (v_Zb : W.kitOne K (.ref a_Zb) (.type "ValueError") = some true)
 (k_Zb_Zb : W.kitOne K (.ref a_Zb) (.ref a_Zb) = some true)
 (k_Zb_Zc : W.kitOne K (.ref a_Zb) (.ref a_Zc) = some false)
 (k_Zb_Zd : W.kitOne K (.ref a_Zb) (.ref a_Zd) = some false)
 (k_Zb_Zf : W.kitOne K (.ref a_Zb) (.ref a_Zf) = some false)
 (k_Zb_Zg : W.kitOne K (.ref a_Zb) (.ref a_Zg) = some false)
 (k_Zb_Zh : W.kitOne K (.ref a_Zb) (.ref a_Zh) = some false)
 (x_Zc : W.excIn K a_Zc bmVE "ValueError.__new__" = true)
 (c1_Zc : W.isClsIn K a_Zc = true)
 (c2_Zc : W.findIn K (.ref a_Zc) "__getattribute__" = some (some (.builtin "BaseException.__getattribute__")))
 (c3_Zc : W.findIn K (.ref a_Zc) "__getattr__" = some none)
 (c4_Zc : W.findIn K (.ref a_Zc) "__class__" = some (some (.builtin "object.__class__")))
 (c5_Zc : W.mroIn K a_Zc (.type "object") = some true)
 (c6_Zc : W.mroIn K a_Zc (.type "BaseException") = some true)
 (w_Zc : W.exmOne K (.ref a_Zc) (.ref a_Za) = some true)
 (v_Zc : W.kitOne K (.ref a_Zc) (.type "ValueError") = some true)
 (k_Zc_Zb : W.kitOne K (.ref a_Zc) (.ref a_Zb) = some false)
 (k_Zc_Zc : W.kitOne K (.ref a_Zc) (.ref a_Zc) = some true)
 (k_Zc_Zd : W.kitOne K (.ref a_Zc) (.ref a_Zd) = some false)
 (k_Zc_Zf : W.kitOne K (.ref a_Zc) (.ref a_Zf) = some false)
 (k_Zc_Zg : W.kitOne K (.ref a_Zc) (.ref a_Zg) = some false)
 (k_Zc_Zh : W.kitOne K (.ref a_Zc) (.ref a_Zh) = some false)
 (x_Zd : W.excIn K a_Zd bmVE "ValueError.__new__" = true)
 (c1_Zd : W.isClsIn K a_Zd = true)
 (c2_Zd : W.findIn K (.ref a_Zd) "__getattribute__" = some (some (.builtin "BaseException.__getattribute__")))
 (c3_Zd : W.findIn K (.ref a_Zd) "__getattr__" = some none)
 (c4_Zd : W.findIn K (.ref a_Zd) "__class__" = some (some (.builtin "object.__class__")))
 (c5_Zd : W.mroIn K a_Zd (.type "object") = some true)
 (c6_Zd : W.mroIn K a_Zd (.type "BaseException") = some true)
 (w_Zd : W.exmOne K (.ref a_Zd) (.ref a_Za) = some true)
 (v_Zd : W.kitOne K (.ref a_Zd) (.type "ValueError") = some true)
 (k_Zd_Zb : W.kitOne K (.ref a_Zd) (.ref a_Zb) = some false)
 (k_Zd_Zc : W.kitOne K (.ref a_Zd) (.ref a_Zc) = some false)
 (k_Zd_Zd : W.kitOne K (.ref a_Zd) (.ref a_Zd) = some true)
 (k_Zd_Zf : W.kitOne K (.ref a_Zd) (.ref a_Zf) = some false)
 (k_Zd_Zg : W.kitOne K (.ref a_Zd) (.ref a_Zg) = some false)
 (k_Zd_Zh : W.kitOne K (.ref a_Zd) (.ref a_Zh) = some false)
 (x_Zf : W.excIn K a_Zf bmVE "ValueError.__new__" = true)
 (c1_Zf : W.isClsIn K a_Zf = true)
 (c2_Zf : W.findIn K (.ref a_Zf) "__getattribute__" = some (some (.builtin "BaseException.__getattribute__")))
 (c3_Zf : W.findIn K (.ref a_Zf) "__getattr__" = some none)
 (c4_Zf : W.findIn K (.ref a_Zf) "__class__" = some (some (.builtin "object.__class__")))
 (c5_Zf : W.mroIn K a_Zf (.type "object") = some true)
 (c6_Zf : W.mroIn K a_Zf (.type "BaseException") = some true)
 (w_Zf : W.exmOne K (.ref a_Zf) (.ref a_Za) = some true)
 (v_Zf : W.kitOne K (.ref a_Zf) (.type "ValueError") = some true)
 (k_Zf_Zb : W.kitOne K (.ref a_Zf) (.ref a_Zb) = some false)
 (k_Zf_Zc : W.kitOne K (.ref a_Zf) (.ref a_Zc) = some false)
 (k_Zf_Zd : W.kitOne K (.ref a_Zf) (.ref a_Zd) = some false)
 (k_Zf_Zf : W.kitOne K (.ref a_Zf) (.ref a_Zf) = some true)
 (k_Zf_Zg : W.kitOne K (.ref a_Zf) (.ref a_Zg) = some false)
 (k_Zf_Zh : W.kitOne K (.ref a_Zf) (.ref a_Zh) = some false)
 (x_Zg : W.excIn K a_Zg bmVE "ValueError.__new__" = true)
 (c1_Zg : W.isClsIn K a_Zg = true)
 (c2_Zg : W.findIn K (.ref a_Zg) "__getattribute__" = some (some (.builtin "BaseException.__getattribute__")))
 (c3_Zg : W.findIn K (.ref a_Zg) "__getattr__" = some none)
 (c4_Zg : W.findIn K (.ref a_Zg) "__class__" = some (some (.builtin "object.__class__")))
 (c5_Zg : W.mroIn K a_Zg (.type "object") = some true)
 (c6_Zg : W.mroIn K a_Zg (.type "BaseException") = some true)
 (w_Zg : W.exmOne K (.ref a_Zg) (.ref a_Za) = some true)
 (v_Zg : W.kitOne K (.ref a_Zg) (.type "ValueError") = some true)
 (k_Zg_Zb : W.kitOne K (.ref a_Zg) (.ref a_Zb) = some false)
 (k_Zg_Zc : W.kitOne K (.ref a_Zg) (.ref a_Zc) = some false)
 (k_Zg_Zd : W.kitOne K (.ref a_Zg) (.ref a_Zd) = some false)
 (k_Zg_Zf : W.kitOne K (.ref a_Zg) (.ref a_Zf) = some false)
 (k_Zg_Zg : W.kitOne K (.ref a_Zg) (.ref a_Zg) = some true)
 (k_Zg_Zh : W.kitOne K (.ref a_Zg) (.ref a_Zh) = some false)
 (x_Zh : W.excIn K a_Zh bmVE "ValueError.__new__" = true)
 (c1_Zh : W.isClsIn K a_Zh = true)
 (c2_Zh : W.findIn K (.ref a_Zh) "__getattribute__" = some (some (.builtin "BaseException.__getattribute__")))
 (c3_Zh : W.findIn K (.ref a_Zh) "__getattr__" = some none)
 (c4_Zh : W.findIn K (.ref a_Zh) "__class__" = some (some (.builtin "object.__class__")))
 (c5_Zh : W.mroIn K a_Zh (.type "object") = some true)
 (c6_Zh : W.mroIn K a_Zh (.type "BaseException") = some true)
 (w_Zh : W.exmOne K (.ref a_Zh) (.ref a_Za) = some true)
 (v_Zh : W.kitOne K (.ref a_Zh) (.type "ValueError") = some true)
 (k_Zh_Zb : W.kitOne K (.ref a_Zh) (.ref a_Zb) = some false)
 (k_Zh_Zc : W.kitOne K (.ref a_Zh) (.ref a_Zc) = some false)
 (k_Zh_Zd : W.kitOne K (.ref a_Zh) (.ref a_Zd) = some false)
 (k_Zh_Zf : W.kitOne K (.ref a_Zh) (.ref a_Zf) = some false)
 (k_Zh_Zg : W.kitOne K (.ref a_Zh) (.ref a_Zg) = some false)
 (k_Zh_Zh : W.kitOne K (.ref a_Zh) (.ref a_Zh) = some true)
 (a_d__q4 : W.nsIn K mainGlobals "_law_cell_at" = some (some (.ref f_d__q4)))
 (l_d__q4 : K.lookup f_d__q4 = some ⟨oc_d__q4, od_d__q4, .func (W.fnOf "_law_cell_at" "_law_cell_at" (defArgs (top 35)) (defBody (top 35)) (defScope (top 35)) .none kV_d__q4 dc_d__q4 pm_d__q4 an_d__q4 cd_d__q4 ct_d__q4), sl_d__q4⟩)
 (cc_d__q4 : W.codeIn K cd_d__q4 "_law_cell_at" = true)
 (kk_d__q4 : W.keepIn K (.ref f_d__q4) = true)
 (a_d__q5 : W.nsIn K mainGlobals "_law_turn_by" = some (some (.ref f_d__q5)))
 (l_d__q5 : K.lookup f_d__q5 = some ⟨oc_d__q5, od_d__q5, .func (W.fnOf "_law_turn_by" "_law_turn_by" (defArgs (top 38)) (defBody (top 38)) (defScope (top 38)) .none kV_d__q5 dc_d__q5 pm_d__q5 an_d__q5 cd_d__q5 ct_d__q5), sl_d__q5⟩)
 (cc_d__q5 : W.codeIn K cd_d__q5 "_law_turn_by" = true)
 (kk_d__q5 : W.keepIn K (.ref f_d__q5) = true)
 (a_d__q10 : W.nsIn K mainGlobals "_law_whole" = some (some (.ref f_d__q10)))
 (l_d__q10 : K.lookup f_d__q10 = some ⟨oc_d__q10, od_d__q10, .func (W.fnOf "_law_whole" "_law_whole" (defArgs (top 36)) (defBody (top 36)) (defScope (top 36)) .none kV_d__q10 dc_d__q10 pm_d__q10 an_d__q10 cd_d__q10 ct_d__q10), sl_d__q10⟩)
 (cc_d__q10 : W.codeIn K cd_d__q10 "_law_whole" = true)
 (kk_d__q10 : W.keepIn K (.ref f_d__q10) = true)
 (a_d__q1 : W.nsIn K mainGlobals "_law_fit_comer" = some (some (.ref f_d__q1)))
 (l_d__q1 : K.lookup f_d__q1 = some ⟨oc_d__q1, od_d__q1, .func (W.fnOf "_law_fit_comer" "_law_fit_comer" (defArgs (top 41)) (defBody (top 41)) (defScope (top 41)) .none kV_d__q1 dc_d__q1 pm_d__q1 an_d__q1 cd_d__q1 ct_d__q1), sl_d__q1⟩)
 (cc_d__q1 : W.codeIn K cd_d__q1 "_law_fit_comer" = true)
 (kk_d__q1 : W.keepIn K (.ref f_d__q1) = true)
 (a_m_check_room : W.findIn K (.ref a_Book) "check_room" = some (some (.ref f_m_check_room)))
 (i_m_check_room : W.isFn K (.ref f_m_check_room) = true)
 (l_m_check_room : K.lookup f_m_check_room = some ⟨oc_m_check_room, od_m_check_room, .func (W.fnOf "check_room" "Book.check_room" (defArgs (inClass (top 28) 3)) (defBody (inClass (top 28) 3)) (defScope (inClass (top 28) 3)) .none kV_m_check_room dc_m_check_room pm_m_check_room an_m_check_room cd_m_check_room ct_m_check_room), sl_m_check_room⟩)
 (cc_m_check_room : W.codeIn K cd_m_check_room "Book.check_room" = true)
 (kk_m_check_room : W.keepIn K (.ref f_m_check_room) = true)
 (a_m_enter : W.findIn K (.ref a_Book) "enter" = some (some (.ref f_m_enter)))
 (i_m_enter : W.isFn K (.ref f_m_enter) = true)
 (l_m_enter : K.lookup f_m_enter = some ⟨oc_m_enter, od_m_enter, .func (W.fnOf "enter" "Book.enter" (defArgs (inClass (top 28) 4)) (defBody (inClass (top 28) 4)) (defScope (inClass (top 28) 4)) .none kV_m_enter dc_m_enter pm_m_enter an_m_enter cd_m_enter ct_m_enter), sl_m_enter⟩)
 (cc_m_enter : W.codeIn K cd_m_enter "Book.enter" = true)
 (kk_m_enter : W.keepIn K (.ref f_m_enter) = true)
 (a_m_come : W.findIn K (.ref a_Book) "come" = some (some (.ref f_m_come)))
 (i_m_come : W.isFn K (.ref f_m_come) = true)
 (l_m_come : K.lookup f_m_come = some ⟨oc_m_come, od_m_come, .func (W.fnOf "come" "Book.come" (defArgs (inClass (top 28) 6)) (defBody (inClass (top 28) 6)) (defScope (inClass (top 28) 6)) .none kV_m_come dc_m_come pm_m_come an_m_come cd_m_come ct_m_come), sl_m_come⟩)
 (cc_m_come : W.codeIn K cd_m_come "Book.come" = true)
 (kk_m_come : W.keepIn K (.ref f_m_come) = true)
 (a_m_check_person : W.findIn K (.ref a_Book) "check_person" = some (some (.ref f_m_check_person)))
 (i_m_check_person : W.isFn K (.ref f_m_check_person) = true)
 (l_m_check_person : K.lookup f_m_check_person = some ⟨oc_m_check_person, od_m_check_person, .func (W.fnOf "check_person" "Book.check_person" (defArgs (inClass (top 28) 1)) (defBody (inClass (top 28) 1)) (defScope (inClass (top 28) 1)) .none kV_m_check_person dc_m_check_person pm_m_check_person an_m_check_person cd_m_check_person ct_m_check_person), sl_m_check_person⟩)
 (cc_m_check_person : W.codeIn K cd_m_check_person "Book.check_person" = true)
 (kk_m_check_person : W.keepIn K (.ref f_m_check_person) = true)
 (a_m_check_couple : W.findIn K (.ref a_Book) "check_couple" = some (some (.ref f_m_check_couple)))
 (i_m_check_couple : W.isFn K (.ref f_m_check_couple) = true)
 (l_m_check_couple : K.lookup f_m_check_couple = some ⟨oc_m_check_couple, od_m_check_couple, .func (W.fnOf "check_couple" "Book.check_couple" (defArgs (inClass (top 28) 2)) (defBody (inClass (top 28) 2)) (defScope (inClass (top 28) 2)) .none kV_m_check_couple dc_m_check_couple pm_m_check_couple an_m_check_couple cd_m_check_couple ct_m_check_couple), sl_m_check_couple⟩)
 (cc_m_check_couple : W.codeIn K cd_m_check_couple "Book.check_couple" = true)
 (kk_m_check_couple : W.keepIn K (.ref f_m_check_couple) = true)
 (a_m_pair : W.findIn K (.ref a_Book) "pair" = some (some (.ref f_m_pair)))
 (i_m_pair : W.isFn K (.ref f_m_pair) = true)
 (l_m_pair : K.lookup f_m_pair = some ⟨oc_m_pair, od_m_pair, .func (W.fnOf "pair" "Book.pair" (defArgs (inClass (top 28) 5)) (defBody (inClass (top 28) 5)) (defScope (inClass (top 28) 5)) .none kV_m_pair dc_m_pair pm_m_pair an_m_pair cd_m_pair ct_m_pair), sl_m_pair⟩)
 (cc_m_pair : W.codeIn K cd_m_pair "Book.pair" = true)
 (kk_m_pair : W.keepIn K (.ref f_m_pair) = true)
 (a_m_born : W.findIn K (.ref a_Book) "born" = some (some (.ref f_m_born)))
 (i_m_born : W.isFn K (.ref f_m_born) = true)
 (l_m_born : K.lookup f_m_born = some ⟨oc_m_born, od_m_born, .func (W.fnOf "born" "Book.born" (defArgs (inClass (top 28) 7)) (defBody (inClass (top 28) 7)) (defScope (inClass (top 28) 7)) .none kV_m_born dc_m_born pm_m_born an_m_born cd_m_born ct_m_born), sl_m_born⟩)
 (cc_m_born : W.codeIn K cd_m_born "Book.born" = true)
 (kk_m_born : W.keepIn K (.ref f_m_born) = true)
 (a_m_wed : W.findIn K (.ref a_Book) "wed" = some (some (.ref f_m_wed)))
 (i_m_wed : W.isFn K (.ref f_m_wed) = true)
 (l_m_wed : K.lookup f_m_wed = some ⟨oc_m_wed, od_m_wed, .func (W.fnOf "wed" "Book.wed" (defArgs (inClass (top 28) 8)) (defBody (inClass (top 28) 8)) (defScope (inClass (top 28) 8)) .none kV_m_wed dc_m_wed pm_m_wed an_m_wed cd_m_wed ct_m_wed), sl_m_wed⟩)
 (cc_m_wed : W.codeIn K cd_m_wed "Book.wed" = true)
 (kk_m_wed : W.keepIn K (.ref f_m_wed) = true)
 (a_d__q14 : W.nsIn K mainGlobals "_law_put" = some (some (.ref f_d__q14)))
 (l_d__q14 : K.lookup f_d__q14 = some ⟨oc_d__q14, od_d__q14, .func (W.fnOf "_law_put" "_law_put" (defArgs (top 40)) (defBody (top 40)) (defScope (top 40)) .none kV_d__q14 dc_d__q14 pm_d__q14 an_d__q14 cd_d__q14 ct_d__q14), sl_d__q14⟩)
 (cc_d__q14 : W.codeIn K cd_d__q14 "_law_put" = true)
 (kk_d__q14 : W.keepIn K (.ref f_d__q14) = true)
 (a_d__q3 : W.nsIn K mainGlobals "_law_fit_book" = some (some (.ref f_d__q3)))
 (l_d__q3 : K.lookup f_d__q3 = some ⟨oc_d__q3, od_d__q3, .func (W.fnOf "_law_fit_book" "_law_fit_book" (defArgs (top 42)) (defBody (top 42)) (defScope (top 42)) .none kV_d__q3 dc_d__q3 pm_d__q3 an_d__q3 cd_d__q3 ct_d__q3), sl_d__q3⟩)
 (cc_d__q3 : W.codeIn K cd_d__q3 "_law_fit_book" = true)
 (kk_d__q3 : W.keepIn K (.ref f_d__q3) = true)
 (a_d__q2 : W.nsIn K mainGlobals "_law_together" = some (some (.ref f_d__q2)))
 (l_d__q2 : K.lookup f_d__q2 = some ⟨oc_d__q2, od_d__q2, .func (W.fnOf "_law_together" "_law_together" (defArgs (top 44)) (defBody (top 44)) (defScope (top 44)) .none kV_d__q2 dc_d__q2 pm_d__q2 an_d__q2 cd_d__q2 ct_d__q2), sl_d__q2⟩)
 (cc_d__q2 : W.codeIn K cd_d__q2 "_law_together" = true)
 (kk_d__q2 : W.keepIn K (.ref f_d__q2) = true)
 (a_d__q11 : W.nsIn K mainGlobals "_law_near" = some (some (.ref f_d__q11)))
 (l_d__q11 : K.lookup f_d__q11 = some ⟨oc_d__q11, od_d__q11, .func (W.fnOf "_law_near" "_law_near" (defArgs (top 47)) (defBody (top 47)) (defScope (top 47)) .none kV_d__q11 dc_d__q11 pm_d__q11 an_d__q11 cd_d__q11 ct_d__q11), sl_d__q11⟩)
 (cc_d__q11 : W.codeIn K cd_d__q11 "_law_near" = true)
 (kk_d__q11 : W.keepIn K (.ref f_d__q11) = true)
 (a_d__q6 : W.nsIn K mainGlobals "_law_clash" = some (some (.ref f_d__q6)))
 (l_d__q6 : K.lookup f_d__q6 = some ⟨oc_d__q6, od_d__q6, .func (W.fnOf "_law_clash" "_law_clash" (defArgs (top 48)) (defBody (top 48)) (defScope (top 48)) .none kV_d__q6 dc_d__q6 pm_d__q6 an_d__q6 cd_d__q6 ct_d__q6), sl_d__q6⟩)
 (cc_d__q6 : W.codeIn K cd_d__q6 "_law_clash" = true)
 (kk_d__q6 : W.keepIn K (.ref f_d__q6) = true)
 (a_d__q0 : W.nsIn K mainGlobals "_law_parts_due" = some (some (.ref f_d__q0)))
 (l_d__q0 : K.lookup f_d__q0 = some ⟨oc_d__q0, od_d__q0, .func (W.fnOf "_law_parts_due" "_law_parts_due" (defArgs (top 49)) (defBody (top 49)) (defScope (top 49)) .none kV_d__q0 dc_d__q0 pm_d__q0 an_d__q0 cd_d__q0 ct_d__q0), sl_d__q0⟩)
 (cc_d__q0 : W.codeIn K cd_d__q0 "_law_parts_due" = true)
 (kk_d__q0 : W.keepIn K (.ref f_d__q0) = true)
 (a_m_Book_size : W.findIn K (.ref a_Book) "size" = some (some (.ref f_m_Book_size)))
 (i_m_Book_size : W.isFn K (.ref f_m_Book_size) = true)
 (l_m_Book_size : K.lookup f_m_Book_size = some ⟨oc_m_Book_size, od_m_Book_size, .func (W.fnOf "size" "Book.size" (defArgs (inClass (top 28) 9)) (defBody (inClass (top 28) 9)) (defScope (inClass (top 28) 9)) .none kV_m_Book_size dc_m_Book_size pm_m_Book_size an_m_Book_size cd_m_Book_size ct_m_Book_size), sl_m_Book_size⟩)
 (cc_m_Book_size : W.codeIn K cd_m_Book_size "Book.size" = true)
 (kk_m_Book_size : W.keepIn K (.ref f_m_Book_size) = true)
 (a_m_Table_size : W.findIn K (.ref a_Table) "size" = some (some (.ref f_m_Table_size)))
 (i_m_Table_size : W.isFn K (.ref f_m_Table_size) = true)
 (l_m_Table_size : K.lookup f_m_Table_size = some ⟨oc_m_Table_size, od_m_Table_size, .func (W.fnOf "size" "Table.size" (defArgs (inClass (top 33) 1)) (defBody (inClass (top 33) 1)) (defScope (inClass (top 33) 1)) .none kV_m_Table_size dc_m_Table_size pm_m_Table_size an_m_Table_size cd_m_Table_size ct_m_Table_size), sl_m_Table_size⟩)
 (cc_m_Table_size : W.codeIn K cd_m_Table_size "Table.size" = true)
 (kk_m_Table_size : W.keepIn K (.ref f_m_Table_size) = true)
 (a_m_check_class : W.findIn K (.ref a_Table) "check_class" = some (some (.ref f_m_check_class)))
 (i_m_check_class : W.isFn K (.ref f_m_check_class) = true)
 (l_m_check_class : K.lookup f_m_check_class = some ⟨oc_m_check_class, od_m_check_class, .func (W.fnOf "check_class" "Table.check_class" (defArgs (inClass (top 33) 2)) (defBody (inClass (top 33) 2)) (defScope (inClass (top 33) 2)) .none kV_m_check_class dc_m_check_class pm_m_check_class an_m_check_class cd_m_check_class ct_m_check_class), sl_m_check_class⟩)
 (cc_m_check_class : W.codeIn K cd_m_check_class "Table.check_class" = true)
 (kk_m_check_class : W.keepIn K (.ref f_m_check_class) = true)
 (a_d_w6 : W.nsIn K mainGlobals "check_walk" = some (some (.ref f_d_w6)))
 (l_d_w6 : K.lookup f_d_w6 = some ⟨oc_d_w6, od_d_w6, .func (W.fnOf "check_walk" "check_walk" (defArgs (top 13)) (defBody (top 13)) (defScope (top 13)) .none kV_d_w6 dc_d_w6 pm_d_w6 an_d_w6 cd_d_w6 ct_d_w6), sl_d_w6⟩)
 (cc_d_w6 : W.codeIn K cd_d_w6 "check_walk" = true)
 (kk_d_w6 : W.keepIn K (.ref f_d_w6) = true)
 (a_m_wife_of : W.findIn K (.ref a_Table) "wife_of" = some (some (.ref f_m_wife_of)))
 (i_m_wife_of : W.isFn K (.ref f_m_wife_of) = true)
 (l_m_wife_of : K.lookup f_m_wife_of = some ⟨oc_m_wife_of, od_m_wife_of, .func (W.fnOf "wife_of" "Table.wife_of" (defArgs (inClass (top 33) 3)) (defBody (inClass (top 33) 3)) (defScope (inClass (top 33) 3)) .none kV_m_wife_of dc_m_wife_of pm_m_wife_of an_m_wife_of cd_m_wife_of ct_m_wife_of), sl_m_wife_of⟩)
 (cc_m_wife_of : W.codeIn K cd_m_wife_of "Table.wife_of" = true)
 (kk_m_wife_of : W.keepIn K (.ref f_m_wife_of) = true)
 (a_m_father_of : W.findIn K (.ref a_Table) "father_of" = some (some (.ref f_m_father_of)))
 (i_m_father_of : W.isFn K (.ref f_m_father_of) = true)
 (l_m_father_of : K.lookup f_m_father_of = some ⟨oc_m_father_of, od_m_father_of, .func (W.fnOf "father_of" "Table.father_of" (defArgs (inClass (top 33) 6)) (defBody (inClass (top 33) 6)) (defScope (inClass (top 33) 6)) .none kV_m_father_of dc_m_father_of pm_m_father_of an_m_father_of cd_m_father_of ct_m_father_of), sl_m_father_of⟩)
 (cc_m_father_of : W.codeIn K cd_m_father_of "Table.father_of" = true)
 (kk_m_father_of : W.keepIn K (.ref f_m_father_of) = true)
 (a_m_husband_of : W.findIn K (.ref a_Table) "husband_of" = some (some (.ref f_m_husband_of)))
 (i_m_husband_of : W.isFn K (.ref f_m_husband_of) = true)
 (l_m_husband_of : K.lookup f_m_husband_of = some ⟨oc_m_husband_of, od_m_husband_of, .func (W.fnOf "husband_of" "Table.husband_of" (defArgs (inClass (top 33) 4)) (defBody (inClass (top 33) 4)) (defScope (inClass (top 33) 4)) .none kV_m_husband_of dc_m_husband_of pm_m_husband_of an_m_husband_of cd_m_husband_of ct_m_husband_of), sl_m_husband_of⟩)
 (cc_m_husband_of : W.codeIn K cd_m_husband_of "Table.husband_of" = true)
 (kk_m_husband_of : W.keepIn K (.ref f_m_husband_of) = true)
 (a_d_w0 : W.nsIn K mainGlobals "partner_class" = some (some (.ref f_d_w0)))
 (l_d_w0 : K.lookup f_d_w0 = some ⟨oc_d_w0, od_d_w0, .func (W.fnOf "partner_class" "partner_class" (defArgs (top 16)) (defBody (top 16)) (defScope (top 16)) .none kV_d_w0 dc_d_w0 pm_d_w0 an_d_w0 cd_d_w0 ct_d_w0), sl_d_w0⟩)
 (cc_d_w0 : W.codeIn K cd_d_w0 "partner_class" = true)
 (kk_d_w0 : W.keepIn K (.ref f_d_w0) = true)
 (a_m_heir_of : W.findIn K (.ref a_Table) "heir_of" = some (some (.ref f_m_heir_of)))
 (i_m_heir_of : W.isFn K (.ref f_m_heir_of) = true)
 (l_m_heir_of : K.lookup f_m_heir_of = some ⟨oc_m_heir_of, od_m_heir_of, .func (W.fnOf "heir_of" "Table.heir_of" (defArgs (inClass (top 33) 5)) (defBody (inClass (top 33) 5)) (defScope (inClass (top 33) 5)) .none kV_m_heir_of dc_m_heir_of pm_m_heir_of an_m_heir_of cd_m_heir_of ct_m_heir_of), sl_m_heir_of⟩)
 (cc_m_heir_of : W.codeIn K cd_m_heir_of "Table.heir_of" = true)
 (kk_m_heir_of : W.keepIn K (.ref f_m_heir_of) = true)
 (a_d_w5 : W.nsIn K mainGlobals "child_class" = some (some (.ref f_d_w5)))
 (l_d_w5 : K.lookup f_d_w5 = some ⟨oc_d_w5, od_d_w5, .func (W.fnOf "child_class" "child_class" (defArgs (top 17)) (defBody (top 17)) (defScope (top 17)) .none kV_d_w5 dc_d_w5 pm_d_w5 an_d_w5 cd_d_w5 ct_d_w5), sl_d_w5⟩)
 (cc_d_w5 : W.codeIn K cd_d_w5 "child_class" = true)
 (kk_d_w5 : W.keepIn K (.ref f_d_w5) = true)
 (a_d_w3 : W.nsIn K mainGlobals "class_after" = some (some (.ref f_d_w3)))
 (l_d_w3 : K.lookup f_d_w3 = some ⟨oc_d_w3, od_d_w3, .func (W.fnOf "class_after" "class_after" (defArgs (top 18)) (defBody (top 18)) (defScope (top 18)) .none kV_d_w3 dc_d_w3 pm_d_w3 an_d_w3 cd_d_w3 ct_d_w3), sl_d_w3⟩)
 (cc_d_w3 : W.codeIn K cd_d_w3 "class_after" = true)
 (kk_d_w3 : W.keepIn K (.ref f_d_w3) = true)
 (a_d_w2 : W.nsIn K mainGlobals "partner_sex" = some (some (.ref f_d_w2)))
 (l_d_w2 : K.lookup f_d_w2 = some ⟨oc_d_w2, od_d_w2, .func (W.fnOf "partner_sex" "partner_sex" (defArgs (top 14)) (defBody (top 14)) (defScope (top 14)) .none kV_d_w2 dc_d_w2 pm_d_w2 an_d_w2 cd_d_w2 ct_d_w2), sl_d_w2⟩)
 (cc_d_w2 : W.codeIn K cd_d_w2 "partner_sex" = true)
 (kk_d_w2 : W.keepIn K (.ref f_d_w2) = true)
 (a_d_w8 : W.nsIn K mainGlobals "sex_after" = some (some (.ref f_d_w8)))
 (l_d_w8 : K.lookup f_d_w8 = some ⟨oc_d_w8, od_d_w8, .func (W.fnOf "sex_after" "sex_after" (defArgs (top 15)) (defBody (top 15)) (defScope (top 15)) .none kV_d_w8 dc_d_w8 pm_d_w8 an_d_w8 cd_d_w8 ct_d_w8), sl_d_w8⟩)
 (cc_d_w8 : W.codeIn K cd_d_w8 "sex_after" = true)
 (kk_d_w8 : W.keepIn K (.ref f_d_w8) = true)
 (a_d_w12 : W.nsIn K mainGlobals "walked" = some (some (.ref f_d_w12)))
 (l_d_w12 : K.lookup f_d_w12 = some ⟨oc_d_w12, od_d_w12, .func (W.fnOf "walked" "walked" (defArgs (top 19)) (defBody (top 19)) (defScope (top 19)) .none kV_d_w12 dc_d_w12 pm_d_w12 an_d_w12 cd_d_w12 ct_d_w12), sl_d_w12⟩)
 (cc_d_w12 : W.codeIn K cd_d_w12 "walked" = true)
 (kk_d_w12 : W.keepIn K (.ref f_d_w12) = true)
 (a_m_sex_of : W.findIn K (.ref a_Book) "sex_of" = some (some (.ref f_m_sex_of)))
 (i_m_sex_of : W.isFn K (.ref f_m_sex_of) = true)
 (l_m_sex_of : K.lookup f_m_sex_of = some ⟨oc_m_sex_of, od_m_sex_of, .func (W.fnOf "sex_of" "Book.sex_of" (defArgs (inClass (top 28) 10)) (defBody (inClass (top 28) 10)) (defScope (inClass (top 28) 10)) .none kV_m_sex_of dc_m_sex_of pm_m_sex_of an_m_sex_of cd_m_sex_of ct_m_sex_of), sl_m_sex_of⟩)
 (cc_m_sex_of : W.codeIn K cd_m_sex_of "Book.sex_of" = true)
 (kk_m_sex_of : W.keepIn K (.ref f_m_sex_of) = true)
 (a_m_children : W.findIn K (.ref a_Book) "children" = some (some (.ref f_m_children)))
 (i_m_children : W.isFn K (.ref f_m_children) = true)
 (l_m_children : K.lookup f_m_children = some ⟨oc_m_children, od_m_children, .func (W.fnOf "children" "Book.children" (defArgs (inClass (top 28) 14)) (defBody (inClass (top 28) 14)) (defScope (inClass (top 28) 14)) .none kV_m_children dc_m_children pm_m_children an_m_children cd_m_children ct_m_children), sl_m_children⟩)
 (cc_m_children : W.codeIn K cd_m_children "Book.children" = true)
 (kk_m_children : W.keepIn K (.ref f_m_children) = true)
 (a_m_siblings : W.findIn K (.ref a_Book) "siblings" = some (some (.ref f_m_siblings)))
 (i_m_siblings : W.isFn K (.ref f_m_siblings) = true)
 (l_m_siblings : K.lookup f_m_siblings = some ⟨oc_m_siblings, od_m_siblings, .func (W.fnOf "siblings" "Book.siblings" (defArgs (inClass (top 28) 15)) (defBody (inClass (top 28) 15)) (defScope (inClass (top 28) 15)) .none kV_m_siblings dc_m_siblings pm_m_siblings an_m_siblings cd_m_siblings ct_m_siblings), sl_m_siblings⟩)
 (cc_m_siblings : W.codeIn K cd_m_siblings "Book.siblings" = true)
 (kk_m_siblings : W.keepIn K (.ref f_m_siblings) = true)
 (a_m_kin_by_letter : W.findIn K (.ref a_Book) "kin_by_letter" = some (some (.ref f_m_kin_by_letter)))
 (i_m_kin_by_letter : W.isFn K (.ref f_m_kin_by_letter) = true)
 (l_m_kin_by_letter : K.lookup f_m_kin_by_letter = some ⟨oc_m_kin_by_letter, od_m_kin_by_letter, .func (W.fnOf "kin_by_letter" "Book.kin_by_letter" (defArgs (inClass (top 28) 16)) (defBody (inClass (top 28) 16)) (defScope (inClass (top 28) 16)) .none kV_m_kin_by_letter dc_m_kin_by_letter pm_m_kin_by_letter an_m_kin_by_letter cd_m_kin_by_letter ct_m_kin_by_letter), sl_m_kin_by_letter⟩)
 (cc_m_kin_by_letter : W.codeIn K cd_m_kin_by_letter "Book.kin_by_letter" = true)
 (kk_m_kin_by_letter : W.keepIn K (.ref f_m_kin_by_letter) = true)
 (a_m_kin : W.findIn K (.ref a_Book) "kin" = some (some (.ref f_m_kin)))
 (i_m_kin : W.isFn K (.ref f_m_kin) = true)
 (l_m_kin : K.lookup f_m_kin = some ⟨oc_m_kin, od_m_kin, .func (W.fnOf "kin" "Book.kin" (defArgs (inClass (top 28) 17)) (defBody (inClass (top 28) 17)) (defScope (inClass (top 28) 17)) .none kV_m_kin dc_m_kin pm_m_kin an_m_kin cd_m_kin ct_m_kin), sl_m_kin⟩)
 (cc_m_kin : W.codeIn K cd_m_kin "Book.kin" = true)
 (kk_m_kin : W.keepIn K (.ref f_m_kin) = true)
 (a_d_w1 : W.nsIn K mainGlobals "near_classes" = some (some (.ref f_d_w1)))
 (l_d_w1 : K.lookup f_d_w1 = some ⟨oc_d_w1, od_d_w1, .func (W.fnOf "near_classes" "near_classes" (defArgs (top 22)) (defBody (top 22)) (defScope (top 22)) .none kV_d_w1 dc_d_w1 pm_d_w1 an_d_w1 cd_d_w1 ct_d_w1), sl_d_w1⟩)
 (cc_d_w1 : W.codeIn K cd_d_w1 "near_classes" = true)
 (kk_d_w1 : W.keepIn K (.ref f_d_w1) = true)
 (a_d_w10 : W.nsIn K mainGlobals "fitting" = some (some (.ref f_d_w10)))
 (l_d_w10 : K.lookup f_d_w10 = some ⟨oc_d_w10, od_d_w10, .func (W.fnOf "fitting" "fitting" (defArgs (top 23)) (defBody (top 23)) (defScope (top 23)) .none kV_d_w10 dc_d_w10 pm_d_w10 an_d_w10 cd_d_w10 ct_d_w10), sl_d_w10⟩)
 (cc_d_w10 : W.codeIn K cd_d_w10 "fitting" = true)
 (kk_d_w10 : W.keepIn K (.ref f_d_w10) = true)
 (a_d_w7 : W.nsIn K mainGlobals "fits_from" = some (some (.ref f_d_w7)))
 (l_d_w7 : K.lookup f_d_w7 = some ⟨oc_d_w7, od_d_w7, .func (W.fnOf "fits_from" "fits_from" (defArgs (top 24)) (defBody (top 24)) (defScope (top 24)) .none kV_d_w7 dc_d_w7 pm_d_w7 an_d_w7 cd_d_w7 ct_d_w7), sl_d_w7⟩)
 (cc_d_w7 : W.codeIn K cd_d_w7 "fits_from" = true)
 (kk_d_w7 : W.keepIn K (.ref f_d_w7) = true)
 (a_d_w9 : W.nsIn K mainGlobals "many_ways" = some (some (.ref f_d_w9)))
 (l_d_w9 : K.lookup f_d_w9 = some ⟨oc_d_w9, od_d_w9, .func (W.fnOf "many_ways" "many_ways" (defArgs (top 25)) (defBody (top 25)) (defScope (top 25)) .none kV_d_w9 dc_d_w9 pm_d_w9 an_d_w9 cd_d_w9 ct_d_w9), sl_d_w9⟩)
 (cc_d_w9 : W.codeIn K cd_d_w9 "many_ways" = true)
 (kk_d_w9 : W.keepIn K (.ref f_d_w9) = true)
 (a_d_w11 : W.nsIn K mainGlobals "is_turn" = some (some (.ref f_d_w11)))
 (l_d_w11 : K.lookup f_d_w11 = some ⟨oc_d_w11, od_d_w11, .func (W.fnOf "is_turn" "is_turn" (defArgs (top 31)) (defBody (top 31)) (defScope (top 31)) .none kV_d_w11 dc_d_w11 pm_d_w11 an_d_w11 cd_d_w11 ct_d_w11), sl_d_w11⟩)
 (cc_d_w11 : W.codeIn K cd_d_w11 "is_turn" = true)
 (kk_d_w11 : W.keepIn K (.ref f_d_w11) = true)
 (a_d_w4 : W.nsIn K mainGlobals "turned_back" = some (some (.ref f_d_w4)))
 (l_d_w4 : K.lookup f_d_w4 = some ⟨oc_d_w4, od_d_w4, .func (W.fnOf "turned_back" "turned_back" (defArgs (top 32)) (defBody (top 32)) (defScope (top 32)) .none kV_d_w4 dc_d_w4 pm_d_w4 an_d_w4 cd_d_w4 ct_d_w4), sl_d_w4⟩)
 (cc_d_w4 : W.codeIn K cd_d_w4 "turned_back" = true)
 (kk_d_w4 : W.keepIn K (.ref f_d_w4) = true)
 (a_m_Table___init__ : W.findIn K (.ref a_Table) "__init__" = some (some (.ref f_m_Table___init__)))
 (i_m_Table___init__ : W.isFn K (.ref f_m_Table___init__) = true)
 (l_m_Table___init__ : K.lookup f_m_Table___init__ = some ⟨oc_m_Table___init__, od_m_Table___init__, .func (W.fnOf "__init__" "Table.__init__" (defArgs (inClass (top 33) 0)) (defBody (inClass (top 33) 0)) (defScope (inClass (top 33) 0)) .none kV_m_Table___init__ dc_m_Table___init__ pm_m_Table___init__ an_m_Table___init__ cd_m_Table___init__ ct_m_Table___init__), sl_m_Table___init__⟩)
 (cc_m_Table___init__ : W.codeIn K cd_m_Table___init__ "Table.__init__" = true)
 (kk_m_Table___init__ : W.keepIn K (.ref f_m_Table___init__) = true)
 (a_m_Book___init__ : W.findIn K (.ref a_Book) "__init__" = some (some (.ref f_m_Book___init__)))
 (i_m_Book___init__ : W.isFn K (.ref f_m_Book___init__) = true)
 (l_m_Book___init__ : K.lookup f_m_Book___init__ = some ⟨oc_m_Book___init__, od_m_Book___init__, .func (W.fnOf "__init__" "Book.__init__" (defArgs (inClass (top 28) 0)) (defBody (inClass (top 28) 0)) (defScope (inClass (top 28) 0)) .none kV_m_Book___init__ dc_m_Book___init__ pm_m_Book___init__ an_m_Book___init__ cd_m_Book___init__ ct_m_Book___init__), sl_m_Book___init__⟩)
 (cc_m_Book___init__ : W.codeIn K cd_m_Book___init__ "Book.__init__" = true)
 (kk_m_Book___init__ : W.keepIn K (.ref f_m_Book___init__) = true)
 (a_d__q7 : W.nsIn K mainGlobals "_law_great" = some (some (.ref f_d__q7)))
 (l_d__q7 : K.lookup f_d__q7 = some ⟨oc_d__q7, od_d__q7, .func (W.fnOf "_law_great" "_law_great" (defArgs (top 50)) (defBody (top 50)) (defScope (top 50)) .none kV_d__q7 dc_d__q7 pm_d__q7 an_d__q7 cd_d__q7 ct_d__q7), sl_d__q7⟩)
 (cc_d__q7 : W.codeIn K cd_d__q7 "_law_great" = true)
 (kk_d__q7 : W.keepIn K (.ref f_d__q7) = true)
 (a_d__q8 : W.nsIn K mainGlobals "_law_comer" = some (some (.ref f_d__q8)))
 (l_d__q8 : K.lookup f_d__q8 = some ⟨oc_d__q8, od_d__q8, .func (W.fnOf "_law_comer" "_law_comer" (defArgs (top 39)) (defBody (top 39)) (defScope (top 39)) .none kV_d__q8 dc_d__q8 pm_d__q8 an_d__q8 cd_d__q8 ct_d__q8), sl_d__q8⟩)
 (cc_d__q8 : W.codeIn K cd_d__q8 "_law_comer" = true)
 (kk_d__q8 : W.keepIn K (.ref f_d__q8) = true)
 (a_d__q9 : W.nsIn K mainGlobals "_law_lists" = some (some (.ref f_d__q9)))
 (l_d__q9 : K.lookup f_d__q9 = some ⟨oc_d__q9, od_d__q9, .func (W.fnOf "_law_lists" "_law_lists" (defArgs (top 45)) (defBody (top 45)) (defScope (top 45)) .none kV_d__q9 dc_d__q9 pm_d__q9 an_d__q9 cd_d__q9 ct_d__q9), sl_d__q9⟩)
 (cc_d__q9 : W.codeIn K cd_d__q9 "_law_lists" = true)
 (kk_d__q9 : W.keepIn K (.ref f_d__q9) = true)
 (a_d__q13 : W.nsIn K mainGlobals "_law_fits" = some (some (.ref f_d__q13)))
 (l_d__q13 : K.lookup f_d__q13 = some ⟨oc_d__q13, od_d__q13, .func (W.fnOf "_law_fits" "_law_fits" (defArgs (top 43)) (defBody (top 43)) (defScope (top 43)) .none kV_d__q13 dc_d__q13 pm_d__q13 an_d__q13 cd_d__q13 ct_d__q13), sl_d__q13⟩)
 (cc_d__q13 : W.codeIn K cd_d__q13 "_law_fits" = true)
 (kk_d__q13 : W.keepIn K (.ref f_d__q13) = true)
 (a_d__q12 : W.nsIn K mainGlobals "_law_told" = some (some (.ref f_d__q12)))
 (l_d__q12 : K.lookup f_d__q12 = some ⟨oc_d__q12, od_d__q12, .func (W.fnOf "_law_told" "_law_told" (defArgs (top 46)) (defBody (top 46)) (defScope (top 46)) .none kV_d__q12 dc_d__q12 pm_d__q12 an_d__q12 cd_d__q12 ct_d__q12), sl_d__q12⟩)
 (cc_d__q12 : W.codeIn K cd_d__q12 "_law_told" = true)
 (kk_d__q12 : W.keepIn K (.ref f_d__q12) = true)
 (a_d_law : W.nsIn K mainGlobals "law" = some (some (.ref f_d_law)))
 (l_d_law : K.lookup f_d_law = some ⟨oc_d_law, od_d_law, .func (W.fnOf "law" "law" (defArgs (top 51)) (defBody (top 51)) (defScope (top 51)) .none kV_d_law dc_d_law pm_d_law an_d_law cd_d_law ct_d_law), sl_d_law⟩)
 (cc_d_law : W.codeIn K cd_d_law "law" = true)
 (kk_d_law : W.keepIn K (.ref f_d_law) = true)
 (g_LETTERS : W.nsIn K mainGlobals "LETTERS" = some (some (.str "fmsdpbz" t_LETTERS)))
 (g_LETTERS_TO_MEN : W.nsIn K mainGlobals "LETTERS_TO_MEN" = some (some (.str "fsb" t_LETTERS_TO_MEN)))
 (g_MOST_LETTERS : W.nsIn K mainGlobals "MOST_LETTERS" = some (some (.int 60 t_MOST_LETTERS)))
 (g_LETTERS_THAT_HANG : W.nsIn K mainGlobals "LETTERS_THAT_HANG" = some (some (.str "fmpsd" t_LETTERS_THAT_HANG)))
 (g_MOST_PERSONS : W.nsIn K mainGlobals "MOST_PERSONS" = some (some (.int 60 t_MOST_PERSONS)))
 (g_MOST_CLASSES : W.nsIn K mainGlobals "MOST_CLASSES" = some (some (.int 8 t_MOST_CLASSES)))
 (z_ValueError : W.nsIn K mainGlobals "ValueError" = some none)
 (z_bool : W.nsIn K mainGlobals "bool" = some none)
 (z_enumerate : W.nsIn K mainGlobals "enumerate" = some none)
 (z_int : W.nsIn K mainGlobals "int" = some none)
 (z_isinstance : W.nsIn K mainGlobals "isinstance" = some none)
 (z_len : W.nsIn K mainGlobals "len" = some none)
 (z_list : W.nsIn K mainGlobals "list" = some none)
 (z_range : W.nsIn K mainGlobals "range" = some none)
 (z_sorted : W.nsIn K mainGlobals "sorted" = some none) :
 ∃ fd : FuncData, (∀ (s : Shared) (v : Value), BindsTo s fd ⟨[v], []⟩ [("script", v)]) /\ ∀ base : Heap, K.In base -> base.Ns mainGlobals mg -> FnOk l.prog w K mg base (CXR l.prog w) 11 fa fd ["script"] (spLaw K) := by
 have ee := hfa.symm.trans (W.mg_of X G a_d_law)
 cases ee
 have T : Txt K mg a_Table ⟨a_Za, a_Zb, a_Zc, a_Zd, a_Zf, a_Zg, a_Zh, a_Book⟩ := ⟨W.mg_of X G b_Book, ⟨pg_Book, hd_Book, po_Book, sa_Book⟩, n_sexes, n_fathers, n_mothers, n_partner_lists, W.mg_of X G b_Table, ⟨pg_Table, hd_Table, po_Table, sa_Table⟩, n_wife_turn, n_heir_turn, n_husband_turn, n_father_turn, W.mg_none_of X G z_ValueError, W.mg_none_of X G z_bool, W.mg_none_of X G z_enumerate, W.mg_none_of X G z_int, W.mg_none_of X G z_isinstance, W.mg_none_of X G z_len, W.mg_none_of X G z_list, W.mg_none_of X G z_range, W.mg_none_of X G z_sorted, ⟨_, W.mg_of X G g_LETTERS, ⟨_, rfl⟩⟩, ⟨_, W.mg_of X G g_LETTERS_TO_MEN, ⟨_, rfl⟩⟩, ⟨_, W.mg_of X G g_MOST_LETTERS, ⟨_, rfl⟩⟩, ⟨_, W.mg_of X G g_LETTERS_THAT_HANG, ⟨_, rfl⟩⟩, ⟨_, W.mg_of X G g_MOST_PERSONS, ⟨_, rfl⟩⟩, ⟨_, W.mg_of X G g_MOST_CLASSES, ⟨_, rfl⟩⟩, ⟨kd1, kd2⟩, W.mg_of X G b_Za, W.mg_of X G b_Zb, x_Zb, ⟨c1_Zb, c2_Zb, c3_Zb, c4_Zb, kd1, kd2, c5_Zb, c6_Zb⟩, w_Zb, v_Zb, k_Zb_Zb, k_Zb_Zc, k_Zb_Zd, k_Zb_Zf, k_Zb_Zg, k_Zb_Zh, W.mg_of X G b_Zc, x_Zc, ⟨c1_Zc, c2_Zc, c3_Zc, c4_Zc, kd1, kd2, c5_Zc, c6_Zc⟩, w_Zc, v_Zc, k_Zc_Zb, k_Zc_Zc, k_Zc_Zd, k_Zc_Zf, k_Zc_Zg, k_Zc_Zh, W.mg_of X G b_Zd, x_Zd, ⟨c1_Zd, c2_Zd, c3_Zd, c4_Zd, kd1, kd2, c5_Zd, c6_Zd⟩, w_Zd, v_Zd, k_Zd_Zb, k_Zd_Zc, k_Zd_Zd, k_Zd_Zf, k_Zd_Zg, k_Zd_Zh, W.mg_of X G b_Zf, x_Zf, ⟨c1_Zf, c2_Zf, c3_Zf, c4_Zf, kd1, kd2, c5_Zf, c6_Zf⟩, w_Zf, v_Zf, k_Zf_Zb, k_Zf_Zc, k_Zf_Zd, k_Zf_Zf, k_Zf_Zg, k_Zf_Zh, W.mg_of X G b_Zg, x_Zg, ⟨c1_Zg, c2_Zg, c3_Zg, c4_Zg, kd1, kd2, c5_Zg, c6_Zg⟩, w_Zg, v_Zg, k_Zg_Zb, k_Zg_Zc, k_Zg_Zd, k_Zg_Zf, k_Zg_Zg, k_Zg_Zh, W.mg_of X G b_Zh, x_Zh, ⟨c1_Zh, c2_Zh, c3_Zh, c4_Zh, kd1, kd2, c5_Zh, c6_Zh⟩, w_Zh, v_Zh, k_Zh_Zb, k_Zh_Zc, k_Zh_Zd, k_Zh_Zf, k_Zh_Zg, k_Zh_Zh⟩
 have hE : NoE (CXR l.prog w) := noER
 have F_d__q4 := fun_mk (st := (top 35)) l_d__q4 cc_d__q4 kk_d__q4
 have b_d__q4 := F_d__q4.binds (ps := ["script", "k"]) fun _ _ _ _ _ _ us hl => match us, hl with | [_, _], _ => rfl
 have F_d__q5 := fun_mk (st := (top 38)) l_d__q5 cc_d__q5 kk_d__q5
 have b_d__q5 := F_d__q5.binds (ps := ["cell", "many"]) fun _ _ _ _ _ _ us hl => match us, hl with | [_, _], _ => rfl
 have F_d__q10 := fun_mk (st := (top 36)) l_d__q10 cc_d__q10 kk_d__q10
 have b_d__q10 := F_d__q10.binds (ps := ["found"]) fun _ _ _ _ _ _ us hl => match us, hl with | [_], _ => rfl
 have F_d__q1 := fun_mk (st := (top 41)) l_d__q1 cc_d__q1 kk_d__q1
 have b_d__q1 := F_d__q1.binds (ps := ["people", "kinds", "wives", "heirs", "cell"]) fun _ _ _ _ _ _ us hl => match us, hl with | [_, _, _, _, _], _ => rfl
 have F_m_check_room := fun_mk (st := (inClass (top 28) 3)) l_m_check_room cc_m_check_room kk_m_check_room
 have b_m_check_room := F_m_check_room.binds (ps := ["self"]) fun _ _ _ _ _ _ us hl => match us, hl with | [_], _ => rfl
 have F_m_enter := fun_mk (st := (inClass (top 28) 4)) l_m_enter cc_m_enter kk_m_enter
 have b_m_enter := F_m_enter.binds (ps := ["self", "sex", "father", "mother"]) fun _ _ _ _ _ _ us hl => match us, hl with | [_, _, _, _], _ => rfl
 have F_m_come := fun_mk (st := (inClass (top 28) 6)) l_m_come cc_m_come kk_m_come
 have b_m_come := F_m_come.binds (ps := ["self", "sex"]) fun _ _ _ _ _ _ us hl => match us, hl with | [_, _], _ => rfl
 have F_m_check_person := fun_mk (st := (inClass (top 28) 1)) l_m_check_person cc_m_check_person kk_m_check_person
 have b_m_check_person := F_m_check_person.binds (ps := ["self", "a"]) fun _ _ _ _ _ _ us hl => match us, hl with | [_, _], _ => rfl
 have F_m_check_couple := fun_mk (st := (inClass (top 28) 2)) l_m_check_couple cc_m_check_couple kk_m_check_couple
 have b_m_check_couple := F_m_check_couple.binds (ps := ["self", "man", "woman"]) fun _ _ _ _ _ _ us hl => match us, hl with | [_, _, _], _ => rfl
 have F_m_pair := fun_mk (st := (inClass (top 28) 5)) l_m_pair cc_m_pair kk_m_pair
 have b_m_pair := F_m_pair.binds (ps := ["self", "man", "woman"]) fun _ _ _ _ _ _ us hl => match us, hl with | [_, _, _], _ => rfl
 have F_m_born := fun_mk (st := (inClass (top 28) 7)) l_m_born cc_m_born kk_m_born
 have b_m_born := F_m_born.binds (ps := ["self", "sex", "father", "mother"]) fun _ _ _ _ _ _ us hl => match us, hl with | [_, _, _, _], _ => rfl
 have F_m_wed := fun_mk (st := (inClass (top 28) 8)) l_m_wed cc_m_wed kk_m_wed
 have b_m_wed := F_m_wed.binds (ps := ["self", "man", "woman"]) fun _ _ _ _ _ _ us hl => match us, hl with | [_, _, _], _ => rfl
 have F_d__q14 := fun_mk (st := (top 40)) l_d__q14 cc_d__q14 kk_d__q14
 have b_d__q14 := F_d__q14.binds (ps := ["book", "people", "pairs", "comer"]) fun _ _ _ _ _ _ us hl => match us, hl with | [_, _, _, _], _ => rfl
 have F_d__q3 := fun_mk (st := (top 42)) l_d__q3 cc_d__q3 kk_d__q3
 have b_d__q3 := F_d__q3.binds (ps := ["book", "people", "pairs", "kinds", "turns", "cells"]) fun _ _ _ _ _ _ us hl => match us, hl with | [_, _, _, _, _, _], _ => rfl
 have F_d__q2 := fun_mk (st := (top 44)) l_d__q2 cc_d__q2 kk_d__q2
 have b_d__q2 := F_d__q2.binds (ps := ["people", "pairs", "a"]) fun _ _ _ _ _ _ us hl => match us, hl with | [_, _, _], _ => rfl
 have F_d__q11 := fun_mk (st := (top 47)) l_d__q11 cc_d__q11 kk_d__q11
 have b_d__q11 := F_d__q11.binds (ps := ["people", "pairs", "wives", "heirs", "a", "c"]) fun _ _ _ _ _ _ us hl => match us, hl with | [_, _, _, _, _, _], _ => rfl
 have F_d__q6 := fun_mk (st := (top 48)) l_d__q6 cc_d__q6 kk_d__q6
 have b_d__q6 := F_d__q6.binds (ps := ["people", "pairs", "turns", "a", "c"]) fun _ _ _ _ _ _ us hl => match us, hl with | [_, _, _, _, _], _ => rfl
 have F_d__q0 := fun_mk (st := (top 49)) l_d__q0 cc_d__q0 kk_d__q0
 have b_d__q0 := F_d__q0.binds (ps := ["people", "pairs", "turns"]) fun _ _ _ _ _ _ us hl => match us, hl with | [_, _, _], _ => rfl
 have F_m_Book_size := fun_mk (st := (inClass (top 28) 9)) l_m_Book_size cc_m_Book_size kk_m_Book_size
 have b_m_Book_size := F_m_Book_size.binds (ps := ["self"]) fun _ _ _ _ _ _ us hl => match us, hl with | [_], _ => rfl
 have F_m_Table_size := fun_mk (st := (inClass (top 33) 1)) l_m_Table_size cc_m_Table_size kk_m_Table_size
 have b_m_Table_size := F_m_Table_size.binds (ps := ["self"]) fun _ _ _ _ _ _ us hl => match us, hl with | [_], _ => rfl
 have F_m_check_class := fun_mk (st := (inClass (top 33) 2)) l_m_check_class cc_m_check_class kk_m_check_class
 have b_m_check_class := F_m_check_class.binds (ps := ["self", "c"]) fun _ _ _ _ _ _ us hl => match us, hl with | [_, _], _ => rfl
 have F_d_w6 := fun_mk (st := (top 13)) l_d_w6 cc_d_w6 kk_d_w6
 have b_d_w6 := F_d_w6.binds (ps := ["walk"]) fun _ _ _ _ _ _ us hl => match us, hl with | [_], _ => rfl
 have F_m_wife_of := fun_mk (st := (inClass (top 33) 3)) l_m_wife_of cc_m_wife_of kk_m_wife_of
 have b_m_wife_of := F_m_wife_of.binds (ps := ["self", "c"]) fun _ _ _ _ _ _ us hl => match us, hl with | [_, _], _ => rfl
 have F_m_father_of := fun_mk (st := (inClass (top 33) 6)) l_m_father_of cc_m_father_of kk_m_father_of
 have b_m_father_of := F_m_father_of.binds (ps := ["self", "c"]) fun _ _ _ _ _ _ us hl => match us, hl with | [_, _], _ => rfl
 have F_m_husband_of := fun_mk (st := (inClass (top 33) 4)) l_m_husband_of cc_m_husband_of kk_m_husband_of
 have b_m_husband_of := F_m_husband_of.binds (ps := ["self", "c"]) fun _ _ _ _ _ _ us hl => match us, hl with | [_, _], _ => rfl
 have F_d_w0 := fun_mk (st := (top 16)) l_d_w0 cc_d_w0 kk_d_w0
 have b_d_w0 := F_d_w0.binds (ps := ["table", "sex", "c"]) fun _ _ _ _ _ _ us hl => match us, hl with | [_, _, _], _ => rfl
 have F_m_heir_of := fun_mk (st := (inClass (top 33) 5)) l_m_heir_of cc_m_heir_of kk_m_heir_of
 have b_m_heir_of := F_m_heir_of.binds (ps := ["self", "c"]) fun _ _ _ _ _ _ us hl => match us, hl with | [_, _], _ => rfl
 have F_d_w5 := fun_mk (st := (top 17)) l_d_w5 cc_d_w5 kk_d_w5
 have b_d_w5 := F_d_w5.binds (ps := ["table", "sex", "c"]) fun _ _ _ _ _ _ us hl => match us, hl with | [_, _, _], _ => rfl
 have F_d_w3 := fun_mk (st := (top 18)) l_d_w3 cc_d_w3 kk_d_w3
 have b_d_w3 := F_d_w3.binds (ps := ["table", "sex", "c", "letter"]) fun _ _ _ _ _ _ us hl => match us, hl with | [_, _, _, _], _ => rfl
 have F_d_w2 := fun_mk (st := (top 14)) l_d_w2 cc_d_w2 kk_d_w2
 have b_d_w2 := F_d_w2.binds (ps := ["sex"]) fun _ _ _ _ _ _ us hl => match us, hl with | [_], _ => rfl
 have F_d_w8 := fun_mk (st := (top 15)) l_d_w8 cc_d_w8 kk_d_w8
 have b_d_w8 := F_d_w8.binds (ps := ["sex", "letter"]) fun _ _ _ _ _ _ us hl => match us, hl with | [_, _], _ => rfl
 have F_d_w12 := fun_mk (st := (top 19)) l_d_w12 cc_d_w12 kk_d_w12
 have b_d_w12 := F_d_w12.binds (ps := ["table", "sex", "c", "walk"]) fun _ _ _ _ _ _ us hl => match us, hl with | [_, _, _, _], _ => rfl
 have F_m_sex_of := fun_mk (st := (inClass (top 28) 10)) l_m_sex_of cc_m_sex_of kk_m_sex_of
 have b_m_sex_of := F_m_sex_of.binds (ps := ["self", "a"]) fun _ _ _ _ _ _ us hl => match us, hl with | [_, _], _ => rfl
 have F_m_children := fun_mk (st := (inClass (top 28) 14)) l_m_children cc_m_children kk_m_children
 have b_m_children := F_m_children.binds (ps := ["self", "a"]) fun _ _ _ _ _ _ us hl => match us, hl with | [_, _], _ => rfl
 have F_m_siblings := fun_mk (st := (inClass (top 28) 15)) l_m_siblings cc_m_siblings kk_m_siblings
 have b_m_siblings := F_m_siblings.binds (ps := ["self", "a"]) fun _ _ _ _ _ _ us hl => match us, hl with | [_, _], _ => rfl
 have F_m_kin_by_letter := fun_mk (st := (inClass (top 28) 16)) l_m_kin_by_letter cc_m_kin_by_letter kk_m_kin_by_letter
 have b_m_kin_by_letter := F_m_kin_by_letter.binds (ps := ["self", "a", "letter"]) fun _ _ _ _ _ _ us hl => match us, hl with | [_, _, _], _ => rfl
 have F_m_kin := fun_mk (st := (inClass (top 28) 17)) l_m_kin cc_m_kin kk_m_kin
 have b_m_kin := F_m_kin.binds (ps := ["self", "a", "walk"]) fun _ _ _ _ _ _ us hl => match us, hl with | [_, _, _], _ => rfl
 have F_d_w1 := fun_mk (st := (top 22)) l_d_w1 cc_d_w1 kk_d_w1
 have b_d_w1 := F_d_w1.binds (ps := ["book", "table", "a", "c"]) fun _ _ _ _ _ _ us hl => match us, hl with | [_, _, _, _], _ => rfl
 have F_d_w10 := fun_mk (st := (top 23)) l_d_w10 cc_d_w10 kk_d_w10
 have b_d_w10 := F_d_w10.binds (ps := ["book", "table", "a", "c"]) fun _ _ _ _ _ _ us hl => match us, hl with | [_, _, _, _], _ => rfl
 have F_d_w7 := fun_mk (st := (top 24)) l_d_w7 cc_d_w7 kk_d_w7
 have b_d_w7 := F_d_w7.binds (ps := ["book", "table", "a"]) fun _ _ _ _ _ _ us hl => match us, hl with | [_, _, _], _ => rfl
 have F_d_w9 := fun_mk (st := (top 25)) l_d_w9 cc_d_w9 kk_d_w9
 have b_d_w9 := F_d_w9.binds (ps := ["book", "table"]) fun _ _ _ _ _ _ us hl => match us, hl with | [_, _], _ => rfl
 have F_d_w11 := fun_mk (st := (top 31)) l_d_w11 cc_d_w11 kk_d_w11
 have b_d_w11 := F_d_w11.binds (ps := ["row", "many"]) fun _ _ _ _ _ _ us hl => match us, hl with | [_, _], _ => rfl
 have F_d_w4 := fun_mk (st := (top 32)) l_d_w4 cc_d_w4 kk_d_w4
 have b_d_w4 := F_d_w4.binds (ps := ["turn"]) fun _ _ _ _ _ _ us hl => match us, hl with | [_], _ => rfl
 have F_m_Table___init__ := fun_mk (st := (inClass (top 33) 0)) l_m_Table___init__ cc_m_Table___init__ kk_m_Table___init__
 have b_m_Table___init__ := F_m_Table___init__.binds (ps := ["self", "wives", "heirs"]) fun _ _ _ _ _ _ us hl => match us, hl with | [_, _, _], _ => rfl
 have F_m_Book___init__ := fun_mk (st := (inClass (top 28) 0)) l_m_Book___init__ cc_m_Book___init__ kk_m_Book___init__
 have b_m_Book___init__ := F_m_Book___init__.binds (ps := ["self"]) fun _ _ _ _ _ _ us hl => match us, hl with | [_], _ => rfl
 have F_d__q7 := fun_mk (st := (top 50)) l_d__q7 cc_d__q7 kk_d__q7
 have b_d__q7 := F_d__q7.binds (ps := ["script"]) fun _ _ _ _ _ _ us hl => match us, hl with | [_], _ => rfl
 have F_d__q8 := fun_mk (st := (top 39)) l_d__q8 cc_d__q8 kk_d__q8
 have b_d__q8 := F_d__q8.binds (ps := ["people", "cell"]) fun _ _ _ _ _ _ us hl => match us, hl with | [_, _], _ => rfl
 have F_d__q9 := fun_mk (st := (top 45)) l_d__q9 cc_d__q9 kk_d__q9
 have b_d__q9 := F_d__q9.binds (ps := ["size", "many"]) fun _ _ _ _ _ _ us hl => match us, hl with | [_, _], _ => rfl
 have F_d__q13 := fun_mk (st := (top 43)) l_d__q13 cc_d__q13 kk_d__q13
 have b_d__q13 := F_d__q13.binds (ps := ["people", "pairs", "told", "wives", "heirs"]) fun _ _ _ _ _ _ us hl => match us, hl with | [_, _, _, _, _], _ => rfl
 have F_d__q12 := fun_mk (st := (top 46)) l_d__q12 cc_d__q12 kk_d__q12
 have b_d__q12 := F_d__q12.binds (ps := ["book", "table", "people", "pairs", "turns"]) fun _ _ _ _ _ _ us hl => match us, hl with | [_, _, _, _, _], _ => rfl
 have F_d_law := fun_mk (st := (top 51)) l_d_law cc_d_law kk_d_law
 have b_d_law := F_d_law.binds (ps := ["script"]) fun _ _ _ _ _ _ us hl => match us, hl with | [_], _ => rfl
 refine ⟨W.fnOf "law" "law" (defArgs (top 51)) (defBody (top 51)) (defScope (top 51)) .none kV_d_law dc_d_law pm_d_law an_d_law cd_d_law ct_d_law, fun s v => .of_eq rfl, fun base _ _ => ?_⟩
 have D__q4 : Def l.prog w K mg base (CXR l.prog w) "_law_cell_at" 1 ["script", "k"] (spCellAt K) := ⟨_, _, W.mg_of X G a_d__q4, kk_d__q4, b_d__q4, ok_cell F_d__q4 T⟩
 have D__q5 : Def l.prog w K mg base (CXR l.prog w) "_law_turn_by" 1 ["cell", "many"] spTurnBy := ⟨_, _, W.mg_of X G a_d__q5, kk_d__q5, b_d__q5, ok_turnby F_d__q5 T⟩
 have D__q10 : Def l.prog w K mg base (CXR l.prog w) "_law_whole" 1 ["found"] spWhole := ⟨_, _, W.mg_of X G a_d__q10, kk_d__q10, b_d__q10, ok_whole F_d__q10 T⟩
 have D__q1 : Def l.prog w K mg base (CXR l.prog w) "_law_fit_comer" 1 ["people", "kinds", "wives", "heirs", "cell"] spFitComer := ⟨_, _, W.mg_of X G a_d__q1, kk_d__q1, b_d__q1, ok_fitcomer F_d__q1 T⟩
 have D_check_room : MDef l.prog w K mg base (CXR l.prog w) a_Book "check_room" 1 ["self"] (spRoom (⟨a_Za, a_Zb, a_Zc, a_Zd, a_Zf, a_Zg, a_Zh, a_Book⟩ : Ad)) := ⟨_, _, ⟨a_m_check_room, i_m_check_room, kk_m_check_room⟩, b_m_check_room, ok_room F_m_check_room T⟩
 have D_enter : MDef l.prog w K mg base (CXR l.prog w) a_Book "enter" 1 ["self", "sex", "father", "mother"] (spEnter (⟨a_Za, a_Zb, a_Zc, a_Zd, a_Zf, a_Zg, a_Zh, a_Book⟩ : Ad)) := ⟨_, _, ⟨a_m_enter, i_m_enter, kk_m_enter⟩, b_m_enter, ok_enter F_m_enter T⟩
 have D_come : MDef l.prog w K mg base (CXR l.prog w) a_Book "come" 2 ["self", "sex"] (spCome (⟨a_Za, a_Zb, a_Zc, a_Zd, a_Zf, a_Zg, a_Zh, a_Book⟩ : Ad)) := ⟨_, _, ⟨a_m_come, i_m_come, kk_m_come⟩, b_m_come, ok_come F_m_come T D_check_room D_enter⟩
 have D_check_person : MDef l.prog w K mg base (CXR l.prog w) a_Book "check_person" 1 ["self", "a"] (spCheckP (⟨a_Za, a_Zb, a_Zc, a_Zd, a_Zf, a_Zg, a_Zh, a_Book⟩ : Ad)) := ⟨_, _, ⟨a_m_check_person, i_m_check_person, kk_m_check_person⟩, b_m_check_person, ok_checkp F_m_check_person T⟩
 have D_check_couple : MDef l.prog w K mg base (CXR l.prog w) a_Book "check_couple" 2 ["self", "man", "woman"] (spCouple (⟨a_Za, a_Zb, a_Zc, a_Zd, a_Zf, a_Zg, a_Zh, a_Book⟩ : Ad)) := ⟨_, _, ⟨a_m_check_couple, i_m_check_couple, kk_m_check_couple⟩, b_m_check_couple, ok_couple F_m_check_couple T D_check_person⟩
 have D_pair : MDef l.prog w K mg base (CXR l.prog w) a_Book "pair" 1 ["self", "man", "woman"] (spPair (⟨a_Za, a_Zb, a_Zc, a_Zd, a_Zf, a_Zg, a_Zh, a_Book⟩ : Ad)) := ⟨_, _, ⟨a_m_pair, i_m_pair, kk_m_pair⟩, b_m_pair, ok_pair F_m_pair T⟩
 have D_born : MDef l.prog w K mg base (CXR l.prog w) a_Book "born" 3 ["self", "sex", "father", "mother"] (spBorn (⟨a_Za, a_Zb, a_Zc, a_Zd, a_Zf, a_Zg, a_Zh, a_Book⟩ : Ad)) := ⟨_, _, ⟨a_m_born, i_m_born, kk_m_born⟩, b_m_born, ok_born F_m_born T D_check_couple D_check_room D_pair D_enter⟩
 have D_wed : MDef l.prog w K mg base (CXR l.prog w) a_Book "wed" 3 ["self", "man", "woman"] (spWed (⟨a_Za, a_Zb, a_Zc, a_Zd, a_Zf, a_Zg, a_Zh, a_Book⟩ : Ad)) := ⟨_, _, ⟨a_m_wed, i_m_wed, kk_m_wed⟩, b_m_wed, ok_wed F_m_wed T D_check_couple D_pair⟩
 have D__q14 : Def l.prog w K mg base (CXR l.prog w) "_law_put" 4 ["book", "people", "pairs", "comer"] (spPut (⟨a_Za, a_Zb, a_Zc, a_Zd, a_Zf, a_Zg, a_Zh, a_Book⟩ : Ad)) := ⟨_, _, W.mg_of X G a_d__q14, kk_d__q14, b_d__q14, ok_put F_d__q14 T hE D_come D_born D_wed⟩
 have D__q3 : Def l.prog w K mg base (CXR l.prog w) "_law_fit_book" 5 ["book", "people", "pairs", "kinds", "turns", "cells"] (spFitBook (⟨a_Za, a_Zb, a_Zc, a_Zd, a_Zf, a_Zg, a_Zh, a_Book⟩ : Ad) K) := ⟨_, _, W.mg_of X G a_d__q3, kk_d__q3, b_d__q3, ok_fitbook F_d__q3 T hE D__q1 D__q14⟩
 have D__q2 : Def l.prog w K mg base (CXR l.prog w) "_law_together" 1 ["people", "pairs", "a"] spTogether := ⟨_, _, W.mg_of X G a_d__q2, kk_d__q2, b_d__q2, ok_together F_d__q2 T⟩
 have D__q11 : Def l.prog w K mg base (CXR l.prog w) "_law_near" 1 ["people", "pairs", "wives", "heirs", "a", "c"] spLNear := ⟨_, _, W.mg_of X G a_d__q11, kk_d__q11, b_d__q11, ok_lnear F_d__q11 T⟩
 have D__q6 : Def l.prog w K mg base (CXR l.prog w) "_law_clash" 2 ["people", "pairs", "turns", "a", "c"] spClash := ⟨_, _, W.mg_of X G a_d__q6, kk_d__q6, b_d__q6, ok_clash F_d__q6 T hE D__q11⟩
 have D__q0 : Def l.prog w K mg base (CXR l.prog w) "_law_parts_due" 3 ["people", "pairs", "turns"] spPartsDue := ⟨_, _, W.mg_of X G a_d__q0, kk_d__q0, b_d__q0, ok_partsdue F_d__q0 T hE D__q2 D__q6⟩
 have D_Book_size : MDef l.prog w K mg base (CXR l.prog w) a_Book "size" 1 ["self"] (spSizeB (⟨a_Za, a_Zb, a_Zc, a_Zd, a_Zf, a_Zg, a_Zh, a_Book⟩ : Ad)) := ⟨_, _, ⟨a_m_Book_size, i_m_Book_size, kk_m_Book_size⟩, b_m_Book_size, ok_sizeb F_m_Book_size T⟩
 have D_Table_size : MDef l.prog w K mg base (CXR l.prog w) a_Table "size" 1 ["self"] (spSize a_Table) := ⟨_, _, ⟨a_m_Table_size, i_m_Table_size, kk_m_Table_size⟩, b_m_Table_size, ok_size F_m_Table_size T⟩
 have D_check_class : MDef l.prog w K mg base (CXR l.prog w) a_Table "check_class" 1 ["self", "c"] (spCheck a_Table (⟨a_Za, a_Zb, a_Zc, a_Zd, a_Zf, a_Zg, a_Zh, a_Book⟩ : Ad)) := ⟨_, _, ⟨a_m_check_class, i_m_check_class, kk_m_check_class⟩, b_m_check_class, ok_check F_m_check_class T⟩
 have D_check_walk : Def l.prog w K mg base (CXR l.prog w) "check_walk" 1 ["walk"] (spCheckWalk (⟨a_Za, a_Zb, a_Zc, a_Zd, a_Zf, a_Zg, a_Zh, a_Book⟩ : Ad)) := ⟨_, _, W.mg_of X G a_d_w6, kk_d_w6, b_d_w6, ok_ckw F_d_w6 T⟩
 have D_wife_of : MDef l.prog w K mg base (CXR l.prog w) a_Table "wife_of" 2 ["self", "c"] (spWife a_Table (⟨a_Za, a_Zb, a_Zc, a_Zd, a_Zf, a_Zg, a_Zh, a_Book⟩ : Ad)) := ⟨_, _, ⟨a_m_wife_of, i_m_wife_of, kk_m_wife_of⟩, b_m_wife_of, ok_wife F_m_wife_of T D_check_class⟩
 have D_father_of : MDef l.prog w K mg base (CXR l.prog w) a_Table "father_of" 2 ["self", "c"] (spFather a_Table (⟨a_Za, a_Zb, a_Zc, a_Zd, a_Zf, a_Zg, a_Zh, a_Book⟩ : Ad)) := ⟨_, _, ⟨a_m_father_of, i_m_father_of, kk_m_father_of⟩, b_m_father_of, ok_father F_m_father_of T D_check_class⟩
 have D_husband_of : MDef l.prog w K mg base (CXR l.prog w) a_Table "husband_of" 2 ["self", "c"] (spHusband a_Table (⟨a_Za, a_Zb, a_Zc, a_Zd, a_Zf, a_Zg, a_Zh, a_Book⟩ : Ad)) := ⟨_, _, ⟨a_m_husband_of, i_m_husband_of, kk_m_husband_of⟩, b_m_husband_of, ok_husband F_m_husband_of T D_check_class⟩
 have D_partner_class : Def l.prog w K mg base (CXR l.prog w) "partner_class" 3 ["table", "sex", "c"] (spPartnerClass a_Table) := ⟨_, _, W.mg_of X G a_d_w0, kk_d_w0, b_d_w0, ok_pcls F_d_w0 T D_wife_of D_husband_of⟩
 have D_heir_of : MDef l.prog w K mg base (CXR l.prog w) a_Table "heir_of" 2 ["self", "c"] (spHeir a_Table (⟨a_Za, a_Zb, a_Zc, a_Zd, a_Zf, a_Zg, a_Zh, a_Book⟩ : Ad)) := ⟨_, _, ⟨a_m_heir_of, i_m_heir_of, kk_m_heir_of⟩, b_m_heir_of, ok_heir F_m_heir_of T D_check_class⟩
 have D_child_class : Def l.prog w K mg base (CXR l.prog w) "child_class" 3 ["table", "sex", "c"] (spChildClass a_Table) := ⟨_, _, W.mg_of X G a_d_w5, kk_d_w5, b_d_w5, ok_ccls F_d_w5 T D_heir_of D_husband_of⟩
 have D_class_after : Def l.prog w K mg base (CXR l.prog w) "class_after" 4 ["table", "sex", "c", "letter"] (spClassAfter a_Table) := ⟨_, _, W.mg_of X G a_d_w3, kk_d_w3, b_d_w3, ok_clsa F_d_w3 T D_wife_of D_father_of D_partner_class D_child_class⟩
 have D_partner_sex : Def l.prog w K mg base (CXR l.prog w) "partner_sex" 1 ["sex"] spPartnerSex := ⟨_, _, W.mg_of X G a_d_w2, kk_d_w2, b_d_w2, ok_psex F_d_w2 ⟩
 have D_sex_after : Def l.prog w K mg base (CXR l.prog w) "sex_after" 2 ["sex", "letter"] spSexAfter := ⟨_, _, W.mg_of X G a_d_w8, kk_d_w8, b_d_w8, ok_sexa F_d_w8 T hE D_partner_sex⟩
 have D_walked : Def l.prog w K mg base (CXR l.prog w) "walked" 5 ["table", "sex", "c", "walk"] (spWalked a_Table (⟨a_Za, a_Zb, a_Zc, a_Zd, a_Zf, a_Zg, a_Zh, a_Book⟩ : Ad)) := ⟨_, _, W.mg_of X G a_d_w12, kk_d_w12, b_d_w12, ok_walked F_d_w12 T D_check_walk D_check_class D_class_after D_sex_after⟩
 have D_sex_of : MDef l.prog w K mg base (CXR l.prog w) a_Book "sex_of" 2 ["self", "a"] (spSexOf (⟨a_Za, a_Zb, a_Zc, a_Zd, a_Zf, a_Zg, a_Zh, a_Book⟩ : Ad)) := ⟨_, _, ⟨a_m_sex_of, i_m_sex_of, kk_m_sex_of⟩, b_m_sex_of, ok_sexof F_m_sex_of T D_check_person⟩
 have D_children : MDef l.prog w K mg base (CXR l.prog w) a_Book "children" 2 ["self", "a"] (spChildrenB (⟨a_Za, a_Zb, a_Zc, a_Zd, a_Zf, a_Zg, a_Zh, a_Book⟩ : Ad)) := ⟨_, _, ⟨a_m_children, i_m_children, kk_m_children⟩, b_m_children, ok_childrenb F_m_children T D_check_person⟩
 have D_siblings : MDef l.prog w K mg base (CXR l.prog w) a_Book "siblings" 1 ["self", "a"] (spSibs (⟨a_Za, a_Zb, a_Zc, a_Zd, a_Zf, a_Zg, a_Zh, a_Book⟩ : Ad)) := ⟨_, _, ⟨a_m_siblings, i_m_siblings, kk_m_siblings⟩, b_m_siblings, ok_sibs F_m_siblings T⟩
 have D_kin_by_letter : MDef l.prog w K mg base (CXR l.prog w) a_Book "kin_by_letter" 3 ["self", "a", "letter"] (spKinL (⟨a_Za, a_Zb, a_Zc, a_Zd, a_Zf, a_Zg, a_Zh, a_Book⟩ : Ad)) := ⟨_, _, ⟨a_m_kin_by_letter, i_m_kin_by_letter, kk_m_kin_by_letter⟩, b_m_kin_by_letter, ok_kinl F_m_kin_by_letter T D_children D_siblings D_sex_after⟩
 have D_kin : MDef l.prog w K mg base (CXR l.prog w) a_Book "kin" 4 ["self", "a", "walk"] (spKin (⟨a_Za, a_Zb, a_Zc, a_Zd, a_Zf, a_Zg, a_Zh, a_Book⟩ : Ad)) := ⟨_, _, ⟨a_m_kin, i_m_kin, kk_m_kin⟩, b_m_kin, ok_kin F_m_kin T D_check_person D_check_walk D_kin_by_letter⟩
 have D_near_classes : Def l.prog w K mg base (CXR l.prog w) "near_classes" 6 ["book", "table", "a", "c"] (spNearC a_Table (⟨a_Za, a_Zb, a_Zc, a_Zd, a_Zf, a_Zg, a_Zh, a_Book⟩ : Ad)) := ⟨_, _, W.mg_of X G a_d_w1, kk_d_w1, b_d_w1, ok_nearc F_d_w1 T D_walked D_sex_of D_kin⟩
 have D_fitting : Def l.prog w K mg base (CXR l.prog w) "fitting" 7 ["book", "table", "a", "c"] (spFitting a_Table (⟨a_Za, a_Zb, a_Zc, a_Zd, a_Zf, a_Zg, a_Zh, a_Book⟩ : Ad)) := ⟨_, _, W.mg_of X G a_d_w10, kk_d_w10, b_d_w10, ok_fitting F_d_w10 T D_check_person D_check_class D_Book_size D_near_classes⟩
 have D_fits_from : Def l.prog w K mg base (CXR l.prog w) "fits_from" 8 ["book", "table", "a"] (spFitsFrom a_Table (⟨a_Za, a_Zb, a_Zc, a_Zd, a_Zf, a_Zg, a_Zh, a_Book⟩ : Ad)) := ⟨_, _, W.mg_of X G a_d_w7, kk_d_w7, b_d_w7, ok_fitsfrom F_d_w7 T D_Table_size D_fitting⟩
 have D_many_ways : Def l.prog w K mg base (CXR l.prog w) "many_ways" 9 ["book", "table"] (spManyWays a_Table (⟨a_Za, a_Zb, a_Zc, a_Zd, a_Zf, a_Zg, a_Zh, a_Book⟩ : Ad)) := ⟨_, _, W.mg_of X G a_d_w9, kk_d_w9, b_d_w9, ok_manyways F_d_w9 T D_Book_size D_fits_from⟩
 have D_is_turn : Def l.prog w K mg base (CXR l.prog w) "is_turn" 1 ["row", "many"] spIsTurn := ⟨_, _, W.mg_of X G a_d_w11, kk_d_w11, b_d_w11, ok_isturn F_d_w11 T⟩
 have D_turned_back : Def l.prog w K mg base (CXR l.prog w) "turned_back" 1 ["turn"] spTurnedBack := ⟨_, _, W.mg_of X G a_d_w4, kk_d_w4, b_d_w4, ok_tback F_d_w4 T⟩
 have D_Table : CDef l.prog w K mg base (CXR l.prog w) "Table" a_Table 2 ["self", "wives", "heirs"] (spInitX a_Table (⟨a_Za, a_Zb, a_Zc, a_Zd, a_Zf, a_Zg, a_Zh, a_Book⟩ : Ad)) := ⟨_, _, W.mg_of X G b_Table, ⟨mk_Table, a_m_Table___init__, i_m_Table___init__, kc_Table⟩, b_m_Table___init__, ok_init F_m_Table___init__ T D_is_turn D_turned_back⟩
 have D_Book : CDef l.prog w K mg base (CXR l.prog w) "Book" a_Book 1 ["self"] (spBookInit (⟨a_Za, a_Zb, a_Zc, a_Zd, a_Zf, a_Zg, a_Zh, a_Book⟩ : Ad)) := ⟨_, _, W.mg_of X G b_Book, ⟨mk_Book, a_m_Book___init__, i_m_Book___init__, kc_Book⟩, b_m_Book___init__, ok_binit F_m_Book___init__ T⟩
 have D__q7 : Def l.prog w K mg base (CXR l.prog w) "_law_great" 10 ["script"] (spLaw K) := ⟨_, _, W.mg_of X G a_d__q7, kk_d__q7, b_d__q7, ok_great F_d__q7 T hE D__q4 D__q5 D__q10 D__q3 D__q0 D_many_ways D_come D_Table D_Book⟩
 have D__q8 : Def l.prog w K mg base (CXR l.prog w) "_law_comer" 1 ["people", "cell"] spComer := ⟨_, _, W.mg_of X G a_d__q8, kk_d__q8, b_d__q8, ok_comer F_d__q8 T⟩
 have D__q9 : Def l.prog w K mg base (CXR l.prog w) "_law_lists" 1 ["size", "many"] spLists := ⟨_, _, W.mg_of X G a_d__q9, kk_d__q9, b_d__q9, ok_lists F_d__q9 T⟩
 have D__q13 : Def l.prog w K mg base (CXR l.prog w) "_law_fits" 1 ["people", "pairs", "told", "wives", "heirs"] spFits := ⟨_, _, W.mg_of X G a_d__q13, kk_d__q13, b_d__q13, ok_fits F_d__q13 T⟩
 have D__q12 : Def l.prog w K mg base (CXR l.prog w) "_law_told" 10 ["book", "table", "people", "pairs", "turns"] (spToldW a_Table (⟨a_Za, a_Zb, a_Zc, a_Zd, a_Zf, a_Zg, a_Zh, a_Book⟩ : Ad)) := ⟨_, _, W.mg_of X G a_d__q12, kk_d__q12, b_d__q12, ok_toldw F_d__q12 T hE D__q9 D__q13 D__q10 D_many_ways⟩
 exact ok_law F_d_law T hE D__q4 D__q5 D__q7 D__q8 D__q14 D__q1 D__q12 D_come D_Table D_Book
theorem walk {l : W.OpenLaw} {q : Program} {loose : List Str} {XP : (Str -> Option Value) -> Heap -> Prop} {YP : World -> Heap -> Prop} {d : DefRec} {K : Params -> W.Frag} (hn : l.most = some 63) (hdf : d.params.defaults = [])
 (hY : ∀ (w : World) (h : Heap), YP w h -> (K w.params).In h)
 (F : ∀ (w : World) (mg : Str -> Option Value) (fa : Addr) (h : Heap), (K w.params).In h -> h.Ns mainGlobals mg -> mg d.name = some (.ref fa) ->
  ∃ fd : FuncData, (∀ (s : Shared) (u : Value), BindsTo s fd ⟨[u], []⟩ [("script", u)]) /\ ∀ base : Heap, (K w.params).In base -> base.Ns mainGlobals mg -> FnOk l.prog w (K w.params) mg base (CXR l.prog w) 11 fa fd ["script"] (spLaw (K w.params))) :
 W.WalkO q loose XP YP l.row.toRowW d [] (fun f vs => PySem.call f vs) :=
 L2.walk_of (n := 63) (k := 11) (x := "script") (CX := fun w => CXR l.prog w) (sp := fun w => spLaw (K w.params)) hn (by decide) hdf ⟨rfl, by decide, by decide, rfl⟩ hY F (fun _ _ a ns hl _ hS => ⟨a, ns, rfl, hl, hS, fun _ => rfl⟩) fun _ _ _ _ _ ⟨_, _, _, _, _, z⟩ => z
end Prf
def PySem.W.Fast.tw4154957949188882123 : Unit := ()
def PySem.W.Fast.tw17396703691630601025 : Unit := ()
def PySem.W.Fast.tw14611826099105205407 : Unit := ()
def PySem.W.Fast.tw13595906647350154836 : Unit := ()
def PySem.W.Fast.tw11017524893514982011 : Unit := ()
def PySem.W.Fast.tw14657488234726875072 : Unit := ()
def PySem.W.Fast.tw17956358205913541430 : Unit := ()
def PySem.W.Fast.tw5296179596675035321 : Unit := ()
def PySem.W.Fast.tw4101768844199035203 : Unit := ()
def PySem.W.Fast.tw4390874260699560898 : Unit := ()
def PySem.W.Fast.tw14138658182044073701 : Unit := ()
def PySem.W.Fast.tw13602370333501929728 : Unit := ()
def PySem.W.Fast.tw15646657360607614717 : Unit := ()
def PySem.W.Fast.tw6095426259276224460 : Unit := ()
def PySem.W.Fast.tw13945580336909051588 : Unit := ()
def PySem.W.Fast.tw2040261227007773295 : Unit := ()
def PySem.W.Fast.tw5586721615169065743 : Unit := ()
def PySem.W.Fast.tw4022998755031095600 : Unit := ()
def PySem.W.Fast.tw16180454646661321499 : Unit := ()
def PySem.W.Fast.tw6001258804727538487 : Unit := ()
def PySem.W.Fast.tw1530622882419268415 : Unit := ()
def PySem.W.Fast.tw5324477433952266709 : Unit := ()
def PySem.W.Fast.tw3896572596222435093 : Unit := ()
def PySem.W.Fast.tw14373075147689727493 : Unit := ()
open PySem PySem.W PyProof.Rows
set_option maxRecDepth 100000 in
set_option maxHeartbeats 0 in
theorem PySem.Challenge.cw_kinturns_k13_whole_by_how_many_ways_holds : PySem.Challenge.rw_kinturns_k13_whole_by_how_many_ways.Holds := by
 w_on; o_law; k_head; (case hw => w_witness2)
 k_fill
 refine Prf.walk (l := PySem.Challenge.rw_kinturns_k13_whole_by_how_many_ways) rfl rfl (fun w h Y => W.kIn_of Y) ?F
 case F =>
  intro w mg fa h KX G hmg
  refine' Prf.all_mk KX G hmg ?b_Za ?b_Zb ?b_Zc ?b_Zd ?b_Zf ?b_Zg ?b_Zh ?b_Book ?b_Table ?pg_Book ?hd_Book ?po_Book ?sa_Book ?mk_Book ?kc_Book ?n_sexes ?n_fathers ?n_mothers ?n_partner_lists ?pg_Table ?hd_Table ?po_Table ?sa_Table ?mk_Table ?kc_Table ?n_wife_turn ?n_heir_turn ?n_husband_turn ?n_father_turn ?kd1 ?kd2 ?x_Zb ?c1_Zb ?c2_Zb ?c3_Zb ?c4_Zb ?c5_Zb ?c6_Zb ?w_Zb ?v_Zb ?k_Zb_Zb ?k_Zb_Zc ?k_Zb_Zd ?k_Zb_Zf ?k_Zb_Zg ?k_Zb_Zh ?x_Zc ?c1_Zc ?c2_Zc ?c3_Zc ?c4_Zc ?c5_Zc ?c6_Zc ?w_Zc ?v_Zc ?k_Zc_Zb ?k_Zc_Zc ?k_Zc_Zd ?k_Zc_Zf ?k_Zc_Zg ?k_Zc_Zh ?x_Zd ?c1_Zd ?c2_Zd ?c3_Zd ?c4_Zd ?c5_Zd ?c6_Zd ?w_Zd ?v_Zd ?k_Zd_Zb ?k_Zd_Zc ?k_Zd_Zd ?k_Zd_Zf ?k_Zd_Zg ?k_Zd_Zh ?x_Zf ?c1_Zf ?c2_Zf ?c3_Zf ?c4_Zf ?c5_Zf ?c6_Zf ?w_Zf ?v_Zf ?k_Zf_Zb ?k_Zf_Zc ?k_Zf_Zd ?k_Zf_Zf ?k_Zf_Zg ?k_Zf_Zh ?x_Zg ?c1_Zg ?c2_Zg ?c3_Zg ?c4_Zg ?c5_Zg ?c6_Zg ?w_Zg ?v_Zg ?k_Zg_Zb ?k_Zg_Zc ?k_Zg_Zd ?k_Zg_Zf ?k_Zg_Zg ?k_Zg_Zh ?x_Zh ?c1_Zh ?c2_Zh ?c3_Zh ?c4_Zh ?c5_Zh ?c6_Zh ?w_Zh ?v_Zh ?k_Zh_Zb ?k_Zh_Zc ?k_Zh_Zd ?k_Zh_Zf ?k_Zh_Zg ?k_Zh_Zh ?a_d__q4 ?l_d__q4 ?cc_d__q4 ?kk_d__q4 ?a_d__q5 ?l_d__q5 ?cc_d__q5 ?kk_d__q5 ?a_d__q10 ?l_d__q10 ?cc_d__q10 ?kk_d__q10 ?a_d__q1 ?l_d__q1 ?cc_d__q1 ?kk_d__q1 ?a_m_check_room ?i_m_check_room ?l_m_check_room ?cc_m_check_room ?kk_m_check_room ?a_m_enter ?i_m_enter ?l_m_enter ?cc_m_enter ?kk_m_enter ?a_m_come ?i_m_come ?l_m_come ?cc_m_come ?kk_m_come ?a_m_check_person ?i_m_check_person ?l_m_check_person ?cc_m_check_person ?kk_m_check_person ?a_m_check_couple ?i_m_check_couple ?l_m_check_couple ?cc_m_check_couple ?kk_m_check_couple ?a_m_pair ?i_m_pair ?l_m_pair ?cc_m_pair ?kk_m_pair ?a_m_born ?i_m_born ?l_m_born ?cc_m_born ?kk_m_born ?a_m_wed ?i_m_wed ?l_m_wed ?cc_m_wed ?kk_m_wed ?a_d__q14 ?l_d__q14 ?cc_d__q14 ?kk_d__q14 ?a_d__q3 ?l_d__q3 ?cc_d__q3 ?kk_d__q3 ?a_d__q2 ?l_d__q2 ?cc_d__q2 ?kk_d__q2 ?a_d__q11 ?l_d__q11 ?cc_d__q11 ?kk_d__q11 ?a_d__q6 ?l_d__q6 ?cc_d__q6 ?kk_d__q6 ?a_d__q0 ?l_d__q0 ?cc_d__q0 ?kk_d__q0 ?a_m_Book_size ?i_m_Book_size ?l_m_Book_size ?cc_m_Book_size ?kk_m_Book_size ?a_m_Table_size ?i_m_Table_size ?l_m_Table_size ?cc_m_Table_size ?kk_m_Table_size ?a_m_check_class ?i_m_check_class ?l_m_check_class ?cc_m_check_class ?kk_m_check_class ?a_d_w6 ?l_d_w6 ?cc_d_w6 ?kk_d_w6 ?a_m_wife_of ?i_m_wife_of ?l_m_wife_of ?cc_m_wife_of ?kk_m_wife_of ?a_m_father_of ?i_m_father_of ?l_m_father_of ?cc_m_father_of ?kk_m_father_of ?a_m_husband_of ?i_m_husband_of ?l_m_husband_of ?cc_m_husband_of ?kk_m_husband_of ?a_d_w0 ?l_d_w0 ?cc_d_w0 ?kk_d_w0 ?a_m_heir_of ?i_m_heir_of ?l_m_heir_of ?cc_m_heir_of ?kk_m_heir_of ?a_d_w5 ?l_d_w5 ?cc_d_w5 ?kk_d_w5 ?a_d_w3 ?l_d_w3 ?cc_d_w3 ?kk_d_w3 ?a_d_w2 ?l_d_w2 ?cc_d_w2 ?kk_d_w2 ?a_d_w8 ?l_d_w8 ?cc_d_w8 ?kk_d_w8 ?a_d_w12 ?l_d_w12 ?cc_d_w12 ?kk_d_w12 ?a_m_sex_of ?i_m_sex_of ?l_m_sex_of ?cc_m_sex_of ?kk_m_sex_of ?a_m_children ?i_m_children ?l_m_children ?cc_m_children ?kk_m_children ?a_m_siblings ?i_m_siblings ?l_m_siblings ?cc_m_siblings ?kk_m_siblings ?a_m_kin_by_letter ?i_m_kin_by_letter ?l_m_kin_by_letter ?cc_m_kin_by_letter ?kk_m_kin_by_letter ?a_m_kin ?i_m_kin ?l_m_kin ?cc_m_kin ?kk_m_kin ?a_d_w1 ?l_d_w1 ?cc_d_w1 ?kk_d_w1 ?a_d_w10 ?l_d_w10 ?cc_d_w10 ?kk_d_w10 ?a_d_w7 ?l_d_w7 ?cc_d_w7 ?kk_d_w7 ?a_d_w9 ?l_d_w9 ?cc_d_w9 ?kk_d_w9 ?a_d_w11 ?l_d_w11 ?cc_d_w11 ?kk_d_w11 ?a_d_w4 ?l_d_w4 ?cc_d_w4 ?kk_d_w4 ?a_m_Table___init__ ?i_m_Table___init__ ?l_m_Table___init__ ?cc_m_Table___init__ ?kk_m_Table___init__ ?a_m_Book___init__ ?i_m_Book___init__ ?l_m_Book___init__ ?cc_m_Book___init__ ?kk_m_Book___init__ ?a_d__q7 ?l_d__q7 ?cc_d__q7 ?kk_d__q7 ?a_d__q8 ?l_d__q8 ?cc_d__q8 ?kk_d__q8 ?a_d__q9 ?l_d__q9 ?cc_d__q9 ?kk_d__q9 ?a_d__q13 ?l_d__q13 ?cc_d__q13 ?kk_d__q13 ?a_d__q12 ?l_d__q12 ?cc_d__q12 ?kk_d__q12 ?a_d_law ?l_d_law ?cc_d_law ?kk_d_law ?g_LETTERS ?g_LETTERS_TO_MEN ?g_MOST_LETTERS ?g_LETTERS_THAT_HANG ?g_MOST_PERSONS ?g_MOST_CLASSES ?z_ValueError ?z_bool ?z_enumerate ?z_int ?z_isinstance ?z_len ?z_list ?z_range ?z_sorted
  (case b_Za => k_is)
  (case b_Zb => k_is)
  (case b_Zc => k_is)
  (case b_Zd => k_is)
  (case b_Zf => k_is)
  (case b_Zg => k_is)
  (case b_Zh => k_is)
  (case b_Book => k_is)
  (case b_Table => k_is)
  (case pg_Book => k_is)
  (case hd_Book => k_is)
  (case po_Book => k_is)
  (case sa_Book => k_is)
  (case mk_Book => k_is)
  (case kc_Book => k_is)
  (case n_sexes => k_is)
  (case n_fathers => k_is)
  (case n_mothers => k_is)
  (case n_partner_lists => k_is)
  (case pg_Table => k_is)
  (case hd_Table => k_is)
  (case po_Table => k_is)
  (case sa_Table => k_is)
  (case mk_Table => k_is)
  (case kc_Table => k_is)
  (case n_wife_turn => k_is)
  (case n_heir_turn => k_is)
  (case n_husband_turn => k_is)
  (case n_father_turn => k_is)
  (case kd1 => k_is)
  (case kd2 => k_is)
  (case x_Zb => k_exc)
  (case c1_Zb => k_is)
  (case c2_Zb => k_is)
  (case c3_Zb => k_is)
  (case c4_Zb => k_is)
  (case c5_Zb => k_is)
  (case c6_Zb => k_is)
  (case w_Zb => kts_exm)
  (case v_Zb => kit_is)
  (case k_Zb_Zb => kit_is)
  (case k_Zb_Zc => kit_is)
  (case k_Zb_Zd => kit_is)
  (case k_Zb_Zf => kit_is)
  (case k_Zb_Zg => kit_is)
  (case k_Zb_Zh => kit_is)
  (case x_Zc => k_exc)
  (case c1_Zc => k_is)
  (case c2_Zc => k_is)
  (case c3_Zc => k_is)
  (case c4_Zc => k_is)
  (case c5_Zc => k_is)
  (case c6_Zc => k_is)
  (case w_Zc => kts_exm)
  (case v_Zc => kit_is)
  (case k_Zc_Zb => kit_is)
  (case k_Zc_Zc => kit_is)
  (case k_Zc_Zd => kit_is)
  (case k_Zc_Zf => kit_is)
  (case k_Zc_Zg => kit_is)
  (case k_Zc_Zh => kit_is)
  (case x_Zd => k_exc)
  (case c1_Zd => k_is)
  (case c2_Zd => k_is)
  (case c3_Zd => k_is)
  (case c4_Zd => k_is)
  (case c5_Zd => k_is)
  (case c6_Zd => k_is)
  (case w_Zd => kts_exm)
  (case v_Zd => kit_is)
  (case k_Zd_Zb => kit_is)
  (case k_Zd_Zc => kit_is)
  (case k_Zd_Zd => kit_is)
  (case k_Zd_Zf => kit_is)
  (case k_Zd_Zg => kit_is)
  (case k_Zd_Zh => kit_is)
  (case x_Zf => k_exc)
  (case c1_Zf => k_is)
  (case c2_Zf => k_is)
  (case c3_Zf => k_is)
  (case c4_Zf => k_is)
  (case c5_Zf => k_is)
  (case c6_Zf => k_is)
  (case w_Zf => kts_exm)
  (case v_Zf => kit_is)
  (case k_Zf_Zb => kit_is)
  (case k_Zf_Zc => kit_is)
  (case k_Zf_Zd => kit_is)
  (case k_Zf_Zf => kit_is)
  (case k_Zf_Zg => kit_is)
  (case k_Zf_Zh => kit_is)
  (case x_Zg => k_exc)
  (case c1_Zg => k_is)
  (case c2_Zg => k_is)
  (case c3_Zg => k_is)
  (case c4_Zg => k_is)
  (case c5_Zg => k_is)
  (case c6_Zg => k_is)
  (case w_Zg => kts_exm)
  (case v_Zg => kit_is)
  (case k_Zg_Zb => kit_is)
  (case k_Zg_Zc => kit_is)
  (case k_Zg_Zd => kit_is)
  (case k_Zg_Zf => kit_is)
  (case k_Zg_Zg => kit_is)
  (case k_Zg_Zh => kit_is)
  (case x_Zh => k_exc)
  (case c1_Zh => k_is)
  (case c2_Zh => k_is)
  (case c3_Zh => k_is)
  (case c4_Zh => k_is)
  (case c5_Zh => k_is)
  (case c6_Zh => k_is)
  (case w_Zh => kts_exm)
  (case v_Zh => kit_is)
  (case k_Zh_Zb => kit_is)
  (case k_Zh_Zc => kit_is)
  (case k_Zh_Zd => kit_is)
  (case k_Zh_Zf => kit_is)
  (case k_Zh_Zg => kit_is)
  (case k_Zh_Zh => kit_is)
  (case a_d__q4 => k_is)
  (case l_d__q4 => k_is)
  (case cc_d__q4 => k_is)
  (case kk_d__q4 => k_is)
  (case a_d__q5 => k_is)
  (case l_d__q5 => k_is)
  (case cc_d__q5 => k_is)
  (case kk_d__q5 => k_is)
  (case a_d__q10 => k_is)
  (case l_d__q10 => k_is)
  (case cc_d__q10 => k_is)
  (case kk_d__q10 => k_is)
  (case a_d__q1 => k_is)
  (case l_d__q1 => k_is)
  (case cc_d__q1 => k_is)
  (case kk_d__q1 => k_is)
  (case a_m_check_room => k_is)
  (case i_m_check_room => k_is)
  (case l_m_check_room => k_is)
  (case cc_m_check_room => k_is)
  (case kk_m_check_room => k_is)
  (case a_m_enter => k_is)
  (case i_m_enter => k_is)
  (case l_m_enter => k_is)
  (case cc_m_enter => k_is)
  (case kk_m_enter => k_is)
  (case a_m_come => k_is)
  (case i_m_come => k_is)
  (case l_m_come => k_is)
  (case cc_m_come => k_is)
  (case kk_m_come => k_is)
  (case a_m_check_person => k_is)
  (case i_m_check_person => k_is)
  (case l_m_check_person => k_is)
  (case cc_m_check_person => k_is)
  (case kk_m_check_person => k_is)
  (case a_m_check_couple => k_is)
  (case i_m_check_couple => k_is)
  (case l_m_check_couple => k_is)
  (case cc_m_check_couple => k_is)
  (case kk_m_check_couple => k_is)
  (case a_m_pair => k_is)
  (case i_m_pair => k_is)
  (case l_m_pair => k_is)
  (case cc_m_pair => k_is)
  (case kk_m_pair => k_is)
  (case a_m_born => k_is)
  (case i_m_born => k_is)
  (case l_m_born => k_is)
  (case cc_m_born => k_is)
  (case kk_m_born => k_is)
  (case a_m_wed => k_is)
  (case i_m_wed => k_is)
  (case l_m_wed => k_is)
  (case cc_m_wed => k_is)
  (case kk_m_wed => k_is)
  (case a_d__q14 => k_is)
  (case l_d__q14 => k_is)
  (case cc_d__q14 => k_is)
  (case kk_d__q14 => k_is)
  (case a_d__q3 => k_is)
  (case l_d__q3 => k_is)
  (case cc_d__q3 => k_is)
  (case kk_d__q3 => k_is)
  (case a_d__q2 => k_is)
  (case l_d__q2 => k_is)
  (case cc_d__q2 => k_is)
  (case kk_d__q2 => k_is)
  (case a_d__q11 => k_is)
  (case l_d__q11 => k_is)
  (case cc_d__q11 => k_is)
  (case kk_d__q11 => k_is)
  (case a_d__q6 => k_is)
  (case l_d__q6 => k_is)
  (case cc_d__q6 => k_is)
  (case kk_d__q6 => k_is)
  (case a_d__q0 => k_is)
  (case l_d__q0 => k_is)
  (case cc_d__q0 => k_is)
  (case kk_d__q0 => k_is)
  (case a_m_Book_size => k_is)
  (case i_m_Book_size => k_is)
  (case l_m_Book_size => k_is)
  (case cc_m_Book_size => k_is)
  (case kk_m_Book_size => k_is)
  (case a_m_Table_size => k_is)
  (case i_m_Table_size => k_is)
  (case l_m_Table_size => k_is)
  (case cc_m_Table_size => k_is)
  (case kk_m_Table_size => k_is)
  (case a_m_check_class => k_is)
  (case i_m_check_class => k_is)
  (case l_m_check_class => k_is)
  (case cc_m_check_class => k_is)
  (case kk_m_check_class => k_is)
  (case a_d_w6 => k_is)
  (case l_d_w6 => k_is)
  (case cc_d_w6 => k_is)
  (case kk_d_w6 => k_is)
  (case a_m_wife_of => k_is)
  (case i_m_wife_of => k_is)
  (case l_m_wife_of => k_is)
  (case cc_m_wife_of => k_is)
  (case kk_m_wife_of => k_is)
  (case a_m_father_of => k_is)
  (case i_m_father_of => k_is)
  (case l_m_father_of => k_is)
  (case cc_m_father_of => k_is)
  (case kk_m_father_of => k_is)
  (case a_m_husband_of => k_is)
  (case i_m_husband_of => k_is)
  (case l_m_husband_of => k_is)
  (case cc_m_husband_of => k_is)
  (case kk_m_husband_of => k_is)
  (case a_d_w0 => k_is)
  (case l_d_w0 => k_is)
  (case cc_d_w0 => k_is)
  (case kk_d_w0 => k_is)
  (case a_m_heir_of => k_is)
  (case i_m_heir_of => k_is)
  (case l_m_heir_of => k_is)
  (case cc_m_heir_of => k_is)
  (case kk_m_heir_of => k_is)
  (case a_d_w5 => k_is)
  (case l_d_w5 => k_is)
  (case cc_d_w5 => k_is)
  (case kk_d_w5 => k_is)
  (case a_d_w3 => k_is)
  (case l_d_w3 => k_is)
  (case cc_d_w3 => k_is)
  (case kk_d_w3 => k_is)
  (case a_d_w2 => k_is)
  (case l_d_w2 => k_is)
  (case cc_d_w2 => k_is)
  (case kk_d_w2 => k_is)
  (case a_d_w8 => k_is)
  (case l_d_w8 => k_is)
  (case cc_d_w8 => k_is)
  (case kk_d_w8 => k_is)
  (case a_d_w12 => k_is)
  (case l_d_w12 => k_is)
  (case cc_d_w12 => k_is)
  (case kk_d_w12 => k_is)
  (case a_m_sex_of => k_is)
  (case i_m_sex_of => k_is)
  (case l_m_sex_of => k_is)
  (case cc_m_sex_of => k_is)
  (case kk_m_sex_of => k_is)
  (case a_m_children => k_is)
  (case i_m_children => k_is)
  (case l_m_children => k_is)
  (case cc_m_children => k_is)
  (case kk_m_children => k_is)
  (case a_m_siblings => k_is)
  (case i_m_siblings => k_is)
  (case l_m_siblings => k_is)
  (case cc_m_siblings => k_is)
  (case kk_m_siblings => k_is)
  (case a_m_kin_by_letter => k_is)
  (case i_m_kin_by_letter => k_is)
  (case l_m_kin_by_letter => k_is)
  (case cc_m_kin_by_letter => k_is)
  (case kk_m_kin_by_letter => k_is)
  (case a_m_kin => k_is)
  (case i_m_kin => k_is)
  (case l_m_kin => k_is)
  (case cc_m_kin => k_is)
  (case kk_m_kin => k_is)
  (case a_d_w1 => k_is)
  (case l_d_w1 => k_is)
  (case cc_d_w1 => k_is)
  (case kk_d_w1 => k_is)
  (case a_d_w10 => k_is)
  (case l_d_w10 => k_is)
  (case cc_d_w10 => k_is)
  (case kk_d_w10 => k_is)
  (case a_d_w7 => k_is)
  (case l_d_w7 => k_is)
  (case cc_d_w7 => k_is)
  (case kk_d_w7 => k_is)
  (case a_d_w9 => k_is)
  (case l_d_w9 => k_is)
  (case cc_d_w9 => k_is)
  (case kk_d_w9 => k_is)
  (case a_d_w11 => k_is)
  (case l_d_w11 => k_is)
  (case cc_d_w11 => k_is)
  (case kk_d_w11 => k_is)
  (case a_d_w4 => k_is)
  (case l_d_w4 => k_is)
  (case cc_d_w4 => k_is)
  (case kk_d_w4 => k_is)
  (case a_m_Table___init__ => k_is)
  (case i_m_Table___init__ => k_is)
  (case l_m_Table___init__ => k_is)
  (case cc_m_Table___init__ => k_is)
  (case kk_m_Table___init__ => k_is)
  (case a_m_Book___init__ => k_is)
  (case i_m_Book___init__ => k_is)
  (case l_m_Book___init__ => k_is)
  (case cc_m_Book___init__ => k_is)
  (case kk_m_Book___init__ => k_is)
  (case a_d__q7 => k_is)
  (case l_d__q7 => k_is)
  (case cc_d__q7 => k_is)
  (case kk_d__q7 => k_is)
  (case a_d__q8 => k_is)
  (case l_d__q8 => k_is)
  (case cc_d__q8 => k_is)
  (case kk_d__q8 => k_is)
  (case a_d__q9 => k_is)
  (case l_d__q9 => k_is)
  (case cc_d__q9 => k_is)
  (case kk_d__q9 => k_is)
  (case a_d__q13 => k_is)
  (case l_d__q13 => k_is)
  (case cc_d__q13 => k_is)
  (case kk_d__q13 => k_is)
  (case a_d__q12 => k_is)
  (case l_d__q12 => k_is)
  (case cc_d__q12 => k_is)
  (case kk_d__q12 => k_is)
  (case a_d_law => k_is)
  (case l_d_law => k_is)
  (case cc_d_law => k_is)
  (case kk_d_law => k_is)
  (case g_LETTERS => k_is)
  (case g_LETTERS_TO_MEN => k_is)
  (case g_MOST_LETTERS => k_is)
  (case g_LETTERS_THAT_HANG => k_is)
  (case g_MOST_PERSONS => k_is)
  (case g_MOST_CLASSES => k_is)
  (case z_ValueError => k_is)
  (case z_bool => k_is)
  (case z_enumerate => k_is)
  (case z_int => k_is)
  (case z_isinstance => k_is)
  (case z_len => k_is)
  (case z_list => k_is)
  (case z_range => k_is)
  (case z_sorted => k_is)
#print axioms PySem.Challenge.cw_kinturns_k13_whole_by_how_many_ways_holds
