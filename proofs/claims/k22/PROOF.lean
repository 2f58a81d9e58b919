import PyProof.Rows.All
import Wide.All
import OpenK.AllK
import Wide.FinOn
import Lean
import PyProof.EqAt
import PyProof.EqKinds
import PyProof.TupleCall
import PySem.Challenge.RW_rotafair_k22_who_is_bound

set_option Elab.async false
set_option linter.all false
set_option maxRecDepth 100000
/-! THE HAND LAYER, for ints, bools, texts, own classes, LISTS and tuples (index, slices, in, append, pop ..), calls, loops. Paste it whole ahead of your own text; what your proof does not reach may be deleted. -/
namespace L2
open PySem PySem.Spec PyProof.Rows

/-- a key: an int or a str -/
abbrev Key := Sum Int Str
def keyIs : Key → Value → Bool
  | .inl k, v => Value.isInt k v
  | .inr x, v => Value.isStrOf x v
def keyH (w : World) : Key → Int
  | .inl k => hashInt k
  | .inr x => hashStr w x
theorem keyIs_shape : ∀ {k : Key} {v : Value}, keyIs k v = true → (∃ i t, k = Sum.inl i ∧ v = Value.int i t) ∨ (∃ x t, k = Sum.inr x ∧ v = Value.str x t)
  | .inl i, v, h => by
    obtain ⟨t, e⟩ := Value.isInt_shape (k := i) (v := v) h
    exact .inl ⟨i, t, rfl, e⟩
  | .inr x, v, h => by
    obtain ⟨t, e⟩ := Value.isStrOf_shape (x := x) (v := v) h
    exact .inr ⟨x, t, rfl, e⟩
theorem key_ll (a b : Int) : decide ((Sum.inl a : Key) = Sum.inl b) = (a == b) := by
  by_cases e : a = b
  · subst e; simp
  · have h : ¬ (Sum.inl a : Key) = Sum.inl b := fun q => e (Sum.inl.inj q)
    rw [decide_eq_false h]
    exact (beq_eq_false_iff_ne.mpr e).symm
theorem key_rr (a b : Str) : decide ((Sum.inr a : Key) = Sum.inr b) = decide (a = b) := by
  by_cases e : a = b
  · subst e; simp
  · have h : ¬ (Sum.inr a : Key) = Sum.inr b := fun q => e (Sum.inr.inj q)
    rw [decide_eq_false h, decide_eq_false e]
theorem key_lr (a : Int) (b : Str) : decide ((Sum.inl a : Key) = Sum.inr b) = false := decide_eq_false (fun q => nomatch q)
theorem key_rl (a : Str) (b : Int) : decide ((Sum.inr a : Key) = Sum.inl b) = false := decide_eq_false (fun q => nomatch q)

def mixKind (prog : Program) (w : World) : PySem.KeyKind prog w Key where
  is := keyIs
  hash := keyH w
  inj := fun v a b ha hb => by
    rcases keyIs_shape ha with ⟨i, t, rfl, rfl⟩ | ⟨x, t, rfl, rfl⟩
    · rcases keyIs_shape hb with ⟨j, u, rfl, e⟩ | ⟨y, u, rfl, e⟩
      · injection e with e1 _; rw [e1]
      · exact nomatch e
    · rcases keyIs_shape hb with ⟨j, u, rfl, e⟩ | ⟨y, u, rfl, e⟩
      · exact nomatch e
      · injection e with e1 _; rw [e1]
  byValue := fun k v h => by
    rcases keyIs_shape h with ⟨i, t, rfl, rfl⟩ | ⟨x, t, rfl, rfl⟩ <;> rfl
  pyHash := fun hv h => by
    rcases keyIs_shape hv with ⟨i, t, rfl, rfl⟩ | ⟨x, t, rfl, rfl⟩
    · exact wpAny_pyHash_int h
    · exact wpAny_pyHash_str h
  eqBool := fun hu hv h => by
    rcases keyIs_shape hu with ⟨i, t, rfl, rfl⟩ | ⟨x, t, rfl, rfl⟩
    · rcases keyIs_shape hv with ⟨j, u, rfl, rfl⟩ | ⟨y, u, rfl, rfl⟩
      · rw [key_ll] at h; exact wpAny_eqBool_int h
      · rw [key_lr] at h; exact SeqAt.EqAt.int_str i t y u _ _ _ _ h
    · rcases keyIs_shape hv with ⟨j, u, rfl, rfl⟩ | ⟨y, u, rfl, rfl⟩
      · rw [key_rl] at h; exact SeqAt.EqAt.str_int x t j u _ _ _ _ h
      · rw [key_rr] at h; exact wpAny_eqBool_str h
  «strs» := fun k x t v h => by
    rcases keyIs_shape h with ⟨i, u, rfl, e⟩ | ⟨y, u, rfl, e⟩
    · exact nomatch e
    · injection e with e1 _
      subst e1
      cases v <;> rfl

end L2

namespace L2
open PySem PySem.Spec PyProof.Rows

/-- a value, without the heap -/
inductive V where
  | non | bl (b : Bool) | int (i : Int) | str (x : Str) | byt (b : Array UInt8) | flt (b : UInt64) | ref (a : Addr) | ty (n : String)
  deriving DecidableEq

def RelV : V → Value → Prop
  | .non, u => u = Value.none
  | .bl b, u => u = Value.bool b
  | .int i, u => ∃ t, u = Value.int i t
  | .str x, u => ∃ t, u = Value.str x t
  | .byt b, u => ∃ t, u = Value.bytes b t
  | .flt b, u => ∃ t, u = Value.float b t
  | .ref a, u => u = Value.ref a
  | .ty n, u => u = Value.type n

abbrev Vals : List V → List Value → Prop := Paired RelV
theorem Vals.length {xs : List V} {us : List Value} (r : Vals xs us) : xs.length = us.length := Paired.length r
theorem Vals.get : ∀ {xs : List V} {us : List Value} {i : Nat} {x : V}, Vals xs us → xs[i]? = some x → ∃ u, us[i]? = some u ∧ RelV x u
  | _, _, _, _, .nil, e => by simp at e
  | _, _, 0, _, .cons r _, e => by simp at e; subst e; exact ⟨_, rfl, r⟩
  | _, _, i + 1, x, .cons _ t, e => by
    obtain ⟨u, h1, h2⟩ := Vals.get (i := i) (x := x) t (by simpa using e)
    exact ⟨u, by simpa using h1, h2⟩
theorem Vals.append : ∀ {xs ys : List V} {us ws : List Value}, Vals xs us → Vals ys ws → Vals (xs ++ ys) (us ++ ws)
  | _, _, _, _, .nil, s => s
  | _, _, _, _, .cons r t, s => .cons r (Vals.append t s)
theorem Vals.take : ∀ {xs : List V} {us : List Value} (n : Nat), Vals xs us → Vals (xs.take n) (us.take n)
  | _, _, 0, _ => .nil
  | _, _, _ + 1, .nil => .nil
  | _, _, n + 1, .cons r t => .cons r (Vals.take n t)
theorem Vals.drop : ∀ {xs : List V} {us : List Value} (n : Nat), Vals xs us → Vals (xs.drop n) (us.drop n)
  | _, _, 0, r => r
  | _, _, _ + 1, .nil => .nil
  | _, _, n + 1, .cons _ t => Vals.drop n t
def RelO : Option V → Option Value → Prop
  | some v, some u => RelV v u
  | none, none => True
  | _, _ => False
def KV {κ : Type} : List (κ × V) → List (κ × Value) → Prop := Paired fun (p : κ × V) (q : κ × Value) => p.1 = q.1 ∧ RelV p.2 q.2

/-- a key of a dict (00_mix): an int or a text -/
def kV : Key → V
  | .inl i => .int i
  | .inr x => .str x

/-- what stands at a tracked address -/
inductive HO where
  /-- a list -/
  | lst (xs : List V)
  /-- a tuple (never changes) -/
  | tup (xs : List V)
  /-- a dict whose keys are ints and texts; one whose keys are tuples of ints and texts (the empty one is both) -/
  | dK (kvs : List (Key × V)) | dT (kvs : List (List Key × V))
  /-- a set of ints: its members, its size -/
  | set (S : Int → Bool) (n : Nat)
  /-- an instance of the class at C, its dict at dx, its attributes -/
  | ins (C dx : Addr) (fs : List (Str × V))
  /-- the dict of the instance at x -/
  | own (x : Addr)
  /-- the dict of an exception -/
  | xd (fs : List (Str × V))
  /-- a bound method, f of x -/
  | met (f x : Addr)
  /-- a range object lo, lo + 1, .. below hi -/
  | rng (lo hi : Int)
  /-- a thing that is known to the object (the script; a dict while a loop walks it): read, never written while it is so -/
  | frz (o : Obj) (u : HO)
  /-- a code object's table -/
  | tbl (ps : Array Value)
  /-- any other thing, by what is true of its one object (a def of one's own: SetO a S n := HO.ext fun h => ..) -/
  | ext (φ : Heap → Prop)

abbrev Hp := Addr → Option HO
def upd (H : Hp) (a : Addr) (o : HO) : Hp := fun b => if b = a then some o else H b
theorem upd_same {H : Hp} {a : Addr} {o : HO} : upd H a o a = some o := by unfold upd; rw [if_pos rfl]
theorem upd_ne {H : Hp} {a b : Addr} {o : HO} (h : b ≠ a) : upd H a o b = H b := by unfold upd; rw [if_neg h]
/-- two objects of different content stand apart -/
theorem ne_of {H : Hp} {a b : Addr} {o u : HO} (h : H a = some o) (h' : H b = some u) (d : o ≠ u) : a ≠ b := by
  intro e; subst e; rw [h] at h'; exact d (Option.some.inj h')
theorem ne_of_none {H : Hp} {a b : Addr} {o : HO} (h : H a = some o) (h' : H b = none) : a ≠ b := by
  intro e; subst e; rw [h] at h'; cases h'

section
variable (P : Program) (w : World)
def ObjOk (H : Hp) (h : Heap) (a : Addr) : HO → Prop
  | .lst xs => xs.length ≤ sizeLine ∧ ∃ (its : List Value) (n : Nat), Vals xs its ∧ h.get? a = some { cls := .type "list", data := .seq its.toArray n }
  | .tup xs => xs.length ≤ sizeLine ∧ ∃ its : List Value, Vals xs its ∧ IsTup h a its.toArray
  | .dK kvs => kvs.length ≤ sizeLine ∧ (a == sysModules) = false ∧ ∃ vs, KV kvs vs ∧ h.DictOf (mixKind P w) a vs
  | .dT kvs => kvs.length ≤ sizeLine ∧ (a == sysModules) = false ∧ ∃ xs : List (List Key × Addr × Value),
      Paired (fun (p : List Key × V) (q : List Key × Addr × Value) => p.1 = q.1 ∧ H q.2.1 = some (.tup (p.1.map kV)) ∧ RelV p.2 q.2.2) kvs xs ∧
      ∃ o es ep, h.get? a = some o ∧ o.ExactDict ∧ o.data = .dict es ep ∧ es.toList = xs.map (entryOfKey (tupleKind (mixKind P w))) ∧ (xs.map (·.1)).Nodup
  | .set S n => h.SetOf (intKind P w) a S n
  | .ins C dx fs => H dx = some (.own a) ∧ fs.length ≤ 1000 ∧ dx ≠ a ∧ h.get? a = some (PySem.W.instObj C dx) ∧
      ∃ mA, h.Ns1 dx mA ∧ (∀ f, RelO (fs.lookup f) (mA f)) ∧ PySem.Within mA (fs.map (·.1))
  | .own _ => ∃ o, h.get? a = some o
  | .xd fs => ∃ mA, h.Ns1 a mA ∧ ∀ f, RelO (fs.lookup f) (mA f)
  | .rng lo hi => ∃ t u v, h.get? a = some { cls := .type "range", data := .fields #[.int lo t, .int hi u, .int 1 v] }
  | .frz o u => h.get? a = some o ∧ ObjOk H h a u
  | .tbl ps => h.get? a = some { cls := .none, data := .fields ps }
  | .met f x => h.get? a = some (PySem.W.methodObj (.ref f) (.ref x))
  | .ext φ => φ h ∧ (∃ o, h.get? a = some o) ∧ ∀ h1 h2 : Heap, φ h1 → (∀ o, h1.get? a = some o → h2.get? a = some o) → φ h2
/-- the abstract heap is held -/
def HOk (H : Hp) (h : Heap) : Prop := ∀ a o, H a = some o → ObjOk P w H h a o
end

section
variable {P : Program} {w : World} {H H' : Hp} {h h' : Heap} {a : Addr} {o : HO}
theorem ObjOk.lt (x : ObjOk P w H h a o) : a < h.objs.size := by
  cases o with
  | lst xs => obtain ⟨_, _, _, _, e⟩ := x; exact Heap.lt_size e
  | tup xs => obtain ⟨_, _, _, p⟩ := x; exact p.lt
  | dK kvs => obtain ⟨_, _, _, _, o, _, _, e, _⟩ := x; exact Heap.lt_size e
  | dT kvs => obtain ⟨_, _, _, _, o, _, _, e, _⟩ := x; exact Heap.lt_size e
  | set S n => obtain ⟨o, _, _, _, e, _⟩ := x; exact Heap.lt_size e
  | ins C dx fs => obtain ⟨_, _, _, e, _⟩ := x; exact Heap.lt_size e
  | own y => obtain ⟨_, e⟩ := x; exact Heap.lt_size e
  | xd fs => obtain ⟨_, ⟨_, _, _, e, _⟩, _⟩ := x; exact Heap.lt_size e
  | rng lo hi => obtain ⟨_, _, _, e⟩ := x; exact Heap.lt_size e
  | frz ob u => obtain ⟨e, _⟩ := x; exact Heap.lt_size e
  | tbl ps => exact Heap.lt_size (show h.get? a = some _ from x)
  | met f y => exact Heap.lt_size (show h.get? a = some _ from x)
  | ext φ => obtain ⟨_, ⟨_, e⟩, _⟩ := x; exact Heap.lt_size e
theorem Paired.mapP {α β : Type} {F G : α → β → Prop} : ∀ {l₁ : List α} {l₂ : List β}, Paired F l₁ l₂ → (∀ a b, F a b → G a b) → Paired G l₁ l₂
  | _, _, .nil, _ => .nil
  | _, _, .cons r t, f => .cons (f _ _ r) (Paired.mapP t f)
/-- what an object's description leans on: its own object, its own dict, the tuples -/
theorem ObjOk.stay (x : ObjOk P w H h a o) (k : ∀ b u, (b = a ∨ H b = some (.own a)) → h.get? b = some u → h'.get? b = some u)
    (ho : ∀ b, H b = some (.own a) → H' b = some (.own a)) (ht : ∀ b xs, H b = some (.tup xs) → H' b = some (.tup xs)) : ObjOk P w H' h' a o := by
  induction o with
  | lst xs => obtain ⟨z, its, n, r, e⟩ := x; exact ⟨z, its, n, r, k _ _ (.inl rfl) e⟩
  | tup xs => obtain ⟨z, its, r, ob, e, c⟩ := x; exact ⟨z, its, r, ob, k _ _ (.inl rfl) e, c⟩
  | dK kvs => obtain ⟨z, y, vs, r, ob, es, ep, e, c⟩ := x; exact ⟨z, y, vs, r, ob, es, ep, k _ _ (.inl rfl) e, c⟩
  | dT kvs =>
    obtain ⟨z, y, xs, r, ob, es, ep, e, c⟩ := x
    exact ⟨z, y, xs, Paired.mapP r fun p q z => ⟨z.1, ht _ _ z.2.1, z.2.2⟩, ob, es, ep, k _ _ (.inl rfl) e, c⟩
  | set S n => obtain ⟨ob, es, ep, t, e, c⟩ := x; exact ⟨ob, es, ep, t, k _ _ (.inl rfl) e, c⟩
  | ins C dx fs =>
    obtain ⟨d, z, ne, e, mA, ⟨od, es, ep, e2, c⟩, r⟩ := x
    exact ⟨ho _ d, z, ne, k _ _ (.inl rfl) e, mA, ⟨od, es, ep, k _ _ (.inr d) e2, c⟩, r⟩
  | own y => obtain ⟨ob, e⟩ := x; exact ⟨ob, k _ _ (.inl rfl) e⟩
  | xd fs => obtain ⟨mA, ⟨od, es, ep, e, c⟩, r⟩ := x; exact ⟨mA, ⟨od, es, ep, k _ _ (.inl rfl) e, c⟩, r⟩
  | rng lo hi => obtain ⟨t, u, v, e⟩ := x; exact ⟨t, u, v, k _ _ (.inl rfl) e⟩
  | frz ob u ih => obtain ⟨e, q⟩ := x; exact ⟨k _ _ (.inl rfl) e, ih q⟩
  | tbl ps =>
    have e : h.get? a = some { cls := .none, data := .fields ps } := x
    show h'.get? a = some { cls := .none, data := .fields ps }
    exact k a _ (.inl rfl) e
  | met f y =>
    have e : h.get? a = some (PySem.W.methodObj (.ref f) (.ref y)) := x
    show h'.get? a = some (PySem.W.methodObj (.ref f) (.ref y))
    exact k a _ (.inl rfl) e
  | ext φ => obtain ⟨p, ⟨o, e⟩, st⟩ := x; exact ⟨st _ _ p fun o q => k _ _ (.inl rfl) q, ⟨o, k _ _ (.inl rfl) e⟩, st⟩
theorem HOk.lt (x : HOk P w H h) (e : H a = some o) : a < h.objs.size := (x a o e).lt
theorem HOk.fresh (x : HOk P w H h) (e : h.objs.size ≤ a) : H a = none := by
  cases q : H a with
  | none => rfl
  | some u => exact absurd (Nat.lt_of_lt_of_le (x.lt q) e) (Nat.lt_irrefl _)
/-- every object of the heap is kept -/
theorem HOk.kept (x : HOk P w H h) (k : ∀ b u, h.get? b = some u → h'.get? b = some u) : HOk P w H h' := fun a o e =>
  (x a o e).stay (fun b u _ q => k b u q) (fun _ q => q) fun _ _ q => q
/-- a new object is laid and tracked -/
theorem HOk.laid (x : HOk P w H h) (k : ∀ b u, h.get? b = some u → h'.get? b = some u) (hp : h.objs.size ≤ a) (new : ObjOk P w (upd H a o) h' a o) : HOk P w (upd H a o) h' := fun b u e => by
  have hn := x.fresh hp
  by_cases hb : b = a
  · subst hb; rw [upd_same] at e; cases e; exact new
  · rw [upd_ne hb] at e
    exact (x b u e).stay (fun c v _ q => k c v q) (fun c q => by rw [upd_ne (ne_of_none q hn)]; exact q) fun c xs q => by rw [upd_ne (ne_of_none q hn)]; exact q
end

/-- what may be read as u: it is u, or a known u -/
def Rd (H : Hp) (a : Addr) (u : HO) : Prop := H a = some u ∨ ∃ o, H a = some (.frz o u)
theorem Rd.ok {P : Program} {w : World} {H : Hp} {h : Heap} {a : Addr} {u : HO} (r : Rd H a u) (x : HOk P w H h) : ObjOk P w H h a u := by
  rcases r with r | ⟨o, r⟩
  · exact x a u r
  · obtain ⟨_, q⟩ := x a _ r
    exact q
/-- what may be written -/
def Mut : Option HO → Prop
  | some (.lst _) => True
  | some (.dK _) => True
  | some (.dT _) => True
  | some (.set _ _) => True
  | some (.ins _ _ _) => True
  | some (.ext _) => True
  | _ => False
section
variable {P : Program} {w : World} {H : Hp} {h h' : Heap} {x e : Addr} {o' : HO}
/-- the object at e is changed: x itself, or the dict of the instance x -/
theorem HOk.write (ok : HOk P w H h) (mu : Mut (H x)) (he : e = x ∨ H e = some (.own x)) (k : ∀ b u, b ≠ e → h.get? b = some u → h'.get? b = some u) (heo : ∃ u, h'.get? e = some u)
    (new : ObjOk P w (upd H x o') h' x o') : HOk P w (upd H x o') h' := fun b u q => by
  have nown : ∀ c y, H c = some (.own y) → c ≠ x := fun c y r z => by subst z; rw [r] at mu; exact mu
  have ntup : ∀ c xs, H c = some (.tup xs) → c ≠ x := fun c xs r z => by subst z; rw [r] at mu; exact mu
  by_cases hb : b = x
  · subst hb; rw [upd_same] at q; cases q; exact new
  · rw [upd_ne hb] at q
    by_cases hbe : b = e
    · have q' : H b = some (.own x) := by
        rcases he with z | z
        · exact absurd (hbe.trans z) hb
        · rw [hbe]; exact z
      rw [q] at q'; cases q'
      obtain ⟨v, hv⟩ := heo
      exact ⟨v, by rw [hbe]; exact hv⟩
    · refine (ok b u q).stay (fun c v hc r => k c v ?_ r) (fun c r => by rw [upd_ne (nown c b r)]; exact r) fun c xs r => by rw [upd_ne (ntup c xs r)]; exact r
      rcases hc with rfl | hc
      · exact hbe
      · rintro rfl
        rcases he with z | z
        · exact nown c b hc z
        · rw [hc] at z; cases z; exact hb rfl
end

/-! ### kept unless tracked; of the frames at fs (the callers') the slots may change (an exception that passes writes there); of the records at ex (iterators) nothing is said -/
structure Un (fs ex : List Addr) (H H' : Hp) (h h' : Heap) : Prop where
  keep : ∀ b o, h.get? b = some o → H b = none → b ∉ fs → b ∉ ex → h'.get? b = some o
  slot : ∀ b o, h.get? b = some o → H b = none → b ∈ fs → b ∉ ex → ∃ sl, h'.get? b = some { o with slots := sl }
  free : ∀ b o, h.get? b = some o → H b = none → b ∉ ex → H' b = none
  there : ∀ b o, h.get? b = some o → b ∉ ex → ∃ o', h'.get? b = some o'
  tups : ∀ b xs, H b = some (.tup xs) → H' b = some (.tup xs)
  frzs : ∀ b o u, H b = some (.frz o u) → H' b = some (.frz o u)
  tbls : ∀ b ps, H b = some (.tbl ps) → ∃ more, H' b = some (.tbl (ps ++ more))
section
variable {fs fs' ex ex' : List Addr} {H H1 H2 : Hp} {h h1 h2 h' : Heap} {a x e : Addr} {o : HO}
theorem Un.any (u : Un fs ex H H1 h h1) {b : Addr} {ob : Obj} (q : h.get? b = some ob) (n : H b = none) (hx : b ∉ ex) : ∃ sl, h1.get? b = some { ob with slots := sl } := by
  by_cases hb : b ∈ fs
  · exact u.slot b ob q n hb hx
  · exact ⟨ob.slots, u.keep b ob q n hb hx⟩
theorem Un.kept (k : ∀ b u, h.get? b = some u → h'.get? b = some u) : Un fs ex H H h h' :=
  ⟨fun b ob q _ _ _ => k b ob q, fun b ob q _ _ _ => ⟨ob.slots, k b ob q⟩, fun _ _ _ n _ => n, fun b ob q _ => ⟨ob, k b ob q⟩, fun _ _ q => q, fun _ _ _ q => q, fun _ ps q => ⟨#[], by rw [q]; simp⟩⟩
theorem Un.refl : Un fs ex H H h h := Un.kept fun _ _ q => q
theorem Un.laid (k : ∀ b u, h.get? b = some u → h'.get? b = some u) (hp : h.objs.size ≤ a) (hn : H a = none) : Un fs ex H (upd H a o) h h' where
  keep := fun b u q _ _ _ => k b u q
  slot := fun b u q _ _ _ => ⟨u.slots, k b u q⟩
  free := fun b u q n _ => by rw [upd_ne (Nat.ne_of_lt (Nat.lt_of_lt_of_le (Heap.lt_size q) hp))]; exact n
  there := fun b u q _ => ⟨u, k b u q⟩
  tups := fun b xs q => by rw [upd_ne (ne_of_none q hn)]; exact q
  frzs := fun b u xs q => by rw [upd_ne (ne_of_none q hn)]; exact q
  tbls := fun b ps q => ⟨#[], by rw [upd_ne (ne_of_none q hn), q]; simp⟩
theorem Un.write (mu : Mut (H x)) (he : e = x ∨ H e = some (.own x)) (k : ∀ b u, b ≠ e → h.get? b = some u → h'.get? b = some u) (heo : ∃ u, h'.get? e = some u) : Un fs ex H (upd H x o) h h' := by
  have hx : ∀ b, H b = none → b ≠ x := fun b n z => by subst z; rw [n] at mu; exact mu
  have hb : ∀ b, H b = none → b ≠ e := fun b n z => by
    subst z
    rcases he with r | r
    · exact hx b n r
    · rw [n] at r; cases r
  have hm : ∀ b u, H b = some u → ¬ Mut (some u) → b ≠ x := fun b u q nm z => by subst z; rw [q] at mu; exact nm mu
  refine ⟨fun b u q n _ _ => k b u (hb b n) q, fun b u q n _ _ => ⟨u.slots, k b u (hb b n) q⟩, fun b u q n _ => by rw [upd_ne (hx b n)]; exact n, fun b u q _ => ?_,
    fun b xs q => by rw [upd_ne (hm b _ q fun z => z)]; exact q, fun b u xs q => by rw [upd_ne (hm b _ q fun z => z)]; exact q, fun b ps q => ⟨#[], by rw [upd_ne (hm b _ q fun z => z), q]; simp⟩⟩
  by_cases hbe : b = e
  · subst hbe; exact heo
  · exact ⟨u, k b u hbe q⟩
end

/-! ### the heap without what is tracked -/
def trk (h : Heap) (H : Hp) : List Addr := (List.range h.objs.size).filter fun a => (H a).isSome
def hidT (h : Heap) (H : Hp) : Heap := PySem.W.hideAll h (trk h H)
theorem hidT_size (h : Heap) (H : Hp) : (hidT h H).objs.size = h.objs.size := PySem.W.hideAll_size _ _
theorem hidT_get {h : Heap} {H : Hp} {b : Addr} {o : Obj} (e : h.get? b = some o) (n : H b = none) : (hidT h H).get? b = some o :=
  PySem.W.hideAll_get _ e fun hm => by
    have q : (H b).isSome = true := (List.mem_filter.mp hm).2
    rw [n] at q; simp at q
theorem of_hidT {h : Heap} {H : Hp} {b : Addr} {o : Obj} (e : (hidT h H).get? b = some o) : h.get? b = some o ∧ H b = none := by
  have e' : h.get? b = some o := PySem.W.of_hideAll (trk h H) e
  refine ⟨e', ?_⟩
  cases q : H b with
  | none => rfl
  | some x =>
    have hm : b ∈ trk h H := List.mem_filter.mpr ⟨List.mem_range.mpr (Heap.lt_size e'), by simp [q]⟩
    have z : (hidT h H).get? b = none := PySem.W.hideAll_none (trk h H) hm
    rw [z] at e; cases e

/-! ### OpenK's ledger, filled with every new object but one -/
end L2

namespace L2
open PySem PySem.Spec PyProof.Rows

/-- the module's facts, over the base: the heap at the law's entry without what is tracked there -/
structure Mod (K : PySem.W.Frag) (mg : Str → Option Value) (base : Heap) : Prop where
  kin : K.In base
  glob : base.Ns mainGlobals mg
  blt : ∃ mb, base.Ns builtinsNs mb ∧ ∀ x : Str, x ≠ "__name__" → mb x = bootBuiltins x
  nolimit : base.NoLimit

/-- the context: a def's body (or a comprehension's block) running. base: fixed through the whole law; s₀, H₀: the entry; outer: the frames whose slots others may change (a def's callers); stack: all frames that run;
   ex: iterators that were made ahead of the entry and are walked here (a comprehension's); fn: the names whose cells were made at the entry (a def: all; a comprehension's block: its own); calm: not within an except suite; pn: pins that every state bears; xe: what is wanted of an exception that leaves the code -/
structure Cx where
  prog : Program
  w : World
  K : PySem.W.Frag
  mg : Str → Option Value
  base : Heap
  A : Around
  N : List Str
  s₀ : Shared
  H₀ : Hp
  env : Env
  outer : List Env
  stack : List Env
  ex : List Addr
  fn : Str → Bool
  calm : Bool
  pn : List (Addr × Obj)
  xe : Value → Shared → Prop
/-- the callers' frames -/
def frs (l : List Env) : List Addr := l.filterMap (·.frame)
abbrev Cx.fs (X : Cx) : List Addr := frs X.outer

def Vis (sc : Scope) (x : Str) : Prop := sc.names.lookup x = some .local ∨ sc.names.lookup x = some .cell ∨ sc.names.lookup x = some .free
def Loc (sc : Scope) (x : Str) : Prop := sc.names.lookup x = some .local ∨ sc.names.lookup x = some .cell
def Look (env : Env) (h : Heap) (m : Str → Option Value) (x : Str) (u : Value) : Prop :=
  (env.kindOf x = some .local ∧ m x = some u) ∨ ((env.kindOf x = some .cell ∨ env.kindOf x = some .free) ∧ ∃ c, env.cells.lookup x = some c ∧ h.IsCell c (some u))

structure Cx.Ok (X : Cx) : Prop where
  mod : Mod X.K X.mg X.base
  kind : X.env.scope.kind = .function
  glob : X.env.globals = mainGlobals
  blt : X.env.builtins = builtinsNs
  above : X.s₀.heap.objs.size ≤ X.env.locals
  inj : ∀ x y c, X.env.cells.lookup x = some c → X.env.cells.lookup y = some c → x = y
  has : ∀ x, (X.env.kindOf x = some .cell ∨ X.env.kindOf x = some .free) → ∃ c, X.env.cells.lookup x = some c
  cab : ∀ x c, X.fn x = true → X.env.cells.lookup x = some c → X.s₀.heap.objs.size ≤ c
  hd : X.calm = true → X.A.handled = none
  frames : X.A.frames = some X.stack
  stk : X.stack = X.outer ∨ (X.stack = X.env :: X.outer ∧ X.env.frame = some X.env.locals)
  exf : ∀ b ∈ X.ex, b ≠ X.env.locals ∧ ∀ x c, X.env.cells.lookup x = some c → c ≠ b
  bs : ∀ b o, X.base.get? b = some o → X.s₀.heap.get? b = some o ∧ X.H₀ b = none
  bsz : X.base.objs.size ≤ X.s₀.heap.objs.size
  noex : ∀ b o, X.base.get? b = some o → b ∉ X.ex
  exfs : ∀ b ∈ X.ex, b ∉ X.fs
  funs : X.s₀.heap.FunFrames X.base X.outer
  frf : ∀ b ∈ X.fs, X.H₀ b = none

structure Inv (X : Cx) (pins : List (Addr × Obj)) (σ : List (Option V)) (H : Hp) (s : Shared) : Prop where
  ok : X.Ok
  os : s.os = X.s₀.os
  bare : AllBare s.gens
  base : Un X.fs X.ex X.H₀ H X.s₀.heap s.heap
  loc : ∃ m, s.heap.Ns X.env.locals m ∧ ∀ (i : Nat) (x : Str) (v : V), X.N[i]? = some x → σ[i]? = some (some v) → Vis X.env.scope x → ∃ u, RelV v u ∧ Look X.env s.heap m x u
  cell : ∀ x c, X.env.cells.lookup x = some c → ∃ v, s.heap.IsCell c v
  free : H X.env.locals = none
  freeC : ∀ x c, X.env.cells.lookup x = some c → H c = none
  pin : ∀ p ∈ X.pn ++ pins, s.heap.get? p.1 = some p.2 ∧ H p.1 = none ∧ p.1 ≠ X.env.locals ∧ p.1 ∉ X.fs ∧ ∀ v, p.2.data ≠ .cell v
  hok : HOk X.prog X.w H s.heap
  len : σ.length = X.N.length

section
variable {X : Cx} {pins : List (Addr × Obj)} {σ : List (Option V)} {H H' : Hp} {s : Shared} {h' : Heap}

theorem Cx.Ok.nofr (ok : X.Ok) {b : Addr} {o : Obj} (e : X.base.get? b = some o) : b ∉ X.fs := fun hb => by
  have := (ok.funs.mem hb).1
  rw [e] at this; cases this
theorem Inv.bs (I : Inv X pins σ H s) : ∀ b o, X.base.get? b = some o → s.heap.get? b = some o ∧ H b = none := fun b o e =>
  ⟨I.base.keep b o (I.ok.bs b o e).1 (I.ok.bs b o e).2 (I.ok.nofr e) (I.ok.noex b o e), I.base.free b o (I.ok.bs b o e).1 (I.ok.bs b o e).2 (I.ok.noex b o e)⟩
theorem Inv.bk (I : Inv X pins σ H s) : ∀ b o, X.base.get? b = some o → s.heap.get? b = some o := fun b o e => (I.bs b o e).1
theorem Inv.mod (I : Inv X pins σ H s) : Mod X.K X.mg X.base := I.ok.mod
theorem Inv.kIn (I : Inv X pins σ H s) : X.K.In s.heap := I.ok.mod.kin.keeps I.bk
theorem Inv.lt (I : Inv X pins σ H s) : X.env.locals < s.heap.objs.size := let ⟨_, hn, _⟩ := I.loc; hn.lt
theorem Inv.sz (I : Inv X pins σ H s) : X.s₀.heap.objs.size ≤ s.heap.objs.size := Nat.le_trans I.ok.above (Nat.le_of_lt I.lt)
theorem Inv.nofs (I : Inv X pins σ H s) {a : Addr} (h : s.heap.objs.size ≤ a) : a ∉ X.fs := fun hb => by
  obtain ⟨_, o, ho, _⟩ := I.ok.funs.mem hb
  exact absurd (Nat.lt_of_lt_of_le (Heap.lt_size ho) (Nat.le_trans I.sz h)) (Nat.lt_irrefl _)
theorem Inv.cne (I : Inv X pins σ H s) : ∀ x c, X.env.cells.lookup x = some c → c ≠ X.env.locals := fun x c e z => by
  obtain ⟨v, o, ho, hd⟩ := I.cell x c e
  obtain ⟨m, ⟨o', es, ep, ho', hd', _⟩, _⟩ := I.loc
  rw [z, ho'] at ho; cases ho; rw [hd'] at hd; cases hd
theorem Inv.funs (I : Inv X pins σ H s) : s.heap.FunFrames X.base X.outer := by
  have all : ∀ (l : List Env), (∀ b ∈ frs l, b ∈ X.fs) → X.s₀.heap.FunFrames X.base l → s.heap.FunFrames X.base l := by
    intro l
    induction l with
    | nil => intro _ _; trivial
    | cons env r ih =>
      intro hs hl
      obtain ⟨hk, ⟨L, o, hf, hn, ho, hd⟩, hr⟩ := hl
      have hL : L ∈ X.fs := hs L (by unfold frs; rw [List.filterMap_cons, hf]; exact List.mem_cons_self)
      obtain ⟨sl, e⟩ := I.base.slot L o ho (I.ok.frf L hL) hL fun z => I.ok.exfs L z hL
      exact ⟨hk, ⟨L, _, hf, hn, e, hd⟩, ih (fun b hb => hs b (by unfold frs; rw [List.filterMap_cons, hf]; exact List.mem_cons_of_mem _ hb)) hr⟩
  exact all X.outer (fun _ hb => hb) I.ok.funs

/-- the frames that run, for a call -/
theorem Inv.stack (I : Inv X pins σ H s) : s.heap.FunFrames X.base X.stack := by
  rcases I.ok.stk with e | ⟨e, hf⟩
  · rw [e]; exact I.funs
  · rw [e]
    obtain ⟨m, hn, _⟩ := I.loc
    refine .cons (by rw [I.ok.kind]; decide) hf hn ?_ I.funs
    exact Heap.get?_none_of_le (Nat.le_trans I.ok.bsz I.ok.above)
theorem Inv.stkSub (I : Inv X pins σ H s) : ∀ b ∈ frs X.stack, b ∈ X.env.locals :: X.fs := fun b hb => by
  rcases I.ok.stk with e | ⟨e, hf⟩
  · rw [e] at hb; exact List.mem_cons_of_mem _ hb
  · rw [e] at hb
    unfold frs at hb
    rw [List.filterMap_cons, hf] at hb
    exact hb
theorem Inv.stkFree (I : Inv X pins σ H s) : ∀ b ∈ frs X.stack, H b = none := fun b hb => by
  rcases List.mem_cons.mp (I.stkSub b hb) with e | hb
  · rw [e]; exact I.free
  · obtain ⟨_, o, ho, _⟩ := I.ok.funs.mem hb
    exact I.base.free b o ho (I.ok.frf b hb) fun z => I.ok.exfs b z hb

/-- THE STEP: the untracked objects but the frame and the records at ch are kept (the callers' frames up to slots), the frame's map is kept, the new abstract heap is held -/
theorem Inv.step {g' : Array GenState} {t' : Nat} {d' : Drawn} {ch : List Addr} (I : Inv X pins σ H s)
    (hch : ∀ b ∈ ch, (b ∈ X.ex ∨ X.s₀.heap.objs.size ≤ b) ∧ b ≠ X.env.locals ∧ (∀ x c, X.env.cells.lookup x = some c → c ≠ b) ∧ ∀ p ∈ X.pn ++ pins, p.1 ≠ b)
    (keep : ∀ b o, b ≠ X.env.locals → b ∉ X.fs → b ∉ ch → s.heap.get? b = some o → H b = none → h'.get? b = some o)
    (slot : ∀ b o, b ≠ X.env.locals → b ∈ X.fs → b ∉ ch → s.heap.get? b = some o → H b = none → ∃ sl, h'.get? b = some { o with slots := sl }) (free : ∀ b o, b ∉ ch → s.heap.get? b = some o → H b = none → H' b = none)
    (there : ∀ b o, b ∉ ch → s.heap.get? b = some o → ∃ o', h'.get? b = some o')
    (tups : ∀ b xs, H b = some (.tup xs) → H' b = some (.tup xs)) (frzs : ∀ b o u, H b = some (.frz o u) → H' b = some (.frz o u)) (tbls : ∀ b ps, H b = some (.tbl ps) → ∃ more, H' b = some (.tbl (ps ++ more)))
    (ns : ∀ m, s.heap.Ns X.env.locals m → h'.Ns X.env.locals m) (hok : HOk X.prog X.w H' h') (hg : AllBare g') :
    Inv X pins σ H' { s with heap := h', gens := g', drawn := d', toks := t' } := by
  have neL : ∀ b o, X.s₀.heap.get? b = some o → b ≠ X.env.locals := fun b o e => Nat.ne_of_lt (Nat.lt_of_lt_of_le (Heap.lt_size e) I.ok.above)
  have neC : ∀ b o, X.s₀.heap.get? b = some o → b ∉ X.ex → b ∉ ch := fun b o e hx hb => by
    rcases (hch b hb).1 with z | z
    · exact hx z
    · exact absurd (Nat.lt_of_lt_of_le (Heap.lt_size e) z) (Nat.lt_irrefl _)
  have cellK : ∀ x c, X.env.cells.lookup x = some c → ∀ v, s.heap.IsCell c v → h'.IsCell c v := fun x c e v ⟨o, ho, hd⟩ => by
    have nch : c ∉ ch := fun z => (hch c z).2.2.1 x c e rfl
    by_cases hc : c ∈ X.fs
    · obtain ⟨sl, q⟩ := slot c o (I.cne x c e) hc nch ho (I.freeC x c e)
      exact ⟨_, q, hd⟩
    · exact ⟨o, keep c o (I.cne x c e) hc nch ho (I.freeC x c e), hd⟩
  refine ⟨I.ok, I.os, hg, ⟨fun b o e n hb hx => ?_, fun b o e n hb hx => ?_, fun b o e n hx => ?_, fun b o e hx => ?_, fun b xs e => tups b xs (I.base.tups b xs e), fun b o xs e => frzs b o xs (I.base.frzs b o xs e), fun b ps e => ?_⟩, ?_, fun x c e => ?_, ?_, fun x c e => ?_, fun p hp => ?_, hok, I.len⟩
  · exact keep b o (neL b o e) hb (neC b o e hx) (I.base.keep b o e n hb hx) (I.base.free b o e n hx)
  · obtain ⟨sl, e1⟩ := I.base.slot b o e n hb hx
    obtain ⟨sl', e2⟩ := slot b _ (neL b o e) hb (neC b o e hx) e1 (I.base.free b o e n hx)
    exact ⟨sl', e2⟩
  · obtain ⟨o', e1⟩ := I.base.there b o e hx
    exact free b o' (neC b o e hx) e1 (I.base.free b o e n hx)
  · obtain ⟨o', e1⟩ := I.base.there b o e hx
    exact there b o' (neC b o e hx) e1
  · obtain ⟨m1, e1⟩ := I.base.tbls b ps e
    obtain ⟨m2, e2⟩ := tbls b _ e1
    exact ⟨m1 ++ m2, by rw [e2, Array.append_assoc]⟩
  · obtain ⟨m, hn, hl⟩ := I.loc
    refine ⟨m, ns m hn, fun i x v e1 e2 e3 => ?_⟩
    obtain ⟨u, r, l⟩ := hl i x v e1 e2 e3
    refine ⟨u, r, ?_⟩
    rcases l with l | ⟨k, c, e, z⟩
    · exact .inl l
    · exact .inr ⟨k, c, e, cellK x c e _ z⟩
  · obtain ⟨v, z⟩ := I.cell x c e
    exact ⟨v, cellK x c e v z⟩
  · obtain ⟨m, ⟨o, _, _, ho, _⟩, _⟩ := I.loc
    exact free _ o (fun z => (hch _ z).2.1 rfl) ho I.free
  · obtain ⟨v, o, ho, hd⟩ := I.cell x c e
    exact free c o (fun z => (hch c z).2.2.1 x c e rfl) ho (I.freeC x c e)
  · obtain ⟨e, n, ne, nf, d⟩ := I.pin p hp
    have nch : p.1 ∉ ch := fun z => (hch p.1 z).2.2.2 p hp rfl
    exact ⟨keep p.1 p.2 ne nf nch e n, free p.1 p.2 nch e n, ne, nf, d⟩
/-- .. where the frame's own object is kept too -/
theorem Inv.un {t' : Nat} (I : Inv X pins σ H s) (u : Un X.fs [] H H' s.heap h') (hok : HOk X.prog X.w H' h') : Inv X pins σ H' { s with heap := h', toks := t' } := by
  obtain ⟨m, ⟨o, es, ep, ho, r⟩, _⟩ := id I.loc
  obtain ⟨sl, hL⟩ := u.any ho I.free (by simp)
  exact I.step (g' := s.gens) (d' := s.drawn) (ch := []) (fun _ z => nomatch z) (fun b o _ hb _ e n => u.keep b o e n hb (by simp)) (fun b o _ hb _ e n => u.slot b o e n hb (by simp)) (fun b o _ e n => u.free b o e n (by simp)) (fun b o _ e => u.there b o e (by simp)) u.tups u.frzs u.tbls (fun m' hm => by
    obtain ⟨o', es', ep', ho', r'⟩ := hm
    rw [ho] at ho'; cases ho'
    exact ⟨_, es', ep', hL, r'⟩) hok I.bare
/-- behind a call (or a comprehension's block): the slots of this frame may have changed too, the records at ch may have turned -/
theorem Inv.call {g' : Array GenState} {t' : Nat} {d' : Drawn} {ch : List Addr} (I : Inv X pins σ H s) (u : Un (frs X.stack) ch H H' s.heap h') (hok : HOk X.prog X.w H' h') (hg : AllBare g')
    (hch : ∀ b ∈ ch, (b ∈ X.ex ∨ X.s₀.heap.objs.size ≤ b) ∧ b ≠ X.env.locals ∧ (∀ x c, X.env.cells.lookup x = some c → c ≠ b) ∧ ∀ p ∈ X.pn ++ pins, p.1 ≠ b) :
    Inv X pins σ H' { s with heap := h', gens := g', drawn := d', toks := t' } := by
  obtain ⟨m, ⟨o, es, ep, ho, r⟩, _⟩ := id I.loc
  obtain ⟨sl, hL⟩ := u.any ho I.free fun z => (hch _ z).2.1 rfl
  exact I.step (ch := ch) hch (fun b o hL hb hc e n => u.keep b o e n (fun z => (List.mem_cons.mp (I.stkSub b z)).elim hL hb) hc) (fun b o _ _ hc e n => u.any e n hc) (fun b o hc e n => u.free b o e n hc) (fun b o hc e => u.there b o e hc) u.tups u.frzs u.tbls (fun m' hm => by
    obtain ⟨o', es', ep', ho', r'⟩ := hm
    rw [ho] at ho'; cases ho'
    exact ⟨_, es', ep', hL, r'⟩) hok hg
/-- an untracked record of ours (an iterator) has turned -/
theorem Inv.turned {t' : Nat} {it : Addr} (I : Inv X pins σ H s) (k : ∀ b o, b ≠ it → s.heap.get? b = some o → h'.get? b = some o) (hn : H it = none) (hL : it ≠ X.env.locals)
    (h1 : it ∈ X.ex ∨ X.s₀.heap.objs.size ≤ it) (h2 : ∀ x c, X.env.cells.lookup x = some c → c ≠ it) (h3 : ∀ p ∈ X.pn ++ pins, p.1 ≠ it) : Inv X pins σ H { s with heap := h', toks := t' } := by
  have nit : ∀ b u, H b = some u → b ≠ it := fun b u e z => by rw [z, hn] at e; cases e
  refine I.step (g' := s.gens) (d' := s.drawn) (ch := [it]) (fun b hb => ?_) (fun b o _ _ hc e _ => k b o (fun z => hc (by simp [z])) e) (fun b o _ _ hc e _ => ⟨o.slots, k b o (fun z => hc (by simp [z])) e⟩) (fun _ _ _ _ n => n)
    (fun b o hc e => ⟨o, k b o (fun z => hc (by simp [z])) e⟩) (fun _ _ e => e) (fun _ _ _ e => e) (fun b ps e => ⟨#[], by rw [e]; simp⟩) (fun m hm => ?_) (fun b u e => ?_) I.bare
  · have e : b = it := by simpa using hb
    subst e
    exact ⟨h1, hL, h2, h3⟩
  · obtain ⟨o, es, ep, ho, r⟩ := hm
    exact ⟨o, es, ep, k _ o (Ne.symm hL) ho, r⟩
  · refine (I.hok b u e).stay (fun c v hc q => k c v ?_ q) (fun _ q => q) fun _ _ q => q
    rcases hc with z | z
    · rw [z]; exact nit b u e
    · exact nit c _ z
theorem Inv.tok (I : Inv X pins σ H s) (t : Nat) : Inv X pins σ H { s with toks := t } := I.un (h' := s.heap) (t' := t) Un.refl I.hok
/-- all objects kept -/
theorem Inv.kept {t' : Nat} (I : Inv X pins σ H s) (k : ∀ b u, s.heap.get? b = some u → h'.get? b = some u) : Inv X pins σ H { s with heap := h', toks := t' } := I.un (Un.kept k) (I.hok.kept k)
/-- a new object laid and tracked -/
theorem Inv.laid {a : Addr} {o : HO} {t' : Nat} (I : Inv X pins σ H s) (k : ∀ b u, s.heap.get? b = some u → h'.get? b = some u) (hp : s.heap.objs.size ≤ a) (new : ObjOk X.prog X.w (upd H a o) h' a o) :
    Inv X pins σ (upd H a o) { s with heap := h', toks := t' } := I.un (Un.laid k hp (I.hok.fresh hp)) (I.hok.laid k hp new)
/-- an object written -/
theorem Inv.write {x e : Addr} {o : HO} {t' : Nat} (I : Inv X pins σ H s) (mu : Mut (H x)) (he : e = x ∨ H e = some (.own x)) (k : ∀ b u, b ≠ e → s.heap.get? b = some u → h'.get? b = some u) (heo : ∃ u, h'.get? e = some u)
    (new : ObjOk X.prog X.w (upd H x o) h' x o) : Inv X pins σ (upd H x o) { s with heap := h', toks := t' } := I.un (Un.write mu he k heo) (I.hok.write mu he k heo new)
theorem Inv.pins_of {pins' : List (Addr × Obj)} (I : Inv X pins σ H s) (h : ∀ p ∈ pins', s.heap.get? p.1 = some p.2 ∧ H p.1 = none ∧ p.1 ≠ X.env.locals ∧ p.1 ∉ X.fs ∧ ∀ v, p.2.data ≠ .cell v) : Inv X pins' σ H s :=
  ⟨I.ok, I.os, I.bare, I.base, I.loc, I.cell, I.free, I.freeC, fun p hp => (List.mem_append.mp hp).elim (fun z => I.pin p (List.mem_append_left _ z)) (h p), I.hok, I.len⟩

theorem nodup_ix {N : List Str} (hN : N.Nodup) {i j : Nat} {x : Str} (a : N[i]? = some x) (b : N[j]? = some x) : i = j := by
  obtain ⟨h1, e1⟩ := List.getElem?_eq_some_iff.mp a
  obtain ⟨h2, e2⟩ := List.getElem?_eq_some_iff.mp b
  exact (List.getElem_inj hN).mp (e1.trans e2.symm)

/-- a name is stored; what changed -/
theorem store_ok2 {M : Model} {A : Around} {E : Value → Shared → Prop} {i : Nat} {x : Str} {v : V} {u : Value} {Q : Unit → Shared → Prop} (I : Inv X pins σ H s) (hN : X.N.Nodup) (hi : X.N[i]? = some x) (hx : Loc X.env.scope x) (r : RelV v u)
    (h : ∀ s', Inv X pins (σ.set i (some v)) H s' → (∃ a, Heap.SameBut a s.heap s'.heap ∧ (a = X.env.locals ∨ X.env.cells.lookup x = some a)) → Q () s') (hf : X.fn x = true ∨ X.env.scope.names.lookup x = some .local := by first | exact .inl rfl | exact .inr rfl | assumption) : wpAny M A (storeName X.env x u) Q E s := by
  obtain ⟨m, hn, hl⟩ := id I.loc
  have hcls : (X.env.scope.kind == .class || (X.env.scope.kind == .module && X.env.locals != X.env.globals)) = false := by rw [I.ok.kind]; rfl
  have hiσ : i < σ.length := by rw [I.len]; exact (List.getElem?_eq_some_iff.mp hi).1
  have cne := I.cne
  have tracked : ∀ {a : Addr} {h' : Heap}, (∃ o, s.heap.get? a = some o ∧ H a = none) → Heap.SameBut a s.heap h' → HOk X.prog X.w H h' := fun {a h'} ha hs b ob e => by
    obtain ⟨_, _, hfree⟩ := ha
    refine (I.hok b ob e).stay (fun c w' hc q => (hs.2 c ?_).trans q) (fun _ q => q) fun _ _ q => q
    rintro rfl
    rcases hc with rfl | hc
    · rw [hfree] at e; cases e
    · rw [hfree] at hc; cases hc
  rcases hx with hk | hk
  · refine wpAny_storeName_local hk hn (fun h' hn' hs => ?_) hcls
    obtain ⟨oL, _, _, hoL, _⟩ := id hn
    refine h _ ⟨I.ok, I.os, I.bare, ⟨fun b o e n hb hx => ?_, fun b o e n hb hx => ?_, I.base.free, fun b o e hx => ?_, I.base.tups, I.base.frzs, I.base.tbls⟩, ⟨_, hn', fun j y v' e1 e2 e3 => ?_⟩, fun y c e => ?_, I.free, I.freeC, fun p hp => ?_, tracked ⟨oL, hoL, I.free⟩ hs, by simpa using I.len⟩ ⟨_, hs, .inl rfl⟩
    · exact (hs.2 b (Nat.ne_of_lt (Nat.lt_of_lt_of_le (Heap.lt_size e) I.ok.above))).trans (I.base.keep b o e n hb hx)
    · obtain ⟨sl, e1⟩ := I.base.slot b o e n hb hx
      exact ⟨sl, (hs.2 b (Nat.ne_of_lt (Nat.lt_of_lt_of_le (Heap.lt_size e) I.ok.above))).trans e1⟩
    · obtain ⟨o', e1⟩ := I.base.there b o e hx
      exact ⟨o', (hs.2 b (Nat.ne_of_lt (Nat.lt_of_lt_of_le (Heap.lt_size e) I.ok.above))).trans e1⟩
    · by_cases hj : j = i
      · subst hj
        rw [hi] at e1; cases e1
        rw [List.getElem?_set_self hiσ] at e2
        cases e2
        exact ⟨u, r, .inl ⟨hk, by simp⟩⟩
      · rw [List.getElem?_set_ne (Ne.symm hj)] at e2
        obtain ⟨u', r', q⟩ := hl j y v' e1 e2 e3
        refine ⟨u', r', ?_⟩
        rcases q with ⟨k, e⟩ | ⟨k, c, e, z⟩
        · refine .inl ⟨k, ?_⟩
          have : y ≠ x := fun e => hj (nodup_ix hN e1 (e ▸ hi))
          simp [this, e]
        · exact .inr ⟨k, c, e, z.sameBut hs (cne y c e)⟩
    · obtain ⟨w', z⟩ := I.cell y c e
      exact ⟨w', z.sameBut hs (cne y c e)⟩
    · obtain ⟨e, n, ne, nf, d⟩ := I.pin p hp
      exact ⟨(hs.2 p.1 ne).trans e, n, ne, nf, d⟩
  · have hfn : X.fn x = true := by
      rcases hf with z | z
      · exact z
      · rw [z] at hk; cases hk
    obtain ⟨c, hc⟩ := I.ok.has x (.inl hk)
    obtain ⟨w', z⟩ := I.cell x c hc
    refine wpAny_storeName_cell I.ok.kind hk hc z (fun h' hc' hs => ?_)
    obtain ⟨oc, hoc, hocd⟩ := id z
    refine h { s with heap := h' } ⟨I.ok, I.os, I.bare, ⟨fun b o e n hb hx => ?_, fun b o e n hb hx => ?_, I.base.free, fun b o e hx => ?_, I.base.tups, I.base.frzs, I.base.tbls⟩, ⟨m, hn.sameBut hs (Ne.symm (cne x c hc)), fun j y v' e1 e2 e3 => ?_⟩, fun y c' e => ?_, I.free, I.freeC, fun p hp => ?_, tracked ⟨oc, hoc, I.freeC x c hc⟩ hs, by simpa using I.len⟩ ⟨c, hs, .inr hc⟩
    · exact (hs.2 b (Nat.ne_of_lt (Nat.lt_of_lt_of_le (Heap.lt_size e) (I.ok.cab x c hfn hc)))).trans (I.base.keep b o e n hb hx)
    · obtain ⟨sl, e1⟩ := I.base.slot b o e n hb hx
      exact ⟨sl, (hs.2 b (Nat.ne_of_lt (Nat.lt_of_lt_of_le (Heap.lt_size e) (I.ok.cab x c hfn hc)))).trans e1⟩
    · obtain ⟨o', e1⟩ := I.base.there b o e hx
      exact ⟨o', (hs.2 b (Nat.ne_of_lt (Nat.lt_of_lt_of_le (Heap.lt_size e) (I.ok.cab x c hfn hc)))).trans e1⟩
    · by_cases hj : j = i
      · subst hj
        rw [hi] at e1; cases e1
        rw [List.getElem?_set_self hiσ] at e2
        cases e2
        exact ⟨u, r, .inr ⟨.inl hk, c, hc, hc'⟩⟩
      · rw [List.getElem?_set_ne (Ne.symm hj)] at e2
        obtain ⟨u', r', q⟩ := hl j y v' e1 e2 e3
        refine ⟨u', r', ?_⟩
        rcases q with q | ⟨k, c', e, z'⟩
        · exact .inl q
        · refine .inr ⟨k, c', e, z'.sameBut hs ?_⟩
          rintro rfl
          exact hj (nodup_ix hN e1 (I.ok.inj _ _ _ e hc ▸ hi))
    · by_cases hcc : c' = c
      · subst hcc; exact ⟨_, hc'⟩
      · obtain ⟨w2, z2⟩ := I.cell y c' e
        exact ⟨w2, z2.sameBut hs hcc⟩
    · obtain ⟨e, n, ne, nf, d⟩ := I.pin p hp
      refine ⟨(hs.2 p.1 ?_).trans e, n, ne, nf, d⟩
      intro q
      rw [q, hoc] at e
      have q' : oc = p.2 := Option.some.inj e
      exact d w' (by rw [← q']; exact hocd)
theorem store_ok {M : Model} {A : Around} {E : Value → Shared → Prop} {i : Nat} {x : Str} {v : V} {u : Value} {Q : Unit → Shared → Prop} (I : Inv X pins σ H s) (hN : X.N.Nodup) (hi : X.N[i]? = some x) (hx : Loc X.env.scope x) (r : RelV v u)
    (h : ∀ s', Inv X pins (σ.set i (some v)) H s' → Q () s') (hf : X.fn x = true ∨ X.env.scope.names.lookup x = some .local := by first | exact .inl rfl | exact .inr rfl | assumption) : wpAny M A (storeName X.env x u) Q E s :=
  store_ok2 I hN hi hx r (fun s' I' _ => h s' I') hf
/-- behind a call or a block, the state as it is -/
theorem Inv.call' {s' : Shared} {ch : List Addr} (I : Inv X pins σ H s) (ho : s'.os = s.os) (u : Un (frs X.stack) ch H H' s.heap s'.heap) (hok : HOk X.prog X.w H' s'.heap) (hg : AllBare s'.gens)
    (hch : ∀ b ∈ ch, (b ∈ X.ex ∨ X.s₀.heap.objs.size ≤ b) ∧ b ≠ X.env.locals ∧ (∀ x c, X.env.cells.lookup x = some c → c ≠ b) ∧ ∀ p ∈ X.pn ++ pins, p.1 ≠ b) : Inv X pins σ H' s' := by
  obtain ⟨h', g', d', t', o'⟩ := s'
  have e : o' = s.os := ho
  subst e
  exact I.call (g' := g') (t' := t') (d' := d') u hok hg hch
end

/-! ### the judgements -/
/-- an exception: its class, its own dict's address (where it has one), the abstract heap behind it -/
abbrev XK := Value → Option Addr → Hp → Prop
abbrev St := List (Option V)
abbrev VK := V → Hp → Prop
/-- an expression's reading; a test's; an argument list's -/
abbrev TE := St → Hp → VK → Prop
abbrev TT := St → Hp → (Bool → Hp → Prop) → Prop
abbrev TA := St → Hp → (List V → Hp → Prop) → Prop
/-- what is wanted behind a statement -/
structure Ends where
  nx : St → Hp → Prop
  rt : VK
  bk : St → Hp → Prop := fun _ _ => False
  ct : St → Hp → Prop := fun _ _ => False
abbrev TS := Ends → St → Hp → Prop

def EP (X : Cx) (pins : List (Addr × Obj)) (σ : St) (Q : VK) (u : Value) (s' : Shared) : Prop := ∃ v H', Inv X pins σ H' s' ∧ RelV v u ∧ Q v H'
def TP (X : Cx) (pins : List (Addr × Obj)) (σ : St) (Q : Bool → Hp → Prop) (b : Bool) (s' : Shared) : Prop := ∃ H', Inv X pins σ H' s' ∧ Q b H'
def AP (X : Cx) (pins : List (Addr × Obj)) (σ : St) (Q : List V → Hp → Prop) (us : List Value) (s' : Shared) : Prop := ∃ vs H', Inv X pins σ H' s' ∧ Vals vs us ∧ Q vs H'
def SP (X : Cx) (pins : List (Addr × Obj)) (D : Ends) (f : Flow) (s' : Shared) : Prop :=
  match f with
  | .next => ∃ σ' H', Inv X pins σ' H' s' ∧ D.nx σ' H'
  | .brk => ∃ σ' H', Inv X pins σ' H' s' ∧ D.bk σ' H'
  | .cont => ∃ σ' H', Inv X pins σ' H' s' ∧ D.ct σ' H'
  | .ret u => ∃ v σ' H', Inv X pins σ' H' s' ∧ RelV v u ∧ D.rt v H'

def PE (X : Cx) (e : Expr) (t : TE) : Prop :=
  ∀ (pins : List (Addr × Obj)) (s : Shared) (σ : St) (H : Hp) (Q : VK), Inv X pins σ H s → t σ H Q → wpAny (model X.prog X.w) X.A (eval e X.env) (EP X pins σ Q) X.xe s
def PT (X : Cx) (e : Expr) (t : TT) : Prop :=
  ∀ (pins : List (Addr × Obj)) (s : Shared) (σ : St) (H : Hp) (Q : Bool → Hp → Prop), Inv X pins σ H s → t σ H Q → wpAny (model X.prog X.w) X.A (isTrue e X.env (eval e X.env)) (TP X pins σ Q) X.xe s
/-- a test whatever its 'whole' is (and, or) -/
def PW (X : Cx) (e : Expr) (t : TT) : Prop :=
  ∀ (whole : Sem Value) (pins : List (Addr × Obj)) (s : Shared) (σ : St) (H : Hp) (Q : Bool → Hp → Prop), Inv X pins σ H s → t σ H Q → wpAny (model X.prog X.w) X.A (isTrue e X.env whole) (TP X pins σ Q) X.xe s
theorem PW.pt {X : Cx} {e : Expr} {t : TT} (h : PW X e t) : PT X e t := h _
/-- an argument list (no star), from the left -/
def PA (X : Cx) (es : List Expr) (t : TA) : Prop :=
  ∀ (pos : Pos) (pins : List (Addr × Obj)) (s : Shared) (σ : St) (H : Hp) (Q : List V → Hp → Prop), Inv X pins σ H s → t σ H Q → wpAny (model X.prog X.w) X.A (spliced (backTo pos (starEach es X.env))) (AP X pins σ Q) X.xe s
def PS (X : Cx) (st : Stmt) (t : TS) : Prop :=
  ∀ (pins : List (Addr × Obj)) (s : Shared) (σ : St) (H : Hp) (D : Ends), Inv X pins σ H s → t D σ H → wpAny (model X.prog X.w) X.A (exec st X.env) (SP X pins D) X.xe s
def PSs (X : Cx) (st : List Stmt) (t : TS) : Prop :=
  ∀ (pins : List (Addr × Obj)) (s : Shared) (σ : St) (H : Hp) (D : Ends), Inv X pins σ H s → t D σ H → wpAny (model X.prog X.w) X.A (execs st X.env) (SP X pins D) X.xe s
/-- weaken the end -/
theorem thn {α : Type} {t : Sem α} {Q Q' : α → Shared → Prop} {M : Model} {A : Around} {E : Value → Shared → Prop} {s : Shared} (h : wpAny M A t Q E s) (hQ : ∀ a s, Q a s → Q' a s) : wpAny M A t Q' E s := wpAny_mono h hQ fun _ _ x => x
end L2

namespace L2
open PySem PySem.Spec PyProof.Rows
section
variable {X : Cx}

/-! ### names and constants -/
def tVar (i : Nat) : TE := fun σ H Q => ∃ v, σ[i]? = some (some v) ∧ Q v H
def tC (v : V) : TE := fun _ H Q => Q v H
theorem pe_var {i : Nat} {x : Str} {pos : Pos} (hN : X.N[i]? = some x) (hv : Vis X.env.scope x) (hd : (x == ("__debug__" : Str)) = false := by decide) (hcd : (x == ("__classdict__" : Str)) = false := by decide) : PE X (.Name x pos) (tVar i) := by
  intro pins s σ H Q I h
  obtain ⟨v, e, h⟩ := h
  obtain ⟨m, hn, hl⟩ := I.loc
  obtain ⟨u, r, l⟩ := hl i x v hN e hv
  have fin : EP X pins σ Q u s := ⟨v, H, I, r, h⟩
  rcases l with ⟨hk, hm⟩ | ⟨hk, c, hc, hcell⟩
  · exact wpAny_Name (wpAny_loadName_local I.ok.kind hk hn hm fin) hd
  · rcases hk with hk | hk
    · exact wpAny_Name (wpAny_loadName_cell I.ok.kind hk hc hcell fin) hd
    · exact wpAny_Name (wpAny_loadName_free I.ok.kind hk hc hcell fin hcd) hd
theorem pe_int {i j pos} : PE X (.Constant (.int i) j pos) (tC (.int i)) := fun _ _ _ H _ I h => wpAny_Constant_int ⟨.int i, H, I.tok _, ⟨_, rfl⟩, h⟩
theorem pe_bl {b j pos} : PE X (.Constant (.bool b) j pos) (tC (.bl b)) := fun _ _ _ H _ I h => Constant_bool ⟨.bl b, H, I, rfl, h⟩
theorem pe_non {j pos} : PE X (.Constant .none j pos) (tC .non) := fun _ _ _ H _ I h => Constant_none ⟨.non, H, I, rfl, h⟩
theorem pe_str {x j pos} : PE X (.Constant (.str x) j pos) (tC (.str x)) := fun _ _ _ H _ I h => Calls.Constant_str ⟨.str x, H, I.tok _, ⟨_, rfl⟩, h⟩

/-- a global name of the def -/
def Gl (X : Cx) (x : Str) : Prop := X.env.kindOf x = some .globalImplicit
theorem ld_glob {E : Value → Shared → Prop} {pins : List (Addr × Obj)} {s : Shared} {σ : St} {H : Hp} {x : Str} {u : Value} {pos : Pos} {Q : Value → Shared → Prop} (I : Inv X pins σ H s) (hg : Gl X x) (hm : X.mg x = some u) (h : Q u s)
    (hd : (x == ("__debug__" : Str)) = false := by decide) : wpAny (model X.prog X.w) X.A (eval (.Name x pos) X.env) Q E s :=
  Calls.Name_function_global I.ok.kind hg (Calls.loadGlobal_global (by rw [I.ok.glob]; exact I.mod.glob.keeps I.bk) hm h) hd
theorem ld_blt {E : Value → Shared → Prop} {pins : List (Addr × Obj)} {s : Shared} {σ : St} {H : Hp} {x : Str} {u : Value} {pos : Pos} {Q : Value → Shared → Prop} (I : Inv X pins σ H s) (hg : Gl X x) (hm : X.mg x = none) (hv : bootBuiltins x = some u) (h : Q u s)
    (hn : x ≠ "__name__" := by decide) (hd : (x == ("__debug__" : Str)) = false := by decide) : wpAny (model X.prog X.w) X.A (eval (.Name x pos) X.env) Q E s := by
  obtain ⟨mb, h1, h2⟩ := I.mod.blt
  exact Calls.Name_function_global I.ok.kind hg (Calls.loadGlobal_builtin (by rw [I.ok.glob]; exact I.mod.glob.keeps I.bk) hm (by rw [I.ok.blt]; exact h1.keeps I.bk) ((h2 x hn).trans hv) h) hd
/-- a module's constant, a class, a function, as a value -/
theorem pe_glob {x : Str} {v : V} {u : Value} {pos : Pos} (hg : Gl X x) (hm : X.mg x = some u) (r : RelV v u) (hd : (x == ("__debug__" : Str)) = false := by decide) : PE X (.Name x pos) (tC v) :=
  fun _ _ _ H _ I h => ld_glob I hg hm ⟨v, H, I, r, h⟩ hd
theorem pe_bltn {x : Str} {v : V} {u : Value} {pos : Pos} (hg : Gl X x) (hm : X.mg x = none) (hv : bootBuiltins x = some u) (r : RelV v u) (hn : x ≠ "__name__" := by decide) (hd : (x == ("__debug__" : Str)) = false := by decide) : PE X (.Name x pos) (tC v) :=
  fun _ _ _ H _ I h => ld_blt I hg hm hv ⟨v, H, I, r, h⟩ hn hd

/-! ### arithmetic -/
variable {a b : Expr} {ta tb : TE} {pos : Pos}
/-! ### comparisons -/
/-- a comparison as a value, as a test -/
def tB (t : TE) : TT := fun σ H Q => t σ H fun x H1 => ∃ c, x = .bl c ∧ Q c H1
/-- an expression whose value is a bool, as a test -/
theorem pt_val {e : Expr} {t : TE} (h : PE X e t) (he : ∀ whole, isTrue e X.env whole = (do let v ← whole; standAt e.pos; holding [v] (truthy v)) := by intro _; rfl) : PT X e (tB t) := by
  intro pins s σ H Q I hw
  refine isTrue_plain (thn (h pins s σ H _ I hw) fun v s1 ⟨x, H1, I1, r1, q1⟩ => ?_) (he _)
  obtain ⟨d, rfl, q⟩ := q1
  cases r1
  exact wpAny_truthy_bool ⟨H1, I1, q⟩

/-! ### and, or, not -/
variable {tA tB' : TT} {rest : List Expr}
def tAnd (t u : TT) : TT := fun σ H Q => t σ H fun c H1 => if c = true then u σ H1 Q else Q false H1
def tOr (t u : TT) : TT := fun σ H Q => t σ H fun c H1 => if c = true then Q true H1 else u σ H1 Q
def tNot (t : TT) : TT := fun σ H Q => t σ H fun c H1 => Q (!c) H1
theorem pw_and1 (ha : PT X a tA) : PW X (.BoolOp .And [a] pos) tA := by
  intro wh pins s σ H Q I h
  refine isTrue_and (thn (ha pins s σ H Q I h) fun c s1 e => ?_)
  cases c with
  | true => exact isTrue_and_nil e
  | false => exact e
theorem pw_or1 (ha : PT X a tA) : PW X (.BoolOp .Or [a] pos) tA := by
  intro wh pins s σ H Q I h
  refine isTrue_or (thn (ha pins s σ H Q I h) fun c s1 e => ?_)
  cases c with
  | false => exact isTrue_or_nil e
  | true => exact e
theorem pw_and (ha : PT X a tA) (hb : PW X (.BoolOp .And (b :: rest) pos) tB') : PW X (.BoolOp .And (a :: b :: rest) pos) (tAnd tA tB') := by
  intro wh pins s σ H Q I h
  refine isTrue_and (thn (ha pins s σ H _ I h) fun c s1 ⟨H1, I1, q1⟩ => ?_)
  cases c with
  | true => exact hb wh pins s1 σ H1 Q I1 q1
  | false => exact ⟨H1, I1, q1⟩
theorem pw_or (ha : PT X a tA) (hb : PW X (.BoolOp .Or (b :: rest) pos) tB') : PW X (.BoolOp .Or (a :: b :: rest) pos) (tOr tA tB') := by
  intro wh pins s σ H Q I h
  refine isTrue_or (thn (ha pins s σ H _ I h) fun c s1 ⟨H1, I1, q1⟩ => ?_)
  cases c with
  | true => exact ⟨H1, I1, q1⟩
  | false => exact hb wh pins s1 σ H1 Q I1 q1
theorem pt_not (ha : PT X a tA) : PT X (.UnaryOp .Not a pos) (tNot tA) := by
  intro pins s σ H Q I h
  exact isTrue_not (ha pins s σ H (fun c H1 => Q (!c) H1) I h)
/-- .. as values (bools) -/
def tAndV (ta tb : TE) : TE := fun σ H Q => ta σ H fun x H1 => ∃ c, x = .bl c ∧ if c = true then tb σ H1 Q else Q (.bl false) H1
def tNotV (ta : TE) : TE := fun σ H Q => ta σ H fun x H1 => ∃ c, x = .bl c ∧ Q (.bl (!c)) H1
theorem pe_one {op} {t : TE} (h : PE X a t) : PE X (.BoolOp op [a] pos) t := fun pins s σ H Q I hw => BoolOp_one (h pins s σ H Q I hw)
theorem pe_and (ha : PE X a ta) (hb : PE X (.BoolOp .And (b :: rest) pos) tb) : PE X (.BoolOp .And (a :: b :: rest) pos) (tAndV ta tb) := by
  intro pins s σ H Q I h
  refine BoolOp_and (thn (ha pins s σ H _ I h) fun v s1 ⟨x, H1, I1, r1, q1⟩ => ?_)
  obtain ⟨c, rfl, q1⟩ := q1
  cases r1
  refine wpAny_truthy_bool ?_
  cases c with
  | true => exact hb pins s1 σ H1 Q I1 q1
  | false => exact ⟨.bl false, H1, I1, rfl, q1⟩
theorem pe_not (ha : PE X a ta) : PE X (.UnaryOp .Not a pos) (tNotV ta) := by
  intro pins s σ H Q I h
  refine UnaryOp_ (thn (ha pins s σ H _ I h) fun v s1 ⟨x, H1, I1, r1, q1⟩ => ?_)
  obtain ⟨c, rfl, q1⟩ := q1
  cases r1
  exact not_of (wpAny_truthy_bool ⟨.bl (!c), H1, I1, rfl, q1⟩)
end
end L2

namespace L2
open PySem PySem.Spec PyProof.Rows

/-! ### a list, a tuple that is read: tracked, frozen, or an object of the module -/
def SqL (K : PySem.W.Frag) (H : Hp) (a : Addr) (xs : List V) : Prop :=
  Rd H a (.lst xs) ∨
    ∃ (o : Obj) (its : Array Value) (n : Nat), K.lookup a = some o ∧ o.cls = .type "list" ∧ o.dict = none ∧ o.data = .seq its n ∧ its.size ≤ sizeLine ∧ Vals xs its.toList
def SqT (K : PySem.W.Frag) (H : Hp) (a : Addr) (xs : List V) : Prop :=
  Rd H a (.tup xs) ∨
    ∃ (o : Obj) (its : Array Value) (n : Nat), K.lookup a = some o ∧ o.cls = .type "tuple" ∧ o.data = .seq its n ∧ its.size ≤ sizeLine ∧ Vals xs its.toList
def absV : Value → Option V
  | .none => some .non
  | .bool b => some (.bl b)
  | .int i _ => some (.int i)
  | .str x _ => some (.str x)
  | .bytes b _ => some (.byt b)
  | .float b _ => some (.flt b)
  | .ref a => some (.ref a)
  | .type n => some (.ty n)
  | _ => none
theorem RelV.abs {x : V} {u : Value} (r : RelV x u) : absV u = some x := by
  cases x with
  | non => cases r; rfl
  | bl _ => cases r; rfl
  | int _ => obtain ⟨t, rfl⟩ := r; rfl
  | str _ => obtain ⟨t, rfl⟩ := r; rfl
  | byt _ => obtain ⟨t, rfl⟩ := r; rfl
  | flt _ => obtain ⟨t, rfl⟩ := r; rfl
  | ref _ => cases r; rfl
  | ty _ => cases r; rfl
theorem RelV.inj {x y : V} {u : Value} (r : RelV x u) (q : RelV y u) : x = y := Option.some.inj (r.abs.symm.trans q.abs)
theorem Vals.inj : ∀ {xs ys : List V} {us : List Value}, Vals xs us → Vals ys us → xs = ys
  | _, _, _, .nil, .nil => rfl
  | _, _, _, .cons r t, .cons r' t' => by rw [r.inj r', Vals.inj t t']
section
variable {X : Cx} {pins : List (Addr × Obj)} {σ : St} {H : Hp} {s : Shared} {a : Addr} {xs ys : List V}
theorem SqL.of {K : PySem.W.Frag} (h : H a = some (.lst xs)) : SqL K H a xs := .inl (.inl h)
theorem SqT.of {K : PySem.W.Frag} (h : H a = some (.tup xs)) : SqT K H a xs := .inl (.inl h)
theorem Inv.list (I : Inv X pins σ H s) (h : SqL X.K H a xs) : ∃ its : List Value, Vals xs its ∧ PlainL s.heap a its.toArray ∧ xs.length ≤ sizeLine := by
  rcases h with h | ⟨o, its, n, hk, hc, hd, hs, hz, r⟩
  · obtain ⟨z, its, n, r, e⟩ := h.ok I.hok
    exact ⟨its, r, ⟨_, n, e, rfl, rfl, rfl⟩, z⟩
  · refine ⟨its.toList, r, ⟨o, n, I.kIn a o hk, hc, hd, by simpa using hs⟩, ?_⟩
    have e := r.length
    simp only [Array.length_toList] at e
    omega
theorem Inv.tuple (I : Inv X pins σ H s) (h : SqT X.K H a xs) : ∃ its : List Value, Vals xs its ∧ IsTup s.heap a its.toArray ∧ xs.length ≤ sizeLine := by
  rcases h with h | ⟨o, its, n, hk, hc, hs, hz, r⟩
  · obtain ⟨z, its, r, p⟩ := h.ok I.hok
    exact ⟨its, r, p, z⟩
  · refine ⟨its.toList, r, ⟨o, I.kIn a o hk, hc, n, by simpa using hs⟩, ?_⟩
    have e := r.length
    simp only [Array.length_toList] at e
    omega
theorem Inv.list_inj (I : Inv X pins σ H s) (h : SqL X.K H a xs) (h' : SqL X.K H a ys) : xs = ys := by
  obtain ⟨its, r, ⟨o, n, e, _, _, d⟩, _⟩ := I.list h
  obtain ⟨its', r', ⟨o', n', e', _, _, d'⟩, _⟩ := I.list h'
  rw [e] at e'; cases e'
  rw [d] at d'
  injection d' with d1 _
  have : its = its' := by simpa using congrArg Array.toList d1
  subst this
  exact r.inj r'
end

/-! ### another wish about exceptions -/
abbrev Cx.wish (X : Cx) (E : Value → Shared → Prop) : Cx := { X with xe := E }
/-- no exception leaves -/
abbrev Cx.nox (X : Cx) : Cx := X.wish fun _ _ => False
theorem Cx.Ok.wish {X : Cx} (ok : X.Ok) (E : Value → Shared → Prop) : (X.wish E).Ok :=
  ⟨ok.mod, ok.kind, ok.glob, ok.blt, ok.above, ok.inj, ok.has, ok.cab, ok.hd, ok.frames, ok.stk, ok.exf, ok.bs, ok.bsz, ok.noex, ok.exfs, ok.funs, ok.frf⟩
theorem Cx.Ok.unwish {X : Cx} {E : Value → Shared → Prop} (ok : (X.wish E).Ok) : X.Ok :=
  ⟨ok.mod, ok.kind, ok.glob, ok.blt, ok.above, ok.inj, ok.has, ok.cab, ok.hd, ok.frames, ok.stk, ok.exf, ok.bs, ok.bsz, ok.noex, ok.exfs, ok.funs, ok.frf⟩
section
variable {X : Cx} {pins : List (Addr × Obj)} {σ : St} {H : Hp} {s : Shared} {E : Value → Shared → Prop}
theorem Inv.wish (I : Inv X pins σ H s) (E : Value → Shared → Prop) : Inv (X.wish E) pins σ H s := ⟨I.ok.wish E, I.os, I.bare, I.base, I.loc, I.cell, I.free, I.freeC, I.pin, I.hok, I.len⟩
theorem Inv.unwish (I : Inv (X.wish E) pins σ H s) : Inv X pins σ H s := ⟨I.ok.unwish, I.os, I.bare, I.base, I.loc, I.cell, I.free, I.freeC, I.pin, I.hok, I.len⟩
theorem SP.unwish {D : Ends} {f : Flow} {s' : Shared} (h : SP (X.wish E) pins D f s') : SP X pins D f s' := by
  cases f with
  | next => obtain ⟨σ', H', I, q⟩ := h; exact ⟨σ', H', I.unwish, q⟩
  | brk => obtain ⟨σ', H', I, q⟩ := h; exact ⟨σ', H', I.unwish, q⟩
  | cont => obtain ⟨σ', H', I, q⟩ := h; exact ⟨σ', H', I.unwish, q⟩
  | ret u => obtain ⟨v, σ', H', I, r, q⟩ := h; exact ⟨v, σ', H', I.unwish, r, q⟩
theorem PSs.nox {st : List Stmt} {t : TS} (h : PSs X.nox st t) : PSs X st t := fun pins s σ H D I hw =>
  wpAny_mono (h pins s σ H D (I.wish _) hw) (fun _ _ q => q.unwish) fun _ _ z => False.elim z
end

/-! ### blocks and small statements -/
section
variable {X : Cx} {st : Stmt} {rest : List Stmt} {t u : TS} {e : Expr} {te : TE} {pos : Pos}
def tNext : TS := fun D σ H => D.nx σ H
def tSeq (t u : TS) : TS := fun D σ H => t { D with nx := u D } σ H
theorem pss_nil : PSs X [] tNext := fun _ _ σ H _ I h => wpAny_execs_nil ⟨σ, H, I, h⟩
theorem pss_cons (h1 : PS X st t) (h2 : PSs X rest u) : PSs X (st :: rest) (tSeq t u) := by
  intro pins s σ H D I h
  refine wpAny_execs_cons (thn (h1 pins s σ H { D with nx := u D } I h) fun f s1 q => ?_)
  cases f with
  | next =>
    obtain ⟨σ', H', I', q⟩ := q
    exact h2 pins s1 σ' H' D I' q
  | ret v => exact q
  | brk => exact q
  | cont => exact q
theorem pss_one (h1 : PS X st t) : PSs X [st] t := by
  intro pins s σ H D I h
  refine wpAny_execs_cons (thn (h1 pins s σ H D I h) fun f s1 q => ?_)
  cases f with
  | next => exact wpAny_execs_nil q
  | ret v => exact q
  | brk => exact q
  | cont => exact q
/-- in a def's body nothing is shown -/
theorem Inv.quiet {pins : List (Addr × Obj)} {σ : St} {H : Hp} {s : Shared} (I : Inv X pins σ H s) : interactive X.env = false := by simp [interactive, I.ok.kind]
/-- an expression whose value is dropped -/
def tDrop (te : TE) : TS := fun D σ H => te σ H fun _ H1 => D.nx σ H1
theorem ps_expr (he : PE X e te) (hs : swapsWith e none pos.line X.env = pure false := by rfl) : PS X (.Expr e pos) (tDrop te) := by
  intro pins s σ H D I h
  exact wpAny_Expr_any (thn (he pins s σ H _ I h) fun v s1 ⟨x, H1, I1, r1, q1⟩ => ⟨σ, H1, I1, q1⟩) I.quiet hs
def tRet (te : TE) : TS := fun D σ H => te σ H D.rt
theorem ps_ret (he : PE X e te) : PS X (.Return (some e) pos) (tRet te) := by
  intro pins s σ H D I h
  exact wpAny_Return_some (thn (he pins s σ H _ I h) fun v s1 ⟨x, H1, I1, r1, q1⟩ => ⟨x, σ, H1, I1, r1, q1⟩)
def tIfS (c : TT) (t u : TS) : TS := fun D σ H => c σ H fun b H1 => if b = true then t D σ H1 else u D σ H1
theorem ps_if {c : Expr} {a b : List Stmt} {tc : TT} (hc : PT X c tc) (ha : PSs X a t) (hb : PSs X b u) : PS X (.If c a b pos) (tIfS tc t u) := by
  intro pins s σ H D I h
  refine wpAny_If (thn (hc pins s σ H _ I h) fun d s1 ⟨H1, I1, q1⟩ => ?_)
  cases d with
  | true => exact ha pins s1 σ H1 D I1 q1
  | false => exact hb pins s1 σ H1 D I1 q1
end

/-! ### targets -/
abbrev TG := V → St → Hp → (St → Hp → Prop) → Prop
abbrev TGs := List V → St → Hp → (St → Hp → Prop) → Prop
def PG (X : Cx) (target : Expr) (t : TG) : Prop :=
  ∀ (pins : List (Addr × Obj)) (s : Shared) (σ : St) (H : Hp) (v : V) (u : Value) (Q : St → Hp → Prop), Inv X pins σ H s → RelV v u → t v σ H Q →
    wpAny (model X.prog X.w) X.A (assign target X.env u) (fun _ s' => ∃ σ' H', Inv X pins σ' H' s' ∧ Q σ' H') X.xe s
/-- several targets, one after another -/
def PGs (X : Cx) (ts : List Expr) (t : TGs) : Prop :=
  ∀ (pins : List (Addr × Obj)) (s : Shared) (σ : St) (H : Hp) (vs : List V) (us : List Value) (Q : St → Hp → Prop), Inv X pins σ H s → Vals vs us → t vs σ H Q →
    wpAny (model X.prog X.w) X.A (assignInOrder ((assignEach ts X.env).map (·.2)) us) (fun _ s' => ∃ σ' H', Inv X pins σ' H' s' ∧ Q σ' H') X.xe s
section
variable {X : Cx} {pos : Pos}
def gName (i : Nat) : TG := fun v σ H Q => Q (σ.set i (some v)) H
theorem pg_name {i : Nat} {x : Str} (hN : X.N.Nodup) (hi : X.N[i]? = some x) (hx : Loc X.env.scope x) (hf : X.fn x = true ∨ X.env.scope.names.lookup x = some .local := by first | exact .inl rfl | exact .inr rfl | assumption) : PG X (.Name x pos) (gName i) := by
  intro pins s σ H v u Q I r h
  exact wpAny_assign_Name (store_ok I hN hi hx r (fun s' I' => ⟨_, H, I', h⟩) hf)
def gNil : TGs := fun vs σ H Q => vs = [] ∧ Q σ H
def gCons (t : TG) (u : TGs) : TGs := fun vs σ H Q => ∃ v r, vs = v :: r ∧ t v σ H fun σ' H' => u r σ' H' Q
theorem pgs_nil : PGs X [] gNil := by
  intro pins s σ H vs us Q I r h
  obtain ⟨e, h⟩ := h
  subst e
  cases r
  exact assignInOrder_nil ⟨σ, H, I, h⟩
theorem pgs_cons {e : Expr} {es : List Expr} {t : TG} {u : TGs} (h1 : PG X e t) (h2 : PGs X es u)
    (hs : (assignEach (e :: es) X.env).map (·.2) = assign e X.env :: (assignEach es X.env).map (·.2) := by rfl) : PGs X (e :: es) (gCons t u) := by
  intro pins s σ H vs us Q I r h
  obtain ⟨v, vr, e1, h⟩ := h
  subst e1
  cases r with
  | cons r rr =>
    rw [hs]
    refine assignInOrder_cons (thn (h1 pins s σ H _ _ _ I r h) fun _ s1 ⟨σ1, H1, I1, q1⟩ => ?_)
    exact h2 pins s1 σ1 H1 _ _ Q I1 rr q1
/-- (a, b, ..) = a tuple of that length -/
def gTup (K : PySem.W.Frag) (n : Nat) (t : TGs) : TG := fun v σ H Q => ∃ a xs, v = .ref a ∧ SqT K H a xs ∧ xs.length = n ∧ t xs σ H Q
theorem pg_tup {es : List Expr} {k : Nat} {t : TGs} {n : Nat} (hc : X.calm = true) (h : PGs X es t)
    (hn : (assignEach es X.env).length = n := by rfl) (hst : (assignEach es X.env).findIdx? (·.1) = none := by rfl) : PG X (.Tuple es k pos) (gTup X.K n t) := by
  intro pins s σ H v u Q I r hw
  obtain ⟨a, xs, e1, hq, hl, hw⟩ := hw
  subst e1
  cases r
  obtain ⟨its, rv, ht, hz⟩ := I.tuple hq
  refine assign_Tuple_tuple (I.ok.hd hc) ht (by simp [hn, ← hl, rv.length]) hst fun h' hx => ?_
  have I1 : Inv X pins σ H { s with heap := h' } := I.kept (t' := s.toks) fun b o e => hx b o (Nat.ne_of_lt (Heap.lt_size e)) e
  exact h pins _ σ H xs _ Q I1 (by simpa using rv) hw
/-- target = value -/
def tAsg (te : TE) (g : TG) : TS := fun D σ H => te σ H fun x H1 => g x σ H1 D.nx
theorem ps_asg {tg e : Expr} {te : TE} {g : TG} (he : PE X e te) (hg : PG X tg g) (hs : swapsWithSole [tg] e pos.line X.env = pure false := by rfl) (hw : swappedStores [tg] e X.env = pure none := by rfl)
    (h1 : (assignEach [tg] X.env).map (·.2) = [assign tg X.env] := by rfl) : PS X (.Assign [tg] e pos) (tAsg te g) := by
  intro pins s σ H D I h
  refine wpAny_Assign_stores (thn (he pins s σ H _ I h) fun v s1 ⟨x, H1, I1, r1, q1⟩ => ?_) hs hw
  rw [h1]
  exact thn (hg pins s1 σ H1 x v _ I1 r1 q1) fun _ s2 q => q
/-- name = value -/
theorem ps_set {i : Nat} {x : Str} {e : Expr} {te : TE} {pos' : Pos} (hN : X.N.Nodup) (hi : X.N[i]? = some x) (hx : Loc X.env.scope x) (he : PE X e te) (hs : swapsWith e (some (.Name x pos')) pos.line X.env = pure false := by rfl) (hf : X.fn x = true ∨ X.env.scope.names.lookup x = some .local := by first | exact .inl rfl | exact .inr rfl | assumption) :
    PS X (.Assign [.Name x pos'] e pos) (tAsg te (gName i)) := by
  intro pins s σ H D I h
  refine wpAny_Assign_Name (thn (he pins s σ H _ I h) fun v s1 ⟨y, H1, I1, r1, q1⟩ => ?_) hs
  exact store_ok I1 hN hi hx r1 (fun s2 I2 => ⟨_, H1, I2, q1⟩) hf
end

/-! ### while -/
section
variable {X : Cx} {pos : Pos}
end

/-! ### what a loop or a comprehension walks -/
/-- at turn i: it yields x (the heap may grow), or it stops -/
structure It where
  go : Nat → Hp → Prop
  yld : Nat → Hp → V → Hp → Prop
  stop : Nat → Hp → Prop
/-- the iterator's own objects may turn: they are not the frame's, not pinned, younger than the entry (or a comprehension's own) -/
def FpOk (X : Cx) (pins : List (Addr × Obj)) (H : Hp) (b : Addr) : Prop :=
  H b = none ∧ b ≠ X.env.locals ∧ b ∉ X.fs ∧ (b ∈ X.ex ∨ X.s₀.heap.objs.size ≤ b) ∧ (∀ x c, X.env.cells.lookup x = some c → c ≠ b) ∧ ∀ p ∈ X.pn ++ pins, p.1 ≠ b
theorem Inv.fpOk {X : Cx} {pins : List (Addr × Obj)} {σ : St} {H H' : Hp} {s : Shared} {b : Addr} (I : Inv X pins σ H s) (hb : s.heap.objs.size ≤ b) (hn : H' b = none) : FpOk X pins H' b := by
  refine ⟨hn, Nat.ne_of_gt (Nat.lt_of_lt_of_le I.lt hb), I.nofs hb, .inr (Nat.le_trans I.sz hb), fun x c e z => ?_, fun p hp z => ?_⟩
  · obtain ⟨v, q⟩ := I.cell x c e
    exact absurd (Nat.lt_of_lt_of_le q.lt (by rw [z]; exact hb)) (Nat.lt_irrefl _)
  · exact absurd (Nat.lt_of_lt_of_le (Heap.lt_size (I.pin p hp).1) (by rw [z]; exact hb)) (Nat.lt_irrefl _)
structure Turn (P : Program) (w : World) (K : PySem.W.Frag) (tg : Expr) (J : It) (fp : List Addr) (it : Addr) (tn : Nat → Heap → Prop) : Prop where
  mem : it ∈ fp
  obj : ∀ i h, tn i h → ∀ b ∈ fp, ∃ o, h.get? b = some o ∧ ∀ v, o.data ≠ .cell v
  keep : ∀ i h h', tn i h → (∀ b ∈ fp, ∀ o, h.get? b = some o → h'.get? b = some o) → tn i h'
  item : ∀ (X : Cx), X.prog = P → X.w = w → X.K = K → X.calm = true → ∀ (i : Nat) (pins : List (Addr × Obj)) (s : Shared) (σ : St) (H : Hp) (E : Value → Shared → Prop), Inv X pins σ H s → (∀ b ∈ fp, FpOk X pins H b) → tn i s.heap → J.go i H →
    wpAny (model P w) X.A (pyNext (.ref it)) (fun r s1 => ∃ u, r = some u ∧
      wpAny (model P w) X.A (letOwnedTupleGo tg (.ref it) u) (fun _ s2 => ∃ x H', Inv X pins σ H' s2 ∧ RelV x u ∧ J.yld i H x H' ∧ tn (i + 1) s2.heap ∧ ∀ b ∈ fp, H' b = none) E s1) E s
  done : ∀ (X : Cx), X.prog = P → X.w = w → X.K = K → X.calm = true → ∀ (i : Nat) (pins : List (Addr × Obj)) (s : Shared) (σ : St) (H : Hp) (E : Value → Shared → Prop), Inv X pins σ H s → (∀ b ∈ fp, FpOk X pins H b) → tn i s.heap → J.stop i H →
    wpAny (model P w) X.A (pyNext (.ref it)) (fun r s1 => r = none ∧ Inv X pins σ H s1) E s
  self : ∀ (A : Around) (i : Nat) (s : Shared) (Q : Value → Shared → Prop) (E : Value → Shared → Prop), tn i s.heap → Q (.ref it) s → wpAny (model P w) A (pyIter (.ref it)) Q E s
abbrev TI := St → Hp → (It → Hp → Prop) → Prop
/-- an iterator has come -/
def PIE (X : Cx) (pins : List (Addr × Obj)) (σ : St) (tg : Expr) (R : It → Hp → Prop) (itv : Value) (s2 : Shared) : Prop :=
  ∃ (it : Addr) (fp : List Addr) (tn : Nat → Heap → Prop) (J : It) (H' : Hp), itv = .ref it ∧ Inv X pins σ H' s2 ∧ Turn X.prog X.w X.K tg J fp it tn ∧ tn 0 s2.heap ∧ (∀ b ∈ fp, FpOk X pins H' b) ∧ R J H'
def PI (X : Cx) (tg iter : Expr) (wi : TI) : Prop :=
  ∀ (pins : List (Addr × Obj)) (s : Shared) (σ : St) (H : Hp) (R : It → Hp → Prop), Inv X pins σ H s → wi σ H R →
    wpAny (model X.prog X.w) X.A (eval iter X.env) (fun v s1 => wpAny (model X.prog X.w) X.A (pyIter v) (PIE X pins σ tg R) X.xe s1) X.xe s

/-- the step ahead of the store is nothing for an iterator that keeps no tuple -/
theorem go_of {M : Model} {A : Around} {E : Value → Shared → Prop} {s : Shared} {tg : Expr} {it : Addr} {u : Value} {o : Obj} {n : String} {vs : Array Value} {Q : Unit → Shared → Prop} (ho : s.heap.get? it = some o) (hc : o.cls = .type n) (hd : o.data = .fields vs)
    (hn : ["enumerate", "zip", "dict_itemiterator", "dict_reverseitemiterator", "odict_iterator", "itertools.zip_longest", "itertools.pairwise"].contains n = false) (hQ : Q () s) : wpAny M A (letOwnedTupleGo tg (.ref it) u) Q E s := by
  unfold letOwnedTupleGo
  cases tg <;> first
    | exact wpAny_pure hQ
    | (cases u <;> first
        | exact wpAny_pure hQ
        | (refine wpAny_bind (wpAny_load ho ?_)
           rw [hc, hd]
           show wpAny M A (if (["enumerate", "zip", "dict_itemiterator", "dict_reverseitemiterator", "odict_iterator", "itertools.zip_longest", "itertools.pairwise"].contains n && vs[0]? == some (rawInt _)) = true then _ else _) Q E s
           rw [if_neg (by intro h; rw [hn, Bool.false_and] at h; cases h)]
           exact wpAny_pure hQ))

/-- the list at a, as it stands at each turn (a loop may append to it) -/
def Itl (K : PySem.W.Frag) (a : Addr) : It :=
  ⟨fun i H => ∃ xs x, SqL K H a xs ∧ xs[i]? = some x, fun i H x H' => H' = H ∧ ∀ xs, SqL K H a xs → xs[i]? = some x, fun i H => ∃ xs, SqL K H a xs ∧ xs.length ≤ i⟩
/-- lo, lo + 1, .. (n of them) -/
def Itr (lo : Int) (n : Nat) : It := ⟨fun i _ => i < n, fun i H x H' => H' = H ∧ x = .int (lo + i), fun i _ => n ≤ i⟩
theorem turn_list {P : Program} {w : World} {K : PySem.W.Frag} {tg : Expr} (a it : Addr) : Turn P w K tg (Itl K a) [it] it (fun i h => h.IsListIter it a i) where
  mem := by simp
  obj := fun i h st b hb => by
    have e : b = it := by simpa using hb
    subst e
    obtain ⟨o, e, c, d⟩ := st
    exact ⟨o, e, fun v z => by rw [d] at z; cases z⟩
  keep := fun i h h' st k => st.at fun o e => k it (by simp) o e
  item := by
    intro X hP hw hK hc i pins s σ H E I hf st hg
    subst hP hw hK
    obtain ⟨xs, x, hq, hx⟩ := hg
    obtain ⟨its, rv, p, hz⟩ := I.list hq
    obtain ⟨u, hu, ru⟩ := rv.get hx
    obtain ⟨f0, f1, f2, f3, f4, f5⟩ := hf it (by simp)
    refine wpAny_pyNext_list_item st p.isList (x := u) (by simpa using hu) fun h' st' sb => ?_
    have I1 : Inv X pins σ H { s with heap := h' } := I.turned (t' := s.toks) (fun b o hb e => (sb.2 b hb).trans e) f0 f1 f3 f4 f5
    obtain ⟨o, e, c, d⟩ := id st'
    exact ⟨u, rfl, go_of (s := { s with heap := h' }) e c d (by decide) ⟨x, H, I1, ru, ⟨rfl, fun ys hy => by rw [I.list_inj hy hq]; exact hx⟩, st', fun b hb => (hf b hb).1⟩⟩
  done := by
    intro X hP hw hK hc i pins s σ H E I hf st hg
    subst hP hw hK
    obtain ⟨xs, hq, hx⟩ := hg
    obtain ⟨its, rv, p, hz⟩ := I.list hq
    obtain ⟨f0, f1, f2, f3, f4, f5⟩ := hf it (by simp)
    have hl := rv.length
    exact wpAny_pyNext_list_end (I.ok.hd hc) st p.isList (by simp; omega) fun h' eb => ⟨rfl, I.turned (t' := s.toks) (fun b o hb e => eb b o hb e) f0 f1 f3 f4 f5⟩
  self := fun _ _ _ _ _ st h => wpAny_pyIter_listiter st h
theorem turn_range {P : Program} {w : World} {K : PySem.W.Frag} {tg : Expr} (it : Addr) (lo : Int) (n : Nat) : Turn P w K tg (Itr lo n) [it] it (fun i h => IsRangeIter h it (lo + (i : Nat) * 1) ((n : Int) - (i : Nat)) 1) where
  mem := by simp
  obj := fun i h st b hb => by
    have e : b = it := by simpa using hb
    subst e
    exact ⟨_, st, fun v z => by
      have z' : Data.fields _ = Data.cell v := z
      cases z'⟩
  keep := fun i h h' st k => k it (by simp) _ st
  item := by
    intro X hP hw hK hc i pins s σ H E I hf st hg
    subst hP hw hK
    obtain ⟨f0, f1, f2, f3, f4, f5⟩ := hf it (by simp)
    have W := Walks.range (prog := X.prog) (w := X.w) (I.ok.hd hc) it lo 1 n
    refine W.item i s _ _ hg st fun v h' tk hv st' kk => ?_
    obtain ⟨t, rfl⟩ := hv
    have I1 : Inv X pins σ H { s with heap := h', toks := tk } := I.turned (fun b o hb e => kk b o (by simpa using hb) e) f0 f1 f3 f4 f5
    refine ⟨_, rfl, go_of (s := { s with heap := h', toks := tk }) (n := "range_iterator") st' rfl rfl (by decide) ⟨.int (lo + i), H, I1, ⟨t, ?_⟩, ⟨rfl, rfl⟩, st', fun b hb => (hf b hb).1⟩⟩
    rw [Int.mul_one]
  done := by
    intro X hP hw hK hc i pins s σ H E I hf st hg
    subst hP hw hK
    obtain ⟨f0, f1, f2, f3, f4, f5⟩ := hf it (by simp)
    exact wpAny_pyNext_range_end (I.ok.hd hc) st (by have : n ≤ i := hg; omega) fun h' eb => ⟨rfl, I.turned (t' := s.toks) (fun b o hb e => eb b o hb e) f0 f1 f3 f4 f5⟩
  self := fun _ _ _ _ _ st h => wpAny_pyIter_rangeiter st h
end L2

namespace L2
open PySem PySem.Spec PyProof.Rows
section
variable {X : Cx} {tg : Expr}
def iList (K : PySem.W.Frag) (tl : TE) : TI := fun σ H R => tl σ H fun x H1 => ∃ a, x = .ref a ∧ (∃ xs, SqL K H1 a xs) ∧ R (Itl K a) H1
theorem pi_list {l : Expr} {tl : TE} (hl : PE X l tl) : PI X tg l (iList X.K tl) := by
  intro pins s σ H R I h
  refine thn (hl pins s σ H _ I h) fun v s1 ⟨x, H1, I1, r1, q1⟩ => ?_
  obtain ⟨a, e, ⟨xs, hq⟩, q⟩ := q1
  subst e
  cases r1
  obtain ⟨its, rv, p, hz⟩ := I1.list hq
  refine wpAny_pyIter_list p.isList ?_
  refine ⟨s1.heap.objs.size, [s1.heap.objs.size], _, _, H1, rfl, I1.kept (t' := s1.toks) fun b o e => Heap.get?_push_of_some _ e, turn_list a _, ⟨_, Heap.get?_push_size _ rfl, rfl, rfl⟩, fun b hb => ?_, q⟩
  have e : b = s1.heap.objs.size := by simpa using hb
  subst e
  exact I1.fpOk (Nat.le_refl _) (I1.hok.fresh (Nat.le_refl _))
/-- a range object just made, walked -/
theorem range_it {pins : List (Addr × Obj)} {σ : St} {H : Hp} {s : Shared} {R : It → Hp → Prop} {E : Value → Shared → Prop} {lo hi : Int} {t u v : Tok} {tk : Nat} (I : Inv X pins σ H s) (h1 : -(2 ^ 62) ≤ lo) (h2 : lo < 2 ^ 62) (h3 : -(2 ^ 62) ≤ hi) (h4 : hi < 2 ^ 62)
    (q : R (Itr lo (hi - lo).toNat) H) : wpAny (model X.prog X.w) X.A (pyIter (.ref s.heap.objs.size)) (PIE X pins σ tg R) E { s with heap := s.heap.push { cls := .type "range", data := .fields #[.int lo t, .int hi u, .int 1 v] }, toks := tk } := by
  refine wpAny_pyIter_range (IsRange.new ..) (small_one h1 h2 h3 h4) ?_
  have I1 : Inv X pins σ H { s with heap := s.heap.push { cls := .type "range", data := .fields #[.int lo t, .int hi u, .int 1 v] }, toks := tk } := I.kept fun b o e => Heap.get?_push_of_some _ e
  refine ⟨(s.heap.push { cls := .type "range", data := .fields #[.int lo t, .int hi u, .int 1 v] }).objs.size, [(s.heap.push { cls := .type "range", data := .fields #[.int lo t, .int hi u, .int 1 v] }).objs.size], _, _, H, rfl,
    I1.kept (t' := tk) fun b o e => Heap.get?_push_of_some _ e, turn_range _ lo (hi - lo).toNat, ?_, fun b hb => ?_, q⟩
  · have e1 : lo + ((0 : Nat) : Int) * 1 = lo := by simp
    have e2 : (((hi - lo).toNat : Nat) : Int) - ((0 : Nat) : Int) = Builtin.Range.rangeSize lo hi 1 := by rw [rangeSize_one]; split <;> omega
    show IsRangeIter _ _ (lo + ((0 : Nat) : Int) * 1) ((((hi - lo).toNat : Nat) : Int) - ((0 : Nat) : Int)) 1
    rw [e1, e2]
    exact Heap.get?_push_size _ rfl
  · have e : b = (s.heap.push { cls := .type "range", data := .fields #[.int lo t, .int hi u, .int 1 v] }).objs.size := by simpa using hb
    subst e
    exact I1.fpOk (Nat.le_refl _) (I1.hok.fresh (Nat.le_refl _))
def iRng1 (ta : TA) : TI := fun σ H R => ta σ H fun vs H1 => ∃ j : Int, vs = [.int j] ∧ -(2 ^ 62) ≤ j ∧ j < 2 ^ 62 ∧ R (Itr 0 j.toNat) H1
theorem pi_range1 {a : Expr} {ta : TA} {p pos : Pos} (hg : Gl X "range") (hm : X.mg "range" = none) (ha : PA X [a] ta) (hs : starEach [a] X.env = [(false, eval a X.env)] := by rfl) : PI X tg (.Call (.Name "range" p) [a] [] pos) (iRng1 ta) := by
  intro pins s σ H R I h
  refine Call_ (ld_blt I hg hm boot_range (PyProof.Rows.callWith_type1 (thn (ha pos pins s σ H _ I h) fun us s1 ⟨vs, H1, I1, r1, q1⟩ => ?_) hs rfl))
  obtain ⟨j, e, q1, q2, q⟩ := q1
  subst e
  cases r1 with
  | cons r rr =>
    cases rr
    obtain ⟨t, rfl⟩ := r
    exact call_range_1 (range_it I1 (by omega) (by omega) q1 q2 (by simpa using q))
/-! ### for -/
/-- W: the invariant by the turn and a measure; N: what the body is to reach -/
def tFor (wi : TI) (g : TG) (tb : TS) : TS := fun D σ H => wi σ H fun J H1 => ∃ W : Nat → Nat → St → Hp → Prop, (∃ m, W 0 m σ H1) ∧ ∀ i m σ H, W i m σ H →
  (J.stop i H ∧ D.nx σ H) ∨ (J.go i H ∧ ∃ N : St → Hp → Prop, (∀ σ' H', N σ' H' → ∃ m', m' < m ∧ W (i + 1) m' σ' H') ∧ ∀ x H', J.yld i H x H' → g x σ H' fun σ2 H2 => tb { D with nx := N, ct := N, bk := D.nx } σ2 H2)
/-- the records at fp as they stand -/
def pinsAt (fp : List Addr) (h : Heap) : List (Addr × Obj) := fp.filterMap fun b => (h.get? b).map fun o => (b, o)
theorem mem_pinsAt {fp : List Addr} {h : Heap} {b : Addr} {o : Obj} (hb : b ∈ fp) (e : h.get? b = some o) : (b, o) ∈ pinsAt fp h := List.mem_filterMap.mpr ⟨b, hb, by rw [e]; rfl⟩
theorem of_pinsAt {fp : List Addr} {h : Heap} {p : Addr × Obj} (hp : p ∈ pinsAt fp h) : p.1 ∈ fp ∧ h.get? p.1 = some p.2 := by
  obtain ⟨b, hb, e⟩ := List.mem_filterMap.mp hp
  cases q : h.get? b with
  | none => rw [q] at e; cases e
  | some o =>
    rw [q] at e
    have e' : (b, o) = p := Option.some.inj e
    subst e'
    exact ⟨hb, q⟩
theorem Inv.pinned {pins : List (Addr × Obj)} {σ : St} {H : Hp} {s : Shared} {fp : List Addr} (I : Inv X pins σ H s) (hf : ∀ b ∈ fp, FpOk X pins H b) (ho : ∀ b ∈ fp, ∃ o, s.heap.get? b = some o ∧ ∀ v, o.data ≠ .cell v) : Inv X (pins ++ pinsAt fp s.heap) σ H s :=
  I.pins_of fun p hp => (List.mem_append.mp hp).elim (fun z => I.pin p (List.mem_append_right _ z)) fun z => by
    obtain ⟨hb, e⟩ := of_pinsAt z
    obtain ⟨f0, f1, f2, _⟩ := hf p.1 hb
    obtain ⟨o, e', d⟩ := ho p.1 hb
    rw [e] at e'; cases e'
    exact ⟨e, f0, f1, f2, d⟩
theorem Inv.unpinned {pins pl : List (Addr × Obj)} {σ : St} {H : Hp} {s : Shared} (I : Inv X (pins ++ pl) σ H s) : Inv X pins σ H s := I.pins_of fun p hp => I.pin p (List.mem_append_right _ (List.mem_append_left _ hp))
theorem ps_for {iter : Expr} {body : List Stmt} {wi : TI} {g : TG} {tb : TS} {pos : Pos} (hp : PassesOwn (model X.prog X.w) X.A X.env X.xe) (hc : X.calm = true) (hi : PI X tg iter wi) (hg : PG X tg g) (hb : PSs X body tb)
    (hs : ∀ x, foldedSetIterable iter X.env x = pure x := by intro _; rfl) : PS X (.For tg iter body [] pos) (tFor wi g tb) := by
  intro pins s σ H D I h
  refine wpAny_For (thn (hi pins s σ H _ I h) fun v s1 h1 => thn h1 fun itv s2 h2 => ?_) hs
  obtain ⟨it, fp, tn, J, H2, e, I2, T, st2, f2, W, ⟨m0, w0⟩, turn⟩ := h2
  subst e
  -- what stays true of the iterator's objects through the loop
  have stat : ∀ {H' : Hp}, (∀ b ∈ fp, H' b = none) → ∀ b ∈ fp, FpOk X pins H' b := fun hn b hb => ⟨hn b hb, (f2 b hb).2⟩
  refine codeAny_forLoop_any (fun n s' => ∃ i σ' H', Inv X pins σ' H' s' ∧ tn i s'.heap ∧ (∀ b ∈ fp, H' b = none) ∧ W i n σ' H') ?_ m0 ⟨0, σ, H2, I2, st2, fun b hb => (f2 b hb).1, w0⟩
  rintro n s3 ⟨i, σ3, H3, I3, st3, fr3, w3⟩
  rcases turn i n σ3 H3 w3 with ⟨stop, qn⟩ | ⟨go, N, hN, step⟩
  · refine wpAny_passesOwn hp (thn (T.done X rfl rfl rfl hc i pins s3 σ3 H3 X.xe I3 (stat fr3) st3 stop) fun r s4 ⟨hr, I4⟩ => ?_)
    subst hr
    exact wpAny_execs_nil ⟨σ3, H3, I4, qn⟩
  · refine wpAny_passesOwn hp (thn (T.item X rfl rfl rfl hc i pins s3 σ3 H3 X.xe I3 (stat fr3) st3 go) fun r s4 ⟨u, hr, h4⟩ => ?_)
    subst hr
    refine wpAny_passesOwn hp (thn h4 fun _ s5 ⟨x, H5, I5, r5, y5, st5, fr5⟩ => ?_)
    have I5' := I5.pinned (stat fr5) (T.obj _ _ st5)
    refine wpAny_passesOwn hp (thn (hg _ s5 σ3 H5 x u _ I5' r5 (step x H5 y5)) fun _ s6 ⟨σ6, H6, I6, q6⟩ => ?_)
    refine wpAny_passesOwn hp (thn (hb _ s6 σ6 H6 _ I6 q6) fun f s7 q7 => ?_)
    have again : ∀ {σ7 : St} {H7 : Hp}, Inv X (pins ++ pinsAt fp s5.heap) σ7 H7 s7 → N σ7 H7 → ∃ m, m < n ∧ ∃ i σ' H', Inv X pins σ' H' s7 ∧ tn i s7.heap ∧ (∀ b ∈ fp, H' b = none) ∧ W i m σ' H' := fun {σ7 H7} I7 n7 => by
      obtain ⟨m', hm, w7⟩ := hN σ7 H7 n7
      refine ⟨m', hm, i + 1, σ7, H7, I7.unpinned, T.keep _ _ _ st5 fun b hb o e => (I7.pin (b, o) (List.mem_append_right _ (List.mem_append_right _ (mem_pinsAt hb e)))).1, fun b hb => ?_, w7⟩
      obtain ⟨o, e, d⟩ := T.obj _ _ st5 b hb
      exact (I7.pin (b, o) (List.mem_append_right _ (List.mem_append_right _ (mem_pinsAt hb e)))).2.1
    cases f with
    | next => obtain ⟨σ7, H7, I7, n7⟩ := q7; exact again I7 n7
    | cont => obtain ⟨σ7, H7, I7, n7⟩ := q7; exact again I7 n7
    | brk => obtain ⟨σ7, H7, I7, q7⟩ := q7; exact ⟨σ7, H7, I7.unpinned, q7⟩
    | ret v => obtain ⟨x7, σ7, H7, I7, r7, q7⟩ := q7; exact ⟨x7, σ7, H7, I7.unpinned, r7, q7⟩
end

/-! ### the forms one uses -/
/-- over a list that the body leaves as it is -/
theorem for_list {K : PySem.W.Frag} {a : Addr} {xs : List V} {g : TG} {tb : TS} {D : Ends} {σ : St} {H : Hp} (Pv : Nat → St → Hp → Prop) (h0 : Pv 0 σ H) (hl : ∀ i σ H, i ≤ xs.length → Pv i σ H → SqL K H a xs)
    (hs : ∀ i x σ H, xs[i]? = some x → Pv i σ H → g x σ H fun σ2 H2 => tb { D with nx := Pv (i + 1), ct := Pv (i + 1), bk := D.nx } σ2 H2) (hd : ∀ σ H, Pv xs.length σ H → D.nx σ H) :
    ∃ W : Nat → Nat → St → Hp → Prop, (∃ m, W 0 m σ H) ∧ ∀ i m σ H, W i m σ H →
      ((Itl K a).stop i H ∧ D.nx σ H) ∨ ((Itl K a).go i H ∧ ∃ N : St → Hp → Prop, (∀ σ' H', N σ' H' → ∃ m', m' < m ∧ W (i + 1) m' σ' H') ∧ ∀ x H', (Itl K a).yld i H x H' → g x σ H' fun σ2 H2 => tb { D with nx := N, ct := N, bk := D.nx } σ2 H2) := by
  refine ⟨fun i m σ H => m = xs.length - i ∧ i ≤ xs.length ∧ Pv i σ H, ⟨xs.length, by simp, Nat.zero_le _, h0⟩, ?_⟩
  rintro i m σ H ⟨rfl, hi, p⟩
  have q := hl i σ H hi p
  by_cases hlt : i < xs.length
  · refine .inr ⟨⟨xs, xs[i], q, by simp [hlt]⟩, Pv (i + 1), fun σ' H' p' => ⟨xs.length - (i + 1), by omega, rfl, hlt, p'⟩, fun x H' y => ?_⟩
    obtain ⟨e, y⟩ := y
    subst e
    exact hs i x σ _ (y xs q) p
  · have e : i = xs.length := by omega
    subst e
    exact .inl ⟨⟨xs, q, Nat.le_refl _⟩, hd σ H p⟩
theorem for_range {lo : Int} {n : Nat} {g : TG} {tb : TS} {D : Ends} {σ : St} {H : Hp} (Pv : Nat → St → Hp → Prop) (h0 : Pv 0 σ H)
    (hs : ∀ i σ H, i < n → Pv i σ H → g (.int (lo + i)) σ H fun σ2 H2 => tb { D with nx := Pv (i + 1), ct := Pv (i + 1), bk := D.nx } σ2 H2) (hd : ∀ σ H, Pv n σ H → D.nx σ H) :
    ∃ W : Nat → Nat → St → Hp → Prop, (∃ m, W 0 m σ H) ∧ ∀ i m σ H, W i m σ H →
      ((Itr lo n).stop i H ∧ D.nx σ H) ∨ ((Itr lo n).go i H ∧ ∃ N : St → Hp → Prop, (∀ σ' H', N σ' H' → ∃ m', m' < m ∧ W (i + 1) m' σ' H') ∧ ∀ x H', (Itr lo n).yld i H x H' → g x σ H' fun σ2 H2 => tb { D with nx := N, ct := N, bk := D.nx } σ2 H2) := by
  refine ⟨fun i m σ H => m = n - i ∧ i ≤ n ∧ Pv i σ H, ⟨n, by simp, Nat.zero_le _, h0⟩, ?_⟩
  rintro i m σ H ⟨rfl, hi, p⟩
  by_cases hlt : i < n
  · refine .inr ⟨hlt, Pv (i + 1), fun σ' H' p' => ⟨n - (i + 1), by omega, rfl, hlt, p'⟩, fun x H' y => ?_⟩
    obtain ⟨e, y⟩ := y
    subst e y
    exact hs i σ _ hlt p
  · have e : i = n := by omega
    subst e
    exact .inl ⟨Nat.le_refl _, hd σ H p⟩
end L2

namespace L2
open PySem PySem.Spec PyProof.Rows

abbrev R2 := V → V → Hp → VK → Prop
/-- a two-place operation on values: f is binaryOp op, inplaceOp op or compareOp op -/
def OpR (X : Cx) (f : Value → Value → Sem Value) (r : R2) : Prop :=
  ∀ (pins : List (Addr × Obj)) (s : Shared) (σ : St) (H : Hp) (x y : V) (v u : Value) (Q : VK), Inv X pins σ H s → RelV x v → RelV y u → r x y H Q →
    wpAny (model X.prog X.w) X.A (f v u) (EP X pins σ Q) X.xe s
/-- a call of a value that is known (a builtin, a type) with values -/
def CallR (X : Cx) (f : Value) (r : List V → Hp → VK → Prop) : Prop :=
  ∀ (pins : List (Addr × Obj)) (s : Shared) (σ : St) (H : Hp) (xs : List V) (us : List Value) (Q : VK), Inv X pins σ H s → Vals xs us → r xs H Q →
    wpAny (model X.prog X.w) X.A (call f us) (EP X pins σ Q) X.xe s
def tOp (r : R2) (ta tb : TE) : TE := fun σ H Q => ta σ H fun x H1 => tb σ H1 fun y H2 => r x y H2 Q
/-- ints in, under C, and a value out -/
def rI (C : Int → Int → Prop) (g : Int → Int → V) : R2 := fun x y H Q => ∃ i j, x = .int i ∧ y = .int j ∧ C i j ∧ Q (g i j) H
def rI0 (g : Int → Int → V) : R2 := fun x y H Q => ∃ i j, x = .int i ∧ y = .int j ∧ Q (g i j) H
section
variable {X : Cx} {a b c : Expr} {ta tb tc : TE} {pos : Pos}

theorem binT (ha : PE X a ta) (hb : PE X b tb) {pins : List (Addr × Obj)} {s : Shared} {σ : St} {H : Hp} {R : V → V → Hp → Prop} (I : Inv X pins σ H s)
    (h : ta σ H fun x H1 => tb σ H1 fun y H2 => R x y H2) {Q : Value → Shared → Prop} {f : Value → Value → Sem Value}
    (hf : ∀ v u s2 x y H2, Inv X pins σ H2 s2 → RelV x v → RelV y u → R x y H2 → wpAny (model X.prog X.w) X.A (f v u) Q X.xe s2) :
    wpAny (model X.prog X.w) X.A (eval a X.env) (fun v s₁ => wpAny (model X.prog X.w) X.A (eval b X.env) (fun u s₂ => wpAny (model X.prog X.w) X.A (f v u) Q X.xe s₂) X.xe s₁) X.xe s := by
  refine thn (ha pins s σ H _ I h) fun v s1 ⟨x, H1, I1, r1, q1⟩ => ?_
  refine thn (hb pins s1 σ H1 _ I1 q1) fun u s2 ⟨y, H2, I2, r2, q2⟩ => ?_
  exact hf v u s2 x y H2 I2 r1 r2 q2

theorem pe_op {op : Operator} {r : R2} (ho : OpR X (binaryOp op) r) (ha : PE X a ta) (hb : PE X b tb) : PE X (.BinOp a op b pos) (tOp r ta tb) := by
  intro pins s σ H Q I h
  exact wpAny_BinOp (binT ha hb I h fun v u s2 x y H2 I2 rx ry q => ho pins s2 σ H2 x y v u Q I2 rx ry q)
/-! ### ints -/
theorem opI {f : Value → Value → Sem Value} {C : Int → Int → Prop} {g : Int → Int → Int}
    (rule : ∀ (i j : Int) (t u : Tok) (s : Shared) (Q : Value → Shared → Prop) (E : Value → Shared → Prop), C i j → Q (.int (g i j) s.toks) { s with toks := s.toks + 1 } → wpAny (model X.prog X.w) X.A (f (.int i t) (.int j u)) Q E s) :
    OpR X f (rI C fun i j => .int (g i j)) := by
  intro pins s σ H x y v u Q I rx ry h
  obtain ⟨i, j, rfl, rfl, hc, q⟩ := h
  obtain ⟨t, rfl⟩ := rx
  obtain ⟨t', rfl⟩ := ry
  exact rule i j t t' s _ _ hc ⟨.int (g i j), H, I.tok _, ⟨_, rfl⟩, q⟩
theorem opI0 {f : Value → Value → Sem Value} {g : Int → Int → Int}
    (rule : ∀ (i j : Int) (t u : Tok) (s : Shared) (Q : Value → Shared → Prop) (E : Value → Shared → Prop), Q (.int (g i j) s.toks) { s with toks := s.toks + 1 } → wpAny (model X.prog X.w) X.A (f (.int i t) (.int j u)) Q E s) :
    OpR X f (rI0 fun i j => .int (g i j)) := by
  intro pins s σ H x y v u Q I rx ry h
  obtain ⟨i, j, rfl, rfl, q⟩ := h
  obtain ⟨t, rfl⟩ := rx
  obtain ⟨t', rfl⟩ := ry
  exact rule i j t t' s _ _ ⟨.int (g i j), H, I.tok _, ⟨_, rfl⟩, q⟩
theorem opB0 {f : Value → Value → Sem Value} {g : Int → Int → Bool}
    (rule : ∀ (i j : Int) (t u : Tok) (s : Shared) (Q : Value → Shared → Prop) (E : Value → Shared → Prop), Q (.bool (g i j)) s → wpAny (model X.prog X.w) X.A (f (.int i t) (.int j u)) Q E s) :
    OpR X f (rI0 fun i j => .bl (g i j)) := by
  intro pins s σ H x y v u Q I rx ry h
  obtain ⟨i, j, rfl, rfl, q⟩ := h
  obtain ⟨t, rfl⟩ := rx
  obtain ⟨t', rfl⟩ := ry
  exact rule i j t t' s _ _ ⟨.bl (g i j), H, I, rfl, q⟩

def CDiv (i j : Int) : Prop := 0 < j ∧ j < 1073741824
def CMul (i j : Int) : Prop := (-(2 ^ 64) < i ∧ i < 2 ^ 64) ∨ (-(2 ^ 64) < j ∧ j < 2 ^ 64)
theorem CMul.ok {i j : Int} (h : CMul i j) : IntMulOk i j := by
  rcases h with ⟨h1, h2⟩ | ⟨h1, h2⟩
  · exact .of_left (intBits_le_64 h1 h2)
  · exact .of_right (intBits_le_64 h1 h2)
theorem op_add : OpR X (binaryOp .Add) (rI0 fun i j => .int (i + j)) := opI0 fun _ _ _ _ _ _ _ q => add_int q
theorem op_sub : OpR X (binaryOp .Sub) (rI0 fun i j => .int (i - j)) := opI0 fun _ _ _ _ _ _ _ q => sub_int q
theorem op_mul : OpR X (binaryOp .Mult) (rI CMul fun i j => .int (i * j)) := opI fun _ _ _ _ _ _ _ hc q => mul_int q hc.ok
/-- // by a positive divisor -/
theorem op_fdiv : OpR X (binaryOp .FloorDiv) (rI CDiv fun i j => .int (i / j)) := opI fun i j _ _ _ _ _ hc q => by
  have h1 : (0 : Int) < j := hc.1
  have h2 : j < 1073741824 := hc.2
  exact floordiv_int (by omega) (by rw [Int.fdiv_eq_ediv_of_nonneg i (by omega)]; exact q) (.inl (PyProof.noPylong_small (by omega)))
/-- % by a positive divisor of any size -/
theorem op_mod : OpR X (binaryOp .Mod) (rI (fun _ j => 0 < j) fun i j => .int (i % j)) := opI fun i j _ _ _ _ _ hc q => by
  have h1 : (0 : Int) < j := hc
  exact mod_int' (by omega) (by rw [Int.fmod_eq_emod_of_nonneg i (by omega)]; exact q)
/-! ### bools among ints: n += (a < b) -/
end

/-! ### comparisons -/
/-- the scalars that == tells apart as data does -/
def scal : V → V → Bool
  | .non, .non => true | .non, .int _ => true | .int _, .non => true | .non, .bl _ => true | .bl _, .non => true | .non, .str _ => true | .str _, .non => true
  | .int _, .int _ => true | .bl _, .bl _ => true | .str _, .str _ => true | .byt _, .byt _ => true
  | .int _, .str _ => true | .str _, .int _ => true | .bl _, .str _ => true | .str _, .bl _ => true
  | _, _ => false
def rEq : R2 := fun x y H Q => scal x y = true ∧ Q (.bl (decide (x = y))) H
def rNe : R2 := fun x y H Q => scal x y = true ∧ Q (.bl (!decide (x = y))) H

theorem dec_int {i j : Int} : decide (V.int i = V.int j) = (i == j) := by
  rw [Bool.eq_iff_iff]
  simp
theorem dec_bl {i j : Bool} : decide (V.bl i = V.bl j) = (i == j) := by
  rw [Bool.eq_iff_iff]
  simp
theorem dec_str {i j : Str} : decide (V.str i = V.str j) = (i == j) := by
  rw [Bool.eq_iff_iff]
  simp
theorem dec_byt {i j : Array UInt8} : decide (V.byt i = V.byt j) = (i.toList == j.toList) := by
  rw [Bool.eq_iff_iff]
  cases i
  cases j
  simp

section
variable {X : Cx} {a b c : Expr} {ta tb tc : TE} {pos : Pos}
theorem fin_bl {pins : List (Addr × Obj)} {σ : St} {H : Hp} {s : Shared} {Q : VK} {k k' : Bool} (I : Inv X pins σ H s) (q : Q (.bl k) H) (e : k = k') : EP X pins σ Q (.bool k') s := by
  subst e
  exact ⟨.bl k, H, I, rfl, q⟩
theorem op_eq : OpR X (compareOp .Eq) rEq := by
  intro pins s σ H x y v u Q I rx ry h
  obtain ⟨hs, q⟩ := h
  cases x with
  | non =>
    cases rx
    cases y with
    | non => cases ry; exact PySem.EqNone.eq_none_none (fin_bl I q (by simp))
    | bl j => cases ry; exact PySem.EqNone.eq_none_bool (fin_bl I q (by simp))
    | int j => obtain ⟨t', rfl⟩ := ry; exact PySem.EqNone.eq_none_int (fin_bl I q (by simp))
    | str j => obtain ⟨t', rfl⟩ := ry; exact PySem.EqNone.eq_none_str (fin_bl I q (by simp))
    | _ => exact absurd (show false = true from hs) Bool.false_ne_true
  | bl i =>
    cases rx
    cases y with
    | non => cases ry; exact PySem.EqNone.eq_bool_none (fin_bl I q (by simp))
    | bl j => cases ry; exact eq_bool (fin_bl I q dec_bl)
    | str j => obtain ⟨t', rfl⟩ := ry; exact PySem.EqMixed.eq_bool_str (fin_bl I q (by simp))
    | _ => exact absurd (show false = true from hs) Bool.false_ne_true
  | int i =>
    obtain ⟨t, rfl⟩ := rx
    cases y with
    | non => cases ry; exact PySem.EqNone.eq_int_none (fin_bl I q (by simp))
    | int j => obtain ⟨t', rfl⟩ := ry; exact eq_int (fin_bl I q dec_int)
    | str j => obtain ⟨t', rfl⟩ := ry; exact PySem.EqMixed.eq_int_str (fin_bl I q (by simp))
    | _ => exact absurd (show false = true from hs) Bool.false_ne_true
  | str i =>
    obtain ⟨t, rfl⟩ := rx
    cases y with
    | non => cases ry; exact PySem.EqNone.eq_str_none (fin_bl I q (by simp))
    | bl j => cases ry; exact PySem.EqMixed.eq_str_bool (fin_bl I q (by simp))
    | int j => obtain ⟨t', rfl⟩ := ry; exact PySem.EqMixed.eq_str_int (fin_bl I q (by simp))
    | str j => obtain ⟨t', rfl⟩ := ry; exact eq_str (fin_bl I q dec_str)
    | _ => exact absurd (show false = true from hs) Bool.false_ne_true
  | byt i =>
    obtain ⟨t, rfl⟩ := rx
    cases y with
    | byt j => obtain ⟨t', rfl⟩ := ry; exact PySem.W.eq_bytes (fin_bl I q dec_byt)
    | _ => exact absurd (show false = true from hs) Bool.false_ne_true
  | _ => cases y <;> exact absurd (show false = true from hs) Bool.false_ne_true
theorem op_ne : OpR X (compareOp .NotEq) rNe := by
  intro pins s σ H x y v u Q I rx ry h
  obtain ⟨hs, q⟩ := h
  cases x with
  | non =>
    cases rx
    cases y with
    | non => cases ry; exact PySem.EqNone.ne_none_none (fin_bl I q (by simp))
    | bl j => cases ry; exact PySem.EqNone.ne_none_bool (fin_bl I q (by simp))
    | int j => obtain ⟨t', rfl⟩ := ry; exact PySem.EqNone.ne_none_int (fin_bl I q (by simp))
    | str j => obtain ⟨t', rfl⟩ := ry; exact PySem.EqNone.ne_none_str (fin_bl I q (by simp))
    | _ => exact absurd (show false = true from hs) Bool.false_ne_true
  | bl i =>
    cases rx
    cases y with
    | non => cases ry; exact PySem.EqNone.ne_bool_none (fin_bl I q (by simp))
    | bl j => cases ry; exact ne_bool (fin_bl I q (congrArg not dec_bl))
    | str j => obtain ⟨t', rfl⟩ := ry; exact PySem.EqMixed.ne_bool_str (fin_bl I q (by simp))
    | _ => exact absurd (show false = true from hs) Bool.false_ne_true
  | int i =>
    obtain ⟨t, rfl⟩ := rx
    cases y with
    | non => cases ry; exact PySem.EqNone.ne_int_none (fin_bl I q (by simp))
    | int j => obtain ⟨t', rfl⟩ := ry; exact ne_int (fin_bl I q (congrArg not dec_int))
    | str j => obtain ⟨t', rfl⟩ := ry; exact PySem.EqMixed.ne_int_str (fin_bl I q (by simp))
    | _ => exact absurd (show false = true from hs) Bool.false_ne_true
  | str i =>
    obtain ⟨t, rfl⟩ := rx
    cases y with
    | non => cases ry; exact PySem.EqNone.ne_str_none (fin_bl I q (by simp))
    | bl j => cases ry; exact PySem.EqMixed.ne_str_bool (fin_bl I q (by simp))
    | int j => obtain ⟨t', rfl⟩ := ry; exact PySem.EqMixed.ne_str_int (fin_bl I q (by simp))
    | str j => obtain ⟨t', rfl⟩ := ry; exact ne_str (fin_bl I q (congrArg not dec_str))
    | _ => exact absurd (show false = true from hs) Bool.false_ne_true
  | byt i =>
    obtain ⟨t, rfl⟩ := rx
    cases y with
    | byt j => obtain ⟨t', rfl⟩ := ry; exact PySem.W.ne_bytes (fin_bl I q (congrArg not dec_byt))
    | _ => exact absurd (show false = true from hs) Bool.false_ne_true
  | _ => cases y <;> exact absurd (show false = true from hs) Bool.false_ne_true

theorem op_lt : OpR X (compareOp .Lt) (rI0 fun i j => .bl (decide (i < j))) := opB0 fun _ _ _ _ _ _ _ q => lt_int q
theorem op_gt : OpR X (compareOp .Gt) (rI0 fun i j => .bl (decide (j < i))) := opB0 fun _ _ _ _ _ _ _ q => gt_int q
theorem nomark (b : Expr) {op : CmpOp} (h : op ≠ .In := by decide) (h2 : op ≠ .NotIn := by decide) : behindInMarks op b = false := by
  have e1 : (op == CmpOp.In) = false := by cases op <;> first | rfl | exact absurd rfl h
  have e2 : (op == CmpOp.NotIn) = false := by cases op <;> first | rfl | exact absurd rfl h2
  cases b <;> simp [behindInMarks, e1, e2]
/-- a comparison as a value; hm: nomark b, or (for in, not in) by with_unfolding_all rfl -/
theorem pe_cmpR {op : CmpOp} {r : R2} (ho : OpR X (compareOp op) r) (ha : PE X a ta) (hb : PE X b tb) (hm : behindInMarks op b = false) : PE X (.Compare a [op] [b] pos) (tOp r ta tb) := by
  intro pins s σ H Q I h
  exact wpAny_Compare1 (binT ha hb I h fun v u s2 x y H2 I2 rx ry q => ho pins s2 σ H2 x y v u Q I2 rx ry q) hm
/-- a reading of a value as a test -/
def tTest (t : TE) : TT := fun σ H Q => t σ H fun x H' => ∃ k, x = .bl k ∧ Q k H'
theorem pt_cmpR {op : CmpOp} {r : R2} (ho : OpR X (compareOp op) r) (ha : PE X a ta) (hb : PE X b tb) (hm : behindInMarks op b = false) : PT X (.Compare a [op] [b] pos) (tTest (tOp r ta tb)) := by
  intro pins s σ H Q I h
  refine wpAny_isTrue_Compare1 (thn (ha pins s σ H _ I h) fun v s1 ⟨x, H1, I1, r1, q1⟩ => thn (hb pins s1 σ H1 _ I1 q1) fun u s2 ⟨y, H2, I2, r2, q2⟩ =>
    thn (ho pins s2 σ H2 x y v u _ I2 r1 r2 q2) fun c s3 ⟨z, H3, I3, r3, k, e, q3⟩ => ?_) hm
  subst e
  cases r3
  exact wpAny_truthy_bool ⟨H3, I3, q3⟩
/-! ### truth -/
theorem line63 : (sizeLine : Nat) < 2 ^ 63 := by rw [sizeLine_eq]; decide
/-! ### strs and bytes -/
theorem op_add_str : OpR X (binaryOp .Add) (fun x y H Q => ∃ i j, x = .str i ∧ y = .str j ∧ i.length + j.length ≤ sizeLine ∧ Q (.str (i ++ j)) H) := by
  intro pins s σ H x y v u Q I rx ry h
  obtain ⟨i, j, rfl, rfl, hz, q⟩ := h
  obtain ⟨t, rfl⟩ := rx
  obtain ⟨t', rfl⟩ := ry
  exact add_str (fun t' tk => ⟨.str (i ++ j), H, I.tok _, ⟨_, rfl⟩, q⟩) hz
/-! ### scalar builtins, by CallR -/
theorem vals1 {x : V} {us : List Value} (r : Vals [x] us) : ∃ u, us = [u] ∧ RelV x u := by
  cases r with
  | cons r1 r2 => cases r2; exact ⟨_, rfl, r1⟩
theorem call_str_int : CallR X (.type "str") (fun xs H Q => ∃ i, xs = [.int i] ∧ i.natAbs.log2 < 1920 ∧ Q (.str (toString i)) H) := by
  intro pins s σ H xs us Q I r h
  obtain ⟨i, rfl, hz, q⟩ := h
  obtain ⟨u, rfl, t, rfl⟩ := vals1 r
  exact PySem.P.str_of_int hz ⟨.str _, H, I.tok _, ⟨_, rfl⟩, q⟩
end
end L2

namespace L2
open PySem PySem.Spec PyProof.Rows

/-! ### an instance, its attributes a map -/
structure ObjM (h : Heap) (x dx C : Addr) (mA : Str → Option Value) : Prop where
  obj : h.get? x = some (PySem.W.instObj C dx)
  ns : h.Ns1 dx mA
  ne : dx ≠ x

theorem lookIn_ns {h : Heap} {dx : Addr} {mA : Str → Option Value} (n : h.Ns1 dx mA) : ∃ od, h.get? dx = some od ∧ ∀ name, PySem.W.lookIn name od = some (mA name) := by
  obtain ⟨o, es, ep, ho, hd, hk, _, hm⟩ := n
  refine ⟨o, ho, fun name => ?_⟩
  have e := hm name
  unfold nsFind findBy at e
  rw [← Array.find?_toList] at e
  unfold PySem.W.lookIn
  rw [hd]
  dsimp only
  split
  · rename_i y q
    rw [q] at e
    exact congrArg some e
  · rename_i q
    rw [q] at e
    have a : es.toList.any (·.refKey) = false := by
      rw [List.any_eq_false]
      intro y hy
      obtain ⟨z, t, hkey⟩ := hk y (Array.mem_toList_iff.mp hy)
      simp [DictEntry.refKey, hkey]
    have a' : ¬ es.toList.any (·.refKey) = true := by rw [a]; exact Bool.false_ne_true
    rw [if_neg a']
    exact congrArg some e

theorem ObjM.look {h : Heap} {x dx C : Addr} {mA : Str → Option Value} (I : ObjM h x dx C mA) : ∃ od, PySem.W.InstAt h x (PySem.W.instObj C dx) C (some od) ∧ ∀ name, PySem.W.lookIn name od = some (mA name) :=
  let ⟨od, ho, hl⟩ := lookIn_ns I.ns
  ⟨od, ⟨I.obj, rfl, rfl, ho⟩, hl⟩

section
variable {prog : Program} {w : World} {A : Around} {E : Value → Shared → Prop} {s : Shared} {K : PySem.W.Frag} {x dx C f : Addr} {mA : Str → Option Value} {name : Str} {v : Value}

theorem get_map {expr : Bool} {Q : Value → Shared → Prop} (X : K.In s.heap) (I : ObjM s.heap x dx C mA) (hg : PySem.W.plainGet K C name = true) (hh : PySem.W.hasDictIn K C = true)
    (ha : PySem.W.findIn K (.ref C) name = some none) (hv : mA name = some v) (hv' : PySem.W.handedIn v = true) (h : Q v { s with toks := s.toks + 1 }) :
    wpAny (model prog w) A (getAttr (.ref x) name expr) Q E s := by
  obtain ⟨od, J, hl⟩ := I.look
  exact PySem.W.get_value X J (PySem.W.plainGet_of hg).1 (PySem.W.findObj_own hh ha rfl (by rw [hl, hv])) hv' h

theorem get_meth {pl : Sem Bool} {Q : Value × List Value → Shared → Prop} (X : K.In s.heap) (I : ObjM s.heap x dx C mA) (hg : PySem.W.plainGet K C name = true)
    (hf : PySem.W.findIn K (.ref C) name = some (some (.ref f))) (ht : PySem.W.isFn K (.ref f) = true) (hv : mA name = none) (h : Q (.ref f, [.ref x]) s) :
    wpAny (model prog w) A (getMethod (.ref x) name pl) Q E s := by
  obtain ⟨od, J, hl⟩ := I.look
  exact PySem.W.method_fn X J (PySem.W.plainGet_of hg).1 (PySem.W.plainGet_of hg).2 hf (beq_iff_eq.mp ht) (by show (PySem.W.lookIn name od).map (·.isSome) = some false; rw [hl, hv]; rfl) h

theorem set_map {ns : List Str} {Q : Unit → Shared → Prop} (X : K.In s.heap) (I : ObjM s.heap x dx C mA)
    (hs : PySem.W.findIn K (.ref C) "__setattr__" = some (some (.builtin "object.__setattr__"))) (hp : PySem.W.plainOver K C = true) (ht : PySem.W.takerIn K C name = some none) (hh : PySem.W.hasDictIn K C = true)
    (hw : PySem.Within mA ns) (hsz : ns.length ≤ sizeLine)
    (h : ∀ h', ObjM h' x dx C (fun y => if y = name then some v else mA y) → Heap.SameBut dx s.heap h' → Q () { s with heap := h', toks := s.toks + 2 }) :
    wpAny (model prog w) A (setAttr (.ref x) name v) Q E s := by
  obtain ⟨od, J, hl⟩ := I.look
  refine PySem.W.set_plain X J hs (PySem.W.osa_open (s := { s with toks := s.toks + 1 }) (r := none) X J hp ht fun b => ?_)
  obtain ⟨cd, hc, hd'⟩ := PySem.W.any_some hh
  have hx : s.heap.get? x = some ⟨.ref C, some dx, .plain, #[]⟩ := I.obj
  refine wpAny_bind (wpAny_pure (wpAny_bind (wpAny_bind (wpAny_loadPart hx (wpAny_bind (PySem.W.Looks.here (s := { s with toks := s.toks + 1 }) (PySem.W.looks_clsIn X hc) ?_))))))
  rw [hd']
  refine wpAny_pure (a := some dx) (wpAny_bind (wpAny_pure (wpAny_bind ?_)))
  refine wpAny_nsSet1 (s := { s with toks := s.toks + 1 }) I.ns fun h' hn2 hs2 => ?_
  obtain ⟨oD, esD, epD, hoD, hdD, hcD⟩ := hn2.count (PySem.Within.cons name v hw)
  refine wpAny_bind (wpAny_lookBehind hoD (by rw [hdD]; exact pastItsLine_dict (Nat.le_trans hcD (by rw [List.length_cons]; omega))) ?_)
  exact wpAny_pure (h _ ⟨(hs2.2 _ (Ne.symm I.ne)).trans I.obj, hn2, I.ne⟩ hs2)

/-- C(..): the dict at the heap's end, the instance behind it; then its __init__ -/
theorem make_map {R : Result → Shared → Prop} {vs : List Value} {kw : List (Str × Value)} (X : K.In s.heap) (hm : PySem.W.makesIn K C = true)
    (hi : PySem.W.findIn K (.ref C) "__init__" = some (some (.ref f))) (hf : PySem.W.typeIn K (.ref f) = some (.type "function"))
    (h : codeAny (model prog w) (A.under (.builtin "type.__call__" ⟨.ref C :: vs, kw⟩)) (.call (.ref f) ⟨.ref (s.heap.objs.size + 1) :: vs, kw⟩) (PySem.W.InitBack (s.heap.objs.size + 1) R)
      { s with heap := (s.heap.push PySem.W.emptyDict).push (PySem.W.instObj C s.heap.objs.size) }) :
    codeAny (model prog w) A (.call (.ref C) ⟨vs, kw⟩) R s := by
  obtain ⟨hh, g, d, t, os⟩ := s
  exact PySem.W.make_core (PySem.W.makes_of X hm) (PySem.W.looks_findIn X hi) (fun self => PySem.W.bind_fn X self hf) (.inl rfl) h
end

/-! ### the attributes as a list of pairs -/
def putF (f : Str) (v : V) : List (Str × V) → List (Str × V)
  | [] => [(f, v)]
  | (g, x) :: r => if g = f then (g, v) :: r else (g, x) :: putF f v r
theorem lookup_putF (f g : Str) (v : V) : ∀ fs : List (Str × V), (putF f v fs).lookup g = if g = f then some v else fs.lookup g
  | [] => by
    show List.lookup g [(f, v)] = _
    by_cases h : g = f
    · have hb : (g == f) = true := beq_iff_eq.mpr h
      simp only [List.lookup, hb, if_pos h]
    · have hb : (g == f) = false := beq_eq_false_iff_ne.mpr h
      simp only [List.lookup, hb, if_neg h]
  | (k, x) :: r => by
    have ih := lookup_putF f g v r
    rw [show putF f v ((k, x) :: r) = (if k = f then (k, v) :: r else (k, x) :: putF f v r) from rfl]
    by_cases hk : k = f
    · rw [if_pos hk]
      by_cases h : g = k
      · have hb : (g == k) = true := beq_iff_eq.mpr h
        simp only [List.lookup, hb, if_pos (h.trans hk)]
      · have hb : (g == k) = false := beq_eq_false_iff_ne.mpr h
        simp only [List.lookup, hb, if_neg (fun e : g = f => h (e.trans hk.symm))]
    · rw [if_neg hk]
      by_cases h : g = k
      · have hb : (g == k) = true := beq_iff_eq.mpr h
        simp only [List.lookup, hb, if_neg (fun e : g = f => hk (h.symm.trans e))]
      · have hb : (g == k) = false := beq_eq_false_iff_ne.mpr h
        simp only [List.lookup, hb]
        exact ih
theorem keys_putF (f : Str) (v : V) : ∀ fs : List (Str × V), f ∈ (putF f v fs).map (·.1) ∧ ∀ g, g ∈ fs.map (·.1) → g ∈ (putF f v fs).map (·.1)
  | [] => ⟨by simp [putF], fun g h => by simp at h⟩
  | (k, x) :: r => by
    obtain ⟨i1, i2⟩ := keys_putF f v r
    rw [show putF f v ((k, x) :: r) = (if k = f then (k, v) :: r else (k, x) :: putF f v r) from rfl]
    by_cases hk : k = f
    · rw [if_pos hk]
      subst hk
      exact ⟨by simp, fun g h => by simpa using h⟩
    · rw [if_neg hk]
      refine ⟨?_, fun g h => ?_⟩
      · rw [List.map_cons]
        exact List.mem_cons_of_mem _ i1
      · rw [List.map_cons] at h ⊢
        rcases List.mem_cons.mp h with e | e
        · exact List.mem_cons.mpr (.inl e)
        · exact List.mem_cons_of_mem _ (i2 g e)
theorem length_putF (f : Str) (v : V) : ∀ fs : List (Str × V), (putF f v fs).length ≤ fs.length + 1
  | [] => by simp [putF]
  | (k, x) :: r => by
    have ih := length_putF f v r
    rw [show putF f v ((k, x) :: r) = (if k = f then (k, v) :: r else (k, x) :: putF f v r) from rfl]
    by_cases hk : k = f
    · rw [if_pos hk, List.length_cons, List.length_cons]; omega
    · rw [if_neg hk, List.length_cons, List.length_cons]; omega

theorem RelO.some_of {v : V} {o : Option Value} (r : RelO (some v) o) : ∃ u, o = some u ∧ RelV v u := by
  cases o with
  | none => exact (show False from r).elim
  | some u => exact ⟨u, rfl, r⟩
theorem RelO.none_of {o : Option Value} (r : RelO none o) : o = none := by
  cases o with
  | none => rfl
  | some u => exact (show False from r).elim
theorem handed_of {v : V} {u : Value} (r : RelV v u) : PySem.W.handedIn u = true := by
  cases v with
  | non => cases (show u = Value.none from r); rfl
  | bl b => cases (show u = Value.bool b from r); rfl
  | int i => obtain ⟨t, e⟩ := (show ∃ t, u = Value.int i t from r); cases e; rfl
  | str x => obtain ⟨t, e⟩ := (show ∃ t, u = Value.str x t from r); cases e; rfl
  | byt b => obtain ⟨t, e⟩ := (show ∃ t, u = Value.bytes b t from r); cases e; rfl
  | flt b => obtain ⟨t, e⟩ := (show ∃ t, u = Value.float b t from r); cases e; rfl
  | ref a => cases (show u = Value.ref a from r); rfl
  | ty n => cases (show u = Value.type n from r); rfl

section
variable {P : Program} {w : World} {H H' : Hp} {h h' : Heap} {a C dx : Addr} {fs fs' : List (Str × V)}
theorem ins_get (hok : HOk P w H h) (e : H a = some (.ins C dx fs)) : ∃ mA, ObjM h a dx C mA ∧ (∀ f, RelO (fs.lookup f) (mA f)) ∧ PySem.Within mA (fs.map (·.1)) ∧ fs.length ≤ 1000 ∧ H dx = some (.own a) := by
  obtain ⟨d, z, ne, ob, mA, n, r, q⟩ := (show ObjOk P w H h a (.ins C dx fs) from hok a _ e)
  exact ⟨mA, ⟨ob, n, ne⟩, r, q, z, d⟩
end

/-! ### what of the text a class must have -/
structure Cls (K : PySem.W.Frag) (C : Addr) : Prop where
  pg : PySem.W.plainGet K C Str.empty = true
  hd : PySem.W.hasDictIn K C = true
  po : PySem.W.plainOver K C = true
  sa : PySem.W.findIn K (.ref C) "__setattr__" = some (some (.builtin "object.__setattr__"))
theorem Cls.get {K : PySem.W.Frag} {C : Addr} (c : Cls K C) (f : Str) : PySem.W.plainGet K C f = true := c.pg
/-- no class of it has the name -/
def NoAttr (K : PySem.W.Frag) (C : Addr) (f : Str) : Prop := PySem.W.findIn K (.ref C) f = some none
theorem NoAttr.taker {K : PySem.W.Frag} {C : Addr} {f : Str} (n : NoAttr K C f) : PySem.W.takerIn K C f = some none := by
  unfold PySem.W.takerIn
  rw [show PySem.W.findIn K (.ref C) f = some none from n]
  rfl
/-- a method: a plain def of the class or of one above it -/
structure Meth (K : PySem.W.Frag) (C : Addr) (m : Str) (f : Addr) : Prop where
  at_ : PySem.W.findIn K (.ref C) m = some (some (.ref f))
  fn : PySem.W.isFn K (.ref f) = true
  kp : PySem.W.keepIn K (.ref f) = true

section
variable {X : Cx} {pins : List (Addr × Obj)} {σ : St} {H : Hp} {s : Shared} {a C dx : Addr} {fs : List (Str × V)} {f : Str} {v : V} {A : Around} {E : Value → Shared → Prop}

theorem getattr_ok {b : Bool} {Q : Value → Shared → Prop} (I : Inv X pins σ H s) (e : H a = some (.ins C dx fs)) (c : Cls X.K C) (n : NoAttr X.K C f) (l : fs.lookup f = some v)
    (h : ∀ u s', Inv X pins σ H s' → RelV v u → Q u s') : wpAny (model X.prog X.w) A (getAttr (.ref a) f b) Q E s := by
  obtain ⟨mA, O, r, _, _, _⟩ := ins_get I.hok e
  obtain ⟨u, hu, ru⟩ := RelO.some_of (v := v) (o := mA f) (by rw [← l]; exact r f)
  exact get_map I.kIn O (c.get f) c.hd n hu (handed_of ru) (h u _ (I.tok _) ru)

theorem getmeth_ok {m : Str} {g : Addr} {pl : Sem Bool} {Q : Value × List Value → Shared → Prop} (I : Inv X pins σ H s) (e : H a = some (.ins C dx fs)) (c : Cls X.K C) (k : Meth X.K C m g) (l : fs.lookup m = none)
    (h : Q (.ref g, [.ref a]) s) : wpAny (model X.prog X.w) A (getMethod (.ref a) m pl) Q E s := by
  obtain ⟨mA, O, r, _, _, _⟩ := ins_get I.hok e
  have hn : mA m = none := RelO.none_of (by rw [← l]; exact r m)
  exact get_meth I.kIn O (c.get m) k.at_ k.fn hn h

theorem setattr_ok {y : V} {u : Value} {Q : Unit → Shared → Prop} (I : Inv X pins σ H s) (e : H a = some (.ins C dx fs)) (c : Cls X.K C) (n : NoAttr X.K C f) (hl : fs.length < 1000) (ry : RelV y u)
    (h : ∀ s', Inv X pins σ (upd H a (.ins C dx (putF f y fs))) s' → Q () s') : wpAny (model X.prog X.w) A (setAttr (.ref a) f u) Q E s := by
  obtain ⟨mA, O, r, wi, _, ho⟩ := ins_get I.hok e
  have hz : (fs.map (·.1)).length ≤ sizeLine := by rw [List.length_map, sizeLine_eq]; omega
  refine set_map I.kIn O c.sa c.po n.taker c.hd wi hz fun h' O' sb => h _ ?_
  have hd : ∃ o, h'.get? dx = some o := let ⟨o, _, _, e', _⟩ := O'.ns; ⟨o, e'⟩
  refine I.write (x := a) (e := dx) (by rw [e]; exact True.intro) (.inr ho) (fun b q hb z => (sb.2 b hb).trans z) hd ?_
  refine ⟨by rw [upd_ne O.ne]; exact ho, ?_, O.ne, O'.obj, _, O'.ns, fun g => ?_, fun g hg => ?_⟩
  · have := length_putF f y fs; omega
  · show RelO ((putF f y fs).lookup g) (if g = f then some u else mA g)
    rw [lookup_putF]
    by_cases q : g = f
    · rw [if_pos q, if_pos q]; exact ry
    · rw [if_neg q, if_neg q]; exact r g
  · by_cases q : g = f
    · rw [q]; exact (keys_putF f y fs).1
    · refine (keys_putF f y fs).2 g (wi g fun z => hg ?_)
      show (if g = f then some u else mA g) = none
      rw [if_neg q]; exact z

/-- a new instance, tracked, without attributes -/
theorem Inv.made (I : Inv X pins σ H s) : Inv X pins σ (upd (upd H s.heap.objs.size (.own (s.heap.objs.size + 1))) (s.heap.objs.size + 1) (.ins C s.heap.objs.size []))
    { s with heap := (s.heap.push PySem.W.emptyDict).push (PySem.W.instObj C s.heap.objs.size) } := by
  have e1 : (s.heap.push PySem.W.emptyDict).get? s.heap.objs.size = some PySem.W.emptyDict := Heap.get?_push_size s.heap rfl
  have e2 : ((s.heap.push PySem.W.emptyDict).push (PySem.W.instObj C s.heap.objs.size)).get? (s.heap.objs.size + 1) = some (PySem.W.instObj C s.heap.objs.size) := by
    have := Heap.get?_push_size (s.heap.push PySem.W.emptyDict) (o := PySem.W.instObj C s.heap.objs.size) rfl
    rwa [Heap.size_push] at this
  have e3 : (s.heap.push PySem.W.emptyDict).Ns s.heap.objs.size (fun _ => none) := ⟨PySem.W.emptyDict, #[], _, e1, rfl, (fun e he => absurd he (by simp)), fun _ => rfl⟩
  have I1 := I.laid (a := s.heap.objs.size) (o := .own (s.heap.objs.size + 1)) (h' := s.heap.push PySem.W.emptyDict) (t' := s.toks) (fun b u q => Heap.get?_push_of_some _ q) (Nat.le_refl _) ⟨_, e1⟩
  refine I1.laid (a := s.heap.objs.size + 1) (o := .ins C s.heap.objs.size []) (t' := s.toks) (fun b u q => Heap.get?_push_of_some _ q) (Nat.le_of_eq (Heap.size_push _ _)) ?_
  have ne : s.heap.objs.size ≠ s.heap.objs.size + 1 := Nat.ne_of_lt (Nat.lt_succ_self _)
  refine ⟨by rw [upd_ne ne, upd_same], Nat.zero_le _, ne, e2, fun _ => none, (Heap.Ns1.of_empty e3).at fun o q => Heap.get?_push_of_some _ q, fun _ => True.intro, fun y hy => absurd rfl hy⟩

/-- e.f where nothing but the object is asked: through attributeBase (super) and the last hold -/
theorem attr_of {prog : Program} {w : World} {env : Env} {e : Expr} {f : Str} {pos : Pos} {s : Shared} {Q : Value → Shared → Prop} (hb : attributeBase e f env (eval e env) = eval e env)
    (h : wpAny (model prog w) A (eval e env) (fun o s₁ => wpAny (model prog w) A (getAttr o f true) Q E s₁) E s) : wpAny (model prog w) A (eval (.Attribute e f pos) env) Q E s :=
  Attribute_any_ h (by rw [arm_eval_Attribute, hb])
end

/-! ### readings and rules -/
/-- e.f, an attribute of the instance -/
def tFld (K : PySem.W.Frag) (ta : TE) (f : Str) : TE := fun σ H Q => ta σ H fun x H1 => ∃ a C dx fs v, x = .ref a ∧ H1 a = some (.ins C dx fs) ∧ Cls K C ∧ NoAttr K C f ∧ fs.lookup f = some v ∧ Q v H1
/-- e.f = value -/
def sFld (K : PySem.W.Frag) (ta tv : TE) (f : Str) : TS := fun D σ H => tv σ H fun y H1 => ta σ H1 fun x H2 => ∃ a C dx fs, x = .ref a ∧ H2 a = some (.ins C dx fs) ∧ Cls K C ∧ NoAttr K C f ∧ fs.length < 1000 ∧
  D.nx σ (upd H2 a (.ins C dx (putF f y fs)))
section
variable {X : Cx} {o e value : Expr} {f : Str} {pos pos' tpos : Pos} {ta tv : TE}
theorem pe_fld (he : PE X e ta) (hb : attributeBase e f X.env (eval e X.env) = eval e X.env) : PE X (.Attribute e f pos) (tFld X.K ta f) := by
  intro pins s σ H Q I h
  refine attr_of hb (thn (he pins s σ H _ I h) fun u s1 ⟨x, H1, I1, rx, a, C, dx, fs, v, ex, ea, c, n, l, q⟩ => ?_)
  subst ex
  obtain rfl : u = Value.ref a := rx
  exact getattr_ok I1 ea c n l fun u' s2 I2 ru => ⟨v, H1, I2, ru, q⟩
theorem ps_fld (ha : PE X o ta) (hv : PE X value tv) (hs : swapsWith value (some (.Attribute o f pos')) pos.line X.env = pure false) : PS X (.Assign [.Attribute o f pos'] value pos) (sFld X.K ta tv f) := by
  intro pins s σ H D I h
  refine plainObj_wpAny_Assign_Attribute (thn (hv pins s σ H _ I h) fun u s1 ⟨y, H1, I1, ry, q⟩ => thn (ha pins s1 σ H1 _ I1 q) fun ov s2 ⟨x, H2, I2, rx, a, C, dx, fs, ex, ea, c, n, l, q2⟩ => ?_) hs
  subst ex
  obtain rfl : ov = Value.ref a := rx
  exact setattr_ok I2 ea c n l ry fun s3 I3 => ⟨σ, _, I3, q2⟩
end

/-! ### isinstance -/
section
variable {X : Cx} {pins : List (Addr × Obj)} {σ : St} {H : Hp} {s : Shared} {A : Around} {E : Value → Shared → Prop} {Q : Value → Shared → Prop} {c : Value} {b : Bool}
end
end L2

namespace L2
open PySem PySem.Spec PyProof.Rows

/-! ### room -/
structure Room (k : Nat) (A : Around) : Prop where
  hd : A.handled = none
  dp : A.depth + 3 * k + 5 < recursionLimit
  un : A.units + 16 * k + 200 < cLine
theorem Room.mono {j k : Nat} {A : Around} (r : Room k A) (h : j ≤ k) : Room j A := ⟨r.hd, by have := r.dp; omega, by have := r.un; omega⟩
theorem Room.deeper {k : Nat} {A : Around} (r : Room (k + 1) A) (env : Env) : Room k (A.deeper env) :=
  ⟨r.hd, by have := r.dp; show A.depth + 1 + 3 * k + 5 < _; omega, by have := r.un; show A.units + 3 + 16 * k + 200 < _; omega⟩
theorem make_depth {A : Around} {C : Addr} {us : List Value} {kw : List (Str × Value)} : (A.under (.builtin "type.__call__" ⟨.ref C :: us, kw⟩)).depth = A.depth + 1 := by
  first | rfl | simp [Around.under, Code.weight, Code.isCreation, Code.isGuard, Code.isCaller, Code.frames, Code.isFrame, guardIds]
theorem make_units {A : Around} {C : Addr} {us : List Value} {kw : List (Str × Value)} : (A.under (.builtin "type.__call__" ⟨.ref C :: us, kw⟩)).units = A.units + 1 := by
  first | rfl | simp [Around.under, Code.cUnits, Code.frames, Code.isFrame]
theorem Room.make {k : Nat} {A : Around} (r : Room (k + 1) A) (C : Addr) (us : List Value) (kw : List (Str × Value)) : Room k (A.under (.builtin "type.__call__" ⟨.ref C :: us, kw⟩)) :=
  ⟨r.hd, by have := r.dp; rw [make_depth]; omega, by have := r.un; rw [make_units]; omega⟩
theorem Room.depth {k : Nat} {A : Around} (r : Room k A) : A.depth < recursionLimit := by have := r.dp; omega
theorem Room.units0 {k : Nat} {A : Around} (r : Room k A) : A.units < cLine := by have := r.un; omega

/-! ### argument lists and displays -/
def tNil : TA := fun _ H Q => Q [] H
def tCons (ta : TE) (tr : TA) : TA := fun σ H Q => ta σ H fun x H1 => tr σ H1 fun xs H2 => Q (x :: xs) H2
section
variable {X : Cx} {e : Expr} {es : List Expr} {te : TE} {t : TA} {pos : Pos}
theorem pa_nil : PA X [] tNil := fun _ _ _ _ H Q I h => Calls.spliced_nil ⟨[], H, I, .nil, h⟩
theorem pa_cons (ha : PE X e te) (hr : PA X es t) (hs : starEach (e :: es) X.env = (false, eval e X.env) :: starEach es X.env := by rfl) : PA X (e :: es) (tCons te t) := by
  intro pos pins s σ H Q I h
  rw [hs]
  show wpAny _ _ (spliced ((false, eval e X.env) :: backTo pos (starEach es X.env))) _ _ s
  refine Calls.spliced_cons (thn (ha pins s σ H _ I h) fun u s1 ⟨x, H1, I1, r1, q1⟩ => ?_)
  exact thn (hr pos pins s1 σ H1 _ I1 q1) fun us s2 ⟨xs, H2, I2, r2, q2⟩ => ⟨x :: xs, H2, I2, .cons r1 r2, q2⟩

/-- a tuple, a list of written items -/
def tTup (t : TA) : TE := fun σ H Q => t σ H fun xs H1 => xs.length ≤ sizeLine ∧ ∀ p, H1 p = none → Q (.ref p) (upd H1 p (.tup xs))
def tLst (t : TA) : TE := fun σ H Q => t σ H fun xs H1 => xs.length ≤ sizeLine ∧ ∀ p, H1 p = none → Q (.ref p) (upd H1 p (.lst xs))
theorem pe_tup {x1} (h : PA X es t) : PE X (.Tuple es x1 pos) (tTup t) := by
  intro pins s σ H Q I hq
  refine wpAny_Tuple_spliced (thn (h pos pins s σ H _ I hq) fun us s1 ⟨xs, H1, I1, r, z, q⟩ => ⟨by rw [← r.length]; exact z, ?_⟩)
  have hf : H1 s1.heap.objs.size = none := I1.hok.fresh (Nat.le_refl _)
  refine ⟨.ref s1.heap.objs.size, upd H1 s1.heap.objs.size (.tup xs), I1.laid (t' := s1.toks) (fun b u e => Heap.get?_push_of_some _ e) (Nat.le_refl _) ?_, rfl, q _ hf⟩
  exact ⟨z, us, r, ⟨_, Heap.get?_push_size _ rfl, rfl, _, rfl⟩⟩
theorem pe_lst (h : PA X es t) : PE X (.List es pos) (tLst t) := by
  intro pins s σ H Q I hq
  refine wpAny_List_spliced (thn (h pos pins s σ H _ I hq) fun us s1 ⟨xs, H1, I1, r, z, q⟩ => ⟨by rw [← r.length]; exact z, ?_⟩)
  have hf : H1 s1.heap.objs.size = none := I1.hok.fresh (Nat.le_refl _)
  refine ⟨.ref s1.heap.objs.size, upd H1 s1.heap.objs.size (.lst xs), I1.laid (t' := s1.toks) (fun b u e => Heap.get?_push_of_some _ e) (Nat.le_refl _) ?_, rfl, q _ hf⟩
  exact ⟨z, us, 0, r, Heap.get?_push_size _ rfl⟩
end

/-! ### what a def promises -/
/-- a def's promise: the bound arguments in the parameters' order, the heap, the wanted end, the wanted exception -/
abbrev Sp := List V → Hp → VK → XK → Prop
/-- how an exception lies behind a call (file 08 gives it): the callers' frames, abstract heap and state ahead of the call, the wish, the exception, the state -/
abbrev CXT := List Env → Hp → Shared → XK → Value → Shared → Prop

/-- the state at a call -/
structure Env0 (P : Program) (w : World) (K : PySem.W.Frag) (mg : Str → Option Value) (base : Heap) (A : Around) (outer : List Env) (s : Shared) (H : Hp) : Prop where
  frames : A.frames = some outer
  mod : Mod K mg base
  bs : ∀ b o, base.get? b = some o → s.heap.get? b = some o ∧ H b = none
  bsz : base.objs.size ≤ s.heap.objs.size
  funs : s.heap.FunFrames base outer
  frf : ∀ b ∈ frs outer, H b = none
  hok : HOk P w H s.heap
  bare : AllBare s.gens
/-- a call's end -/
def CE (outer : List Env) (P : Program) (w : World) (H : Hp) (s : Shared) (Q : VK) (u : Value) (s' : Shared) : Prop :=
  ∃ v H', s'.os = s.os ∧ AllBare s'.gens ∧ Un (frs outer) [] H H' s.heap s'.heap ∧ HOk P w H' s'.heap ∧ RelV v u ∧ Q v H'
def CR (CX : CXT) (outer : List Env) (P : Program) (w : World) (H : Hp) (s : Shared) (Q : VK) (E : XK) (r : Result) (s' : Shared) : Prop :=
  match r with
  | .ok (.ret u) => CE outer P w H s Q u s'
  | .ok _ => False
  | .error e => CX outer H s E e s'
structure FnOk (P : Program) (w : World) (K : PySem.W.Frag) (mg : Str → Option Value) (base : Heap) (CX : CXT) (k : Nat) (f : Addr) (fd : FuncData) (ps : List Str) (sp : Sp) : Prop where
  len : ∀ vs H Q E, sp vs H Q E → vs.length = ps.length
  run : ∀ (A : Around) (outer : List Env) (s : Shared) (H : Hp) (args : Args) (us : List Value) (vs : List V) (Q : VK) (E : XK), Room k A → Env0 P w K mg base A outer s H → BindsTo s fd args (ps.zip us) → Vals vs us → sp vs H Q E →
    codeAny (model P w) A (.call (.ref f) args) (CR CX outer P w H s Q E) s
/-- a weaker promise -/
theorem FnOk.imp {P : Program} {w : World} {K : PySem.W.Frag} {mg : Str → Option Value} {base : Heap} {CX : CXT} {k : Nat} {f : Addr} {fd : FuncData} {ps : List Str} {sp sp' : Sp} (F : FnOk P w K mg base CX k f fd ps sp)
    (h : ∀ vs H Q E, sp' vs H Q E → sp vs H Q E) : FnOk P w K mg base CX k f fd ps sp' :=
  ⟨fun vs H Q E q => F.len vs H Q E (h _ _ _ _ q), fun A outer s H args us vs Q E hr he hb hv hs => F.run A outer s H args us vs Q E hr he hb hv (h _ _ _ _ hs)⟩

theorem Env0.make {P : Program} {w : World} {K : PySem.W.Frag} {mg : Str → Option Value} {base : Heap} {A : Around} {outer : List Env} {s : Shared} {H : Hp} (e : Env0 P w K mg base A outer s H) (C : Addr) (us : List Value) (kw : List (Str × Value)) :
    Env0 P w K mg base (A.under (.builtin "type.__call__" ⟨.ref C :: us, kw⟩)) outer s H := ⟨by first | exact e.frames | (simpa [Around.under, Code.envs, Code.isFrame, pushEnvs] using e.frames), e.mod, e.bs, e.bsz, e.funs, e.frf, e.hok, e.bare⟩
section
variable {X : Cx} {pins : List (Addr × Obj)} {σ : St} {H : Hp} {s s' : Shared}
/-- from a body: what a callee wants -/
theorem Inv.env0 (I : Inv X pins σ H s) : Env0 X.prog X.w X.K X.mg X.base X.A X.stack s H :=
  ⟨I.ok.frames, I.ok.mod, I.bs, Nat.le_trans I.ok.bsz I.sz, I.stack, I.stkFree, I.hok, I.bare⟩
/-- behind a call -/
theorem Inv.after {Q : VK} {u : Value} (I : Inv X pins σ H s) (h : CE X.stack X.prog X.w H s Q u s') : EP X pins σ Q u s' := by
  obtain ⟨v, H', os, bare, un, hok, r, q⟩ := h
  obtain ⟨hh, g, d, t, os'⟩ := s'
  obtain rfl : os' = s.os := os
  exact ⟨v, H', I.call (h' := hh) (g' := g) (d' := d) (t' := t) (ch := []) un hok bare (fun b z => absurd z (by simp)), r, q⟩
end

/-! ### calls -/
/-- f(..): the written arguments, then the defaults dvs; E: what is wanted of an exception -/
def tCall (sp : Sp) (dvs : List V) (E : XK) (t : TA) : TE := fun σ H Q => t σ H fun vs H1 => sp (vs ++ dvs) H1 Q E
/-- o.m(..) of an instance of the class at C -/
def tMeth (C : Addr) (m : Str) (sp : Sp) (dvs : List V) (E : XK) (ta : TE) (t : TA) : TE := fun σ H Q => ta σ H fun x H1 => ∃ a dx fs, x = .ref a ∧ H1 a = some (.ins C dx fs) ∧ fs.lookup m = none ∧
  t σ H1 fun vs H2 => sp (x :: (vs ++ dvs)) H2 Q E
/-- how the parameters are bound: us the positional arguments, kw the keywords' values by name, ds the defaults that fill up -/
def Binds (K : PySem.W.Frag) (fd : FuncData) (ps : List Str) (ds : List Value) : Prop :=
  ∀ (s : Shared) (us : List Value), K.In s.heap → (us ++ ds).length = ps.length → BindsTo s fd ⟨us, []⟩ (ps.zip (us ++ ds))
/-- every parameter is given -/
theorem Binds.all {K : PySem.W.Frag} {fd : FuncData} {ps : List Str} (h : ∀ us : List Value, us.length = ps.length → bindArgs fd ⟨us, []⟩ = pure (ps.zip us)) : Binds K fd ps [] := fun s us _ hl => by
  rw [List.append_nil] at hl ⊢
  exact .of_eq (h us hl)

/-- an exception of a callee reaches what this body wants of exceptions -/
def Passes (CX : CXT) (X : Cx) (E : XK) : Prop := ∀ (pins : List (Addr × Obj)) (σ : St) (H : Hp) (s : Shared) (e : Value) (s' : Shared), Inv X pins σ H s → CX X.stack H s E e s' → X.xe e s'

section
variable {X : Cx} {CX : CXT} {k : Nat} {f C : Addr} {fd : FuncData} {ps : List Str} {sp : Sp} {dvs : List V} {ds : List Value} {E : XK} {x m : Str} {p pos apos : Pos} {e o : Expr} {es : List Expr} {ta : TE} {t : TA}

/-- the callee runs -/
theorem run_fn {pins : List (Addr × Obj)} {σ : St} {H : Hp} {s : Shared} {Q : VK} {us : List Value} {vs : List V} (F : FnOk X.prog X.w X.K X.mg X.base CX k f fd ps sp) (hr : Room k X.A) (hb : Binds X.K fd ps ds) (hd : Vals dvs ds) (hx : Passes CX X E)
    (I : Inv X pins σ H s) (r : Vals vs us) (h : sp (vs ++ dvs) H Q E) : wpAny (model X.prog X.w) X.A (call (.ref f) us) (EP X pins σ Q) X.xe s := by
  have r2 : Vals (vs ++ dvs) (us ++ ds) := r.append hd
  have hl : (us ++ ds).length = ps.length := by rw [← r2.length]; exact F.len _ _ _ _ h
  refine wpAny_call (codeAny_mono (F.run X.A X.stack s H ⟨us, []⟩ (us ++ ds) (vs ++ dvs) Q E hr I.env0 (hb s us I.kIn hl) r2 h) fun r s' hq => ?_)
  cases r with
  | error e => exact hx pins σ H s e s' I hq
  | ok fl =>
    cases fl with
    | ret u => exact I.after hq
    | next => exact False.elim hq
    | brk => exact False.elim hq
    | cont => exact False.elim hq

theorem pe_call (F : FnOk X.prog X.w X.K X.mg X.base CX k f fd ps sp) (hr : Room k X.A) (hg : Gl X x) (hm : X.mg x = some (.ref f)) (hk : PySem.W.keepIn X.K (.ref f) = true) (hb : Binds X.K fd ps ds) (hd : Vals dvs ds) (hx : Passes CX X E)
    (ha : PA X (e :: es) t) (hdb : (x == ("__debug__" : Str)) = false := by decide) (he : starEach (e :: es) X.env = (false, eval e X.env) :: starEach es X.env := by rfl) (hpl : (backTo pos (starEach es X.env)).any (·.1) = false := by rfl) :
    PE X (.Call (.Name x p) (e :: es) [] pos) (tCall sp dvs E t) := by
  intro pins s σ H Q I h
  refine wpAny_Call_Name_kw (ld_glob I hg hm ?_ hdb)
  refine PySem.W.callWith_K (h₀ := X.base) I.ok.mod.kin hk (thn (ha pos pins s σ H _ I h) fun us s1 ⟨vs, H1, I1, r, q⟩ => ⟨I1.kIn, ?_⟩) he hpl
  exact run_fn F hr hb hd hx I1 r q
/-- o.m(e, ..) -/
theorem pe_meth {pl : Sem Bool} (he : PE X o ta) (c : Cls X.K C) (hm : Meth X.K C m f) (F : FnOk X.prog X.w X.K X.mg X.base CX k f fd ps sp) (hr : Room k X.A) (hb : Binds X.K fd ps ds) (hd : Vals dvs ds) (hx : Passes CX X E) (ha : PA X (e :: es) t)
    (hst : starEach (e :: es) X.env = (false, eval e X.env) :: starEach es X.env := by rfl) (hpl : (backTo pos (starEach es X.env)).any (·.1) = false := by rfl)
    (ht : eval (.Call (.Attribute o m apos) (e :: es) [] pos) X.env = (do
      let ov ← eval o X.env
      standAt apos.atName
      let (f, first) ← holding [ov] (getMethod ov m pl)
      callWith pos f first (backTo pos (starEach (e :: es) X.env)) (backToKw pos (keywordEach [] X.env))) := by rfl) :
    PE X (.Call (.Attribute o m apos) (e :: es) [] pos) (tMeth C m sp dvs E ta t) := by
  intro pins s σ H Q I h
  refine PySem.W.methodCall_KW (pl := pl) (thn (he pins s σ H _ I h) fun u s1 ⟨x, H1, I1, rx, a, dx, fs, ex, ea, l, q⟩ => ?_) ht
  subst ex
  obtain rfl : u = Value.ref a := rx
  refine getmeth_ok I1 ea c hm l ?_
  refine PySem.W.callWith_K (first := [.ref a]) (h₀ := X.base) I.ok.mod.kin hm.kp (thn (ha pos pins s1 σ H1 _ I1 q) fun us s2 ⟨vs, H2, I2, r, q2⟩ => ⟨I2.kIn, ?_⟩) hst hpl
  exact run_fn (us := .ref a :: us) (vs := .ref a :: vs) F hr hb hd hx I2 (.cons rfl r) q2
/-- o.m() -/
theorem pe_meth0 {pl : Sem Bool} (he : PE X o ta) (c : Cls X.K C) (hm : Meth X.K C m f) (F : FnOk X.prog X.w X.K X.mg X.base CX k f fd ps sp) (hr : Room k X.A) (hb : Binds X.K fd ps ds) (hd : Vals dvs ds) (hx : Passes CX X E)
    (ht : eval (.Call (.Attribute o m apos) [] [] pos) X.env = (do
      let ov ← eval o X.env
      standAt apos.atName
      let (f, first) ← holding [ov] (getMethod ov m pl)
      callWith pos f first (backTo pos (starEach [] X.env)) (backToKw pos (keywordEach [] X.env))) := by rfl) :
    PE X (.Call (.Attribute o m apos) [] [] pos) (tMeth C m sp dvs E ta tNil) := by
  intro pins s σ H Q I h
  refine PySem.W.methodCall_KW (pl := pl) (thn (he pins s σ H _ I h) fun u s1 ⟨x, H1, I1, rx, a, dx, fs, ex, ea, l, q⟩ => ?_) ht
  subst ex
  obtain rfl : u = Value.ref a := rx
  refine getmeth_ok I1 ea c hm l ?_
  exact PySem.W.callWith_K0 (first := [.ref a]) I1.kIn hm.kp (run_fn (us := [.ref a]) (vs := [.ref a]) F hr hb hd hx I1 (.cons rfl .nil) q)

/-- what a class must have to be made -/
structure Mk (K : PySem.W.Frag) (C f : Addr) : Prop where
  makes : PySem.W.makesIn K C = true
  init : PySem.W.findIn K (.ref C) "__init__" = some (some (.ref f))
  fn : PySem.W.isFn K (.ref f) = true
  kp : PySem.W.keepIn K (.ref C) = true

theorem run_make {pins : List (Addr × Obj)} {σ : St} {H : Hp} {s : Shared} {Q : VK} {us : List Value} {vs : List V} (M : Mk X.K C f) (F : FnOk X.prog X.w X.K X.mg X.base CX k f fd ps sp) (hr : Room (k + 1) X.A) (hb : Binds X.K fd ps ds) (hd : Vals dvs ds)
    (hx : Passes CX X E) (I : Inv X pins σ H s) (r : Vals vs us)
    (h : ∀ x dx, H x = none → H dx = none → dx ≠ x → sp (.ref x :: (vs ++ dvs)) (upd (upd H dx (.own x)) x (.ins C dx [])) (fun v H2 => v = .non ∧ Q (.ref x) H2) E) :
    wpAny (model X.prog X.w) X.A (call (.ref C) us) (EP X pins σ Q) X.xe s := by
  have hq := h (s.heap.objs.size + 1) s.heap.objs.size (I.hok.fresh (Nat.le_succ _)) (I.hok.fresh (Nat.le_refl _)) (Nat.ne_of_lt (Nat.lt_succ_self _))
  have I2 := Inv.made (C := C) I
  have r2 : Vals (V.ref (s.heap.objs.size + 1) :: (vs ++ dvs)) (Value.ref (s.heap.objs.size + 1) :: (us ++ ds)) := .cons rfl (r.append hd)
  have hl : (Value.ref (s.heap.objs.size + 1) :: us ++ ds).length = ps.length := by
    have e := r2.length
    rw [F.len _ _ _ _ hq] at e
    exact e.symm
  refine wpAny_call (make_map (f := f) I.kIn M.makes M.init (beq_iff_eq.mp M.fn) (codeAny_mono (F.run _ X.stack _ _ ⟨Value.ref (s.heap.objs.size + 1) :: us, []⟩ (Value.ref (s.heap.objs.size + 1) :: (us ++ ds)) _ _ E (hr.make C us [])
    (I2.env0.make C us []) (hb _ (Value.ref (s.heap.objs.size + 1) :: us) I2.kIn hl) r2 hq) fun r s' hq' => ?_))
  cases r with
  | error e => exact hx pins σ _ _ e s' I2 hq'
  | ok fl =>
    cases fl with
    | ret u =>
      obtain ⟨v, H', I3, rv, ev, q3⟩ := I2.after hq'
      subst ev
      exact ⟨rv, ⟨V.ref (s.heap.objs.size + 1), H', I3, rfl, q3⟩⟩
    | next => exact False.elim hq'
    | brk => exact False.elim hq'
    | cont => exact False.elim hq'
end

/-! ### keywords -/
/-- the values of the keywords, from the left -/
def PK (X : Cx) (kws : List Keyword) (t : TA) : Prop :=
  ∀ (pos : Pos) (pins : List (Addr × Obj)) (s : Shared) (σ : St) (H : Hp) (Q : List V → Hp → Prop), Inv X pins σ H s → t σ H Q → wpAny (model X.prog X.w) X.A (evalAll ((backToKw pos (keywordEach kws X.env)).map (·.2))) (AP X pins σ Q) X.xe s
section
variable {X : Cx} {CX : CXT} {k : Nat} {f C : Addr} {fd : FuncData} {ps ks : List Str} {sp : Sp} {E : XK} {x m : Str} {p pos apos kpos : Pos} {e o : Expr} {es : List Expr} {kws : List Keyword} {te ta : TE} {t tk : TA} {nm : Option Str}
theorem pk_nil : PK X [] tNil := fun _ _ _ _ H Q I h => wpAny_evalAll_nil ⟨[], H, I, .nil, h⟩
theorem pk_cons (ha : PE X e te) (hr : PK X kws t) : PK X (⟨nm, e, kpos⟩ :: kws) (tCons te t) := by
  intro pos pins s σ H Q I h
  show wpAny _ _ (evalAll ((do let v ← eval e X.env; standAt pos; pure v) :: (backToKw pos (keywordEach kws X.env)).map (·.2))) _ _ s
  refine wpAny_evalAll_cons (wpAny_bind (thn (ha pins s σ H _ I h) fun u s1 ⟨x, H1, I1, r1, q1⟩ => wpAny_bind (wpAny_standAt (wpAny_pure ?_))))
  exact thn (hr pos pins s1 σ H1 _ I1 q1) fun us s2 ⟨xs, H2, I2, r2, q2⟩ => ⟨x :: xs, H2, I2, .cons r1 r2, q2⟩

variable {g : List Value → List Value → List Value} {gV : List V → List V → List V}
end

/-! ### a def's body keeps its promise -/
/-- names: the parameters first -/
structure FnScope (N P : List Str) (sc : Scope) : Prop where
  kind : sc.kind = .function
  co : sc.isCoroutine = false
  gen : sc.isGenerator = false
  nd : N.Nodup
  pre : N.take P.length = P
  par : ∀ x ∈ P, sc.names.lookup x = some .local ∨ sc.names.lookup x = some .cell
  nofree : ∀ y ∈ sc.names, y.2 ≠ .free

theorem bindL_out {kindOf : Str → Option NameKind} {x : Str} : ∀ {binds : List (Str × Value)} {m : Str → Option Value}, (∀ v, (x, v) ∉ binds) → bindL kindOf binds m x = m x
  | [], _, _ => rfl
  | (n, v) :: r, m, h => by
    unfold bindL
    rw [bindL_out fun w hw => h w (List.mem_cons_of_mem _ hw)]
    split
    · have : x ≠ n := by rintro rfl; exact h v List.mem_cons_self
      simp [this]
    · rfl
theorem bindC_out {kindOf : Str → Option NameKind} {x : Str} : ∀ {binds : List (Str × Value)} {m : Str → Option Value}, (∀ v, (x, v) ∉ binds) → bindC kindOf binds m x = m x
  | [], _, _ => rfl
  | (n, v) :: r, m, h => by
    unfold bindC
    rw [bindC_out fun w hw => h w (List.mem_cons_of_mem _ hw)]
    split
    · rfl
    · have : x ≠ n := by rintro rfl; exact h v List.mem_cons_self
      simp [this]
theorem bindL_get {kindOf : Str → Option NameKind} {x : Str} {v : Value} : ∀ {P : List Str} {vs : List Value} {i : Nat} {m : Str → Option Value}, P.Nodup → P[i]? = some x → vs[i]? = some v → kindOf x = some .local →
    bindL kindOf (P.zip vs) m x = some v
  | [], _, _, _, _, h, _, _ => by simp at h
  | _ :: _, [], _, _, _, _, h, _ => by simp at h
  | p :: P, w :: vs, 0, m, nd, h1, h2, hk => by
    simp at h1 h2; subst h1; subst h2
    show bindL kindOf ((p, w) :: P.zip vs) m p = _
    unfold bindL
    rw [bindL_out fun v hv => (List.nodup_cons.mp nd).1 (List.of_mem_zip hv).1, if_pos hk]
    simp
  | p :: P, w :: vs, i + 1, m, nd, h1, h2, hk => by
    show bindL kindOf ((p, w) :: P.zip vs) m x = _
    unfold bindL
    exact bindL_get (i := i) (List.nodup_cons.mp nd).2 (by simpa using h1) (by simpa using h2) hk
theorem bindC_get {kindOf : Str → Option NameKind} {x : Str} {v : Value} : ∀ {P : List Str} {vs : List Value} {i : Nat} {m : Str → Option Value}, P.Nodup → P[i]? = some x → vs[i]? = some v → kindOf x ≠ some .local →
    bindC kindOf (P.zip vs) m x = some v
  | [], _, _, _, _, h, _, _ => by simp at h
  | _ :: _, [], _, _, _, _, h, _ => by simp at h
  | p :: P, w :: vs, 0, m, nd, h1, h2, hk => by
    simp at h1 h2; subst h1; subst h2
    show bindC kindOf ((p, w) :: P.zip vs) m p = _
    unfold bindC
    rw [bindC_out fun v hv => (List.nodup_cons.mp nd).1 (List.of_mem_zip hv).1, if_neg hk]
    simp
  | p :: P, w :: vs, i + 1, m, nd, h1, h2, hk => by
    show bindC kindOf ((p, w) :: P.zip vs) m x = _
    unfold bindC
    exact bindC_get (i := i) (List.nodup_cons.mp nd).2 (by simpa using h1) (by simpa using h2) hk

/-- the names' values at the entry -/
def start (N : List Str) (vs : List V) : St := vs.map some ++ List.replicate (N.length - vs.length) none

/-- the context of a def's body, at its entry; an exception leaves the frame, then lies as CX says -/
def cxOf (CX : CXT) (P : Program) (w : World) (K : PySem.W.Frag) (mg : Str → Option Value) (base : Heap) (N : List Str) (qual : Str) (scope : Scope) (f : Addr) (cd : Value) (A : Around) (outer : List Env) (s : Shared) (H : Hp) (E : XK) : Cx where
  prog := P
  w := w
  K := K
  mg := mg
  base := base
  A := A.deeper (envOfC qual scope s.heap.objs.size f cd)
  N := N
  s₀ := s
  H₀ := H
  env := envOfC qual scope s.heap.objs.size f cd
  outer := outer
  stack := envOfC qual scope s.heap.objs.size f cd :: outer
  ex := []
  calm := true
  fn := fun _ => true
  pn := []
  xe := fun e s' => wpAny (model P w) (A.deeper (envOfC qual scope s.heap.objs.size f cd)) (leaving (envOfC qual scope s.heap.objs.size f cd) e) (fun _ s'' => CX outer H s E e s'') (fun e' s'' => CX outer H s E e' s'') s'

theorem cell_has {sc : Scope} {n : Nat} {x : Str} (h : sc.names.lookup x = some .cell) : ∃ c, (cellsFrom n sc.names []).lookup x = some c := by
  have q := PySem.W.cellsFrom_some sc.names n [] (.inl h)
  exact Option.isSome_iff_exists.mp q

theorem inv_start {CX : CXT} {P : Program} {w : World} {K : PySem.W.Frag} {mg : Str → Option Value} {base : Heap} {N ps : List Str} {qual : Str} {scope : Scope} {f : Addr} {cd : Value} {A : Around} {outer : List Env} {s s1 : Shared} {H : Hp} {E : XK} {us : List Value} {vs : List V}
    (S : FnScope N ps scope) (hd : A.handled = none) (e0 : Env0 P w K mg base A outer s H) (hl : vs.length = ps.length) (r : Vals vs us)
    (x : InCallC s s.heap.objs.size (bindL (envOfC qual scope s.heap.objs.size f cd).kindOf (ps.zip us) fun _ => none) (cellsFrom (s.heap.objs.size + 1) scope.names []) (bindC (envOfC qual scope s.heap.objs.size f cd).kindOf (ps.zip us) fun _ => none) s1) :
    Inv (cxOf CX P w K mg base N qual scope f cd A outer s H E) [] (start N vs) H s1 := by
  have hpl : ps.length ≤ N.length := by have := congrArg List.length S.pre; rw [List.length_take] at this; omega
  obtain ⟨h1, tk, rfl, hk⟩ := x.done
  have noA : ∀ b : Addr, b ∉ (cxOf CX P w K mg base N qual scope f cd A outer s H E).ex := fun b z => absurd (show b ∈ ([] : List Addr) from z) (by simp)
  refine ⟨⟨e0.mod, S.kind, rfl, rfl, Nat.le_refl _, fun y z c h1 h2 => ?_, fun y hy => ?_, fun y c _ h => ?_, fun _ => hd, Around.frames_deeper e0.frames, .inr ⟨rfl, rfl⟩, fun b z => absurd z (noA b), e0.bs, e0.bsz, fun b _ _ => noA b, fun b z => absurd z (noA b), e0.funs, e0.frf⟩,
    rfl, e0.bare, Un.kept hk, ⟨_, x.toInCall.ns, fun i y v h1 h2 h3 => ?_⟩, fun y c h => ⟨_, x.cell y c h⟩, e0.hok.fresh (Nat.le_refl _), fun y c h => ?_, fun p hp => absurd (show p ∈ ([] : List (Addr × Obj)) from hp) (by simp), e0.hok.kept hk, ?_⟩
  · exact name_of_addr x.apart (PySem.mem_of_lookup h1) (PySem.mem_of_lookup h2)
  · have hy : scope.names.lookup y = some .cell ∨ scope.names.lookup y = some .free := hy
    rcases hy with hy | hy
    · exact cell_has hy
    · exact absurd rfl (S.nofree _ (PySem.mem_of_lookup hy))
  · exact Nat.le_of_lt (x.above y c (PySem.mem_of_lookup h))
  · have hi : i < vs.length := by
      unfold start at h2
      by_cases hi : i < vs.length
      · exact hi
      · rw [List.getElem?_append_right (by simpa using hi)] at h2
        rw [List.getElem?_replicate] at h2
        split at h2 <;> cases h2
    have ha : vs[i]? = some v := by
      unfold start at h2
      rw [List.getElem?_append_left (by simpa using hi), List.getElem?_map] at h2
      cases e : vs[i]? with
      | none => rw [e] at h2; cases h2
      | some a => rw [e] at h2; cases h2; rfl
    obtain ⟨u, hu, rv⟩ := r.get ha
    have hp : ps[i]? = some y := by
      rw [← S.pre, List.getElem?_take_of_lt (by omega)]; exact h1
    have ndP : ps.Nodup := by rw [← S.pre]; exact S.nd.sublist (List.take_sublist _ _)
    refine ⟨u, rv, ?_⟩
    rcases S.par y (List.mem_of_getElem? hp) with k | k
    · exact .inl ⟨k, bindL_get ndP hp hu k⟩
    · obtain ⟨c, e⟩ := cell_has (n := s.heap.objs.size + 1) k
      refine .inr ⟨.inl k, c, e, ?_⟩
      have q := x.cell y c e
      rw [bindC_get ndP hp hu (by show scope.names.lookup y ≠ _; rw [k]; decide)] at q
      exact q
  · exact e0.hok.fresh (Nat.le_of_lt (x.above y c (PySem.mem_of_lookup h)))
  · unfold start
    show _ = N.length
    rw [List.length_append, List.length_map, List.length_replicate]
    omega

/-- THE RULE: a def (or a method) of the text, by its body. The body's reading t is chosen for each entry; it is run at the parameters' values -/
theorem fn_of {CX : CXT} {P : Program} {w : World} {K : PySem.W.Frag} {mg : Str → Option Value} {base : Heap} {k : Nat} {f : Addr} {name qual : Str} {params : Arguments} {body : List Stmt} {scope : Scope} {dV kV doc pm cdv ct oc : Value} {an od : Option Addr}
    {osl : Array (Option Value)} {N ps : List Str} {sp : Sp} (lk : K.lookup f = some ⟨oc, od, .func (PySem.W.fnOf name qual params body scope dV kV doc pm an cdv ct), osl⟩) (hcd : PySem.W.codeIn K cdv qual = true) (S : FnScope N ps scope)
    (len : ∀ vs H Q E, sp vs H Q E → vs.length = ps.length)
    (hbody : ∀ (A : Around) (outer : List Env) (s : Shared) (H : Hp) (vs : List V) (Q : VK) (E : XK), Room k (A.deeper (envOfC qual scope s.heap.objs.size f cdv)) → sp vs H Q E →
      ∃ t, PSs (cxOf CX P w K mg base N qual scope f cdv A outer s H E) body t ∧ t { nx := fun _ H' => Q .non H', rt := Q } (start N vs) H) :
    FnOk P w K mg base CX (k + 1) f (PySem.W.fnOf name qual params body scope dV kV doc pm an cdv ct) ps sp := by
  refine ⟨len, fun A outer s H args us vs Q E hr e0 hb r hsp => ?_⟩
  have hl := len _ _ _ _ hsp
  have KX : K.In s.heap := e0.mod.kin.keeps fun b o e => (e0.bs b o e).1
  have lim : s.heap.NoLimit := e0.mod.nolimit.keeps fun b o e => (e0.bs b o e).1
  have hkind : ∀ y ∈ ps.zip us, scope.names.lookup y.1 = some .local ∨ (scope.names.lookup y.1 = some .cell ∧ ((cellsFrom (s.heap.objs.size + 1) scope.names []).lookup y.1).isSome = true) := fun ⟨n, v⟩ hy => by
    rcases S.par n (List.of_mem_zip hy).1 with q | q
    · exact .inl q
    · exact .inr ⟨q, PySem.W.cellsFrom_some _ _ _ (.inl q)⟩
  refine codeAny_call_function hr.depth (KX _ _ lk) rfl S.co S.gen rfl (PySem.W.codeRec_of KX hcd) (hb _ _ _ _ ?_)
  refine wpAny_newFunctionEnv_cells S.kind hkind fun env he s1 x => ?_
  subst he
  refine ⟨lim.keeps x.toInCall.keep, codeAny_func ?_⟩
  obtain ⟨t, ht, hq⟩ := hbody A outer s H vs Q E (hr.deeper _) hsp
  have I : Inv (cxOf CX P w K mg base N qual scope f cdv A outer s H E) [] (start N vs) H s1 := inv_start S hr.hd e0 hl r x
  refine wpAny_mono (ht [] s1 (start N vs) H _ I hq) (fun fl s' hs => ?_) fun e s' hs => hs
  have fin : ∀ {σ' : St} {H' : Hp} {v : V} {u : Value}, Inv (cxOf CX P w K mg base N qual scope f cdv A outer s H E) [] σ' H' s' → RelV v u → Q v H' → CE outer P w H s Q u s' :=
    fun {σ' H' v u} J rv q => ⟨v, H', J.os, J.bare, J.base, J.hok, rv, q⟩
  cases fl with
  | ret u =>
    obtain ⟨v, σ', H', J, rv, q⟩ := hs
    exact fin J rv q
  | next =>
    obtain ⟨σ', H', J, q⟩ := hs
    exact fin (v := V.non) (u := Value.none) J rfl q
  | brk =>
    obtain ⟨_, _, _, q⟩ := hs
    exact False.elim q
  | cont =>
    obtain ⟨_, _, _, q⟩ := hs
    exact False.elim q
end L2

namespace L2
open PySem PySem.Spec PyProof.Rows
section
variable {X : Cx} {x : Str} {p pos : Pos} {e : Expr} {es : List Expr} {t : TA} {id T : String} {r : List V → Hp → VK → Prop}

def tCB (r : List V → Hp → VK → Prop) (t : TA) : TE := fun σ H Q => t σ H fun vs H1 => r vs H1 Q
/-- f(e, ..), f a built-in function -/
theorem pe_callB (hc : CallR X (.builtin id) r) (hg : Gl X x) (hm : X.mg x = none) (hv : bootBuiltins x = some (.builtin id)) (ha : PA X (e :: es) t) (hn : x ≠ "__name__" := by decide) (hdb : (x == ("__debug__" : Str)) = false := by decide)
    (he : starEach (e :: es) X.env = (false, eval e X.env) :: starEach es X.env := by rfl) (hpl : (backTo pos (starEach es X.env)).any (·.1) = false := by rfl) : PE X (.Call (.Name x p) (e :: es) [] pos) (tCB r t) := by
  intro pins s σ H Q I h
  refine wpAny_Call_Name_kw (ld_blt I hg hm hv ?_ hn hdb)
  exact PyProof.Rows.callWith_builtin1 (thn (ha pos pins s σ H _ I h) fun us s1 ⟨vs, H1, I1, r1, q1⟩ => hc pins s1 σ H1 vs us Q I1 r1 q1) he hpl
/-- T(e, ..), T a built-in type -/
theorem pe_callTy (hc : CallR X (.type T) r) (hg : Gl X x) (hm : X.mg x = none) (hv : bootBuiltins x = some (.type T)) (ha : PA X (e :: es) t) (hn : x ≠ "__name__" := by decide) (hdb : (x == ("__debug__" : Str)) = false := by decide)
    (he : starEach (e :: es) X.env = (false, eval e X.env) :: starEach es X.env := by rfl) (hpl : (backTo pos (starEach es X.env)).any (·.1) = false := by rfl) : PE X (.Call (.Name x p) (e :: es) [] pos) (tCB r t) := by
  intro pins s σ H Q I h
  refine wpAny_Call_Name_kw (ld_blt I hg hm hv ?_ hn hdb)
  exact PyProof.Rows.callWith_type1 (thn (ha pos pins s σ H _ I h) fun us s1 ⟨vs, H1, I1, r1, q1⟩ => hc pins s1 σ H1 vs us Q I1 r1 q1) he hpl
end
end L2

namespace HT
open PySem PyProof.Rows

section
open PySem.SeqAt
open PySem.AutoSeq1 (wpAny_loadPart')
open PySem.MeetsSeq PySem.MeetsSeq2 PySem.MeetsSeq3

end

section
variable {prog : Program} {w : World} {A : Around} {E : Value → Shared → Prop} {s : Shared}

/-! ### t[a:b], not the whole -/
/-- a slice's bound as a place among n (d where it is left out) -/
def sIx (n d : Nat) : Option Int → Nat
  | none => d
  | some v => if v < 0 then (v + (n : Int)).toNat else min v.toNat n
theorem sIx_le (n d : Nat) (hd : d ≤ n) (o : Option Int) : sIx n d o ≤ n := by
  cases o with
  | none => exact hd
  | some v =>
    show (if v < 0 then (v + (n : Int)).toNat else min v.toNat n) ≤ n
    by_cases hv : v < 0
    · rw [if_pos hv]; omega
    · rw [if_neg hv]; exact Nat.min_le_right _ _
end
end HT

namespace L2
open PySem PySem.Spec PyProof.Rows

/-! ### the parts of a slice -/
abbrev TO := St → Hp → (Option Int → Hp → Prop) → Prop
/-- a slice's part (left out, or an int) -/
def PO (X : Cx) (e : Option Expr) (t : TO) : Prop :=
  ∀ (pins : List (Addr × Obj)) (s : Shared) (σ : St) (H : Hp) (Q : Option Int → Hp → Prop), Inv X pins σ H s → t σ H Q →
    wpAny (model X.prog X.w) X.A (evalPart e X.env) (fun u s' => ∃ o H', Inv X pins σ H' s' ∧ IsPart u o ∧ Q o H') X.xe s
def tNoPart : TO := fun _ H Q => Q none H
def tPart (t : TE) : TO := fun σ H Q => t σ H fun x H1 => ∃ i, x = .int i ∧ Q (some i) H1

section
variable {X : Cx} {e : Expr} {te : TE} {lo hi : Option Expr} {tl th : TO} {pos p2 : Pos}

theorem po_none : PO X none tNoPart := by
  intro pins s σ H Q I h
  rw [evalPart_none]
  exact wpAny_pure ⟨none, H, I, .none, h⟩
theorem po_some (h : PE X e te) : PO X (some e) (tPart te) := by
  intro pins s σ H Q I hw
  rw [evalPart_some]
  refine thn (h pins s σ H _ I hw) fun u s1 ⟨x, H1, I1, r1, q1⟩ => ?_
  obtain ⟨i, rfl, q⟩ := q1
  obtain ⟨t, rfl⟩ := r1
  exact ⟨some i, H1, I1, .int i t, q⟩

/-- what a slice of a value is, by values: the slice object stands at sl -/
def SlR (X : Cx) (r : V → Option Int → Option Int → Hp → VK → Prop) : Prop :=
  ∀ (pins : List (Addr × Obj)) (s : Shared) (σ : St) (H : Hp) (x : V) (v vl vu : Value) (lo hi : Option Int) (sl : Addr) (Q : VK), Inv X pins σ H s → RelV x v → s.heap.IsSliceOf sl vl vu .none → IsPart vl lo → IsPart vu hi → r x lo hi H Q →
    ∃ T id, typeLookup (.type T) "__getitem__" = pure (some (.builtin id)) ∧ s.TypeIs v T ∧ wpAny (model X.prog X.w) X.A (getItem v (.ref sl)) (EP X pins σ Q) X.xe s
def tSl (r : V → Option Int → Option Int → Hp → VK → Prop) (te : TE) (tl th : TO) : TE := fun σ H Q => te σ H fun x H1 => tl σ H1 fun l H2 => th σ H2 fun u H3 => r x l u H3 Q
/-- a[lo:hi], any a -/
theorem pe_slice {r : V → Option Int → Option Int → Hp → VK → Prop} (hr : SlR X r) (he : PE X e te) (hl : PO X lo tl) (hu : PO X hi th) : PE X (.Subscript e (.Slice lo hi none p2) pos) (tSl r te tl th) := by
  intro pins s σ H Q I h
  refine Subscript_ (thn (he pins s σ H _ I h) fun v s1 ⟨x, H1, I1, r1, q1⟩ => ?_)
  refine wpAny_Slice (thn (hl pins s1 σ H1 _ I1 q1) fun vl s2 ⟨l, H2, I2, pl, q2⟩ => thn (hu pins s2 σ H2 _ I2 q2) fun vu s3 ⟨u, H3, I3, pu, q3⟩ => ?_)
  rw [evalPart_none]
  refine wpAny_pure ?_
  have I4 : Inv X pins σ H3 { s3 with heap := s3.heap.push { cls := .type "slice", data := .fields #[vl, vu, .none] } } := I3.kept (t' := s3.toks) fun b ob q => Heap.get?_push_of_some _ q
  obtain ⟨T, id, hT, ht, hg⟩ := hr pins { s3 with heap := s3.heap.push { cls := .type "slice", data := .fields #[vl, vu, .none] } } σ H3 x v vl vu l u s3.heap.objs.size Q I4 r1 (Heap.IsSliceOf.new ..) pl pu q3
  show wpAny (model X.prog X.w) X.A (subscriptTail e (.Slice lo hi none p2) v (.ref s3.heap.objs.size)) (EP X pins σ Q) X.xe { s3 with heap := s3.heap.push { cls := .type "slice", data := .fields #[vl, vu, .none] } }
  exact tail_any (ops := [.ref s3.heap.objs.size, v]) ht hT hg (by with_unfolding_all rfl)

/-- the items of xs[lo:hi] -/
def cutV (xs : List V) (lo hi : Option Int) : List V := (xs.drop (HT.sIx xs.length 0 lo)).take (HT.sIx xs.length xs.length hi - HT.sIx xs.length 0 lo)
theorem cutV_length (xs : List V) (lo hi : Option Int) : (cutV xs lo hi).length ≤ xs.length := by
  unfold cutV
  rw [List.length_take, List.length_drop]
  omega
/-! ### t < u, t + u -/
end
end L2

namespace L2
open PySem PySem.Spec PyProof.Rows

/-! ### places -/
/-- the place that an index of any sign means -/
def ixN (n : Nat) (i : Int) : Option Nat := if 0 ≤ i then (if i < n then some i.toNat else none) else if -(n : Int) ≤ i then some (i + n).toNat else none
def atI {α : Type} (xs : List α) (i : Int) : Option α := (ixN xs.length i).bind fun j => xs[j]?
theorem ixN_seq {n : Nat} {i : Int} {j : Nat} (h : ixN n i = some j) : seqIndex? i n = some j ∧ j < n ∧ -(n : Int) ≤ i ∧ i < n := by
  unfold ixN at h
  by_cases h0 : 0 ≤ i
  · rw [if_pos h0] at h
    by_cases h1 : i < n
    · rw [if_pos h1] at h
      have e : i.toNat = j := Option.some.inj h
      exact ⟨by rw [seqIndex_of h0 h1, e], by omega, by omega, h1⟩
    · rw [if_neg h1] at h; cases h
  · rw [if_neg h0] at h
    by_cases h1 : -(n : Int) ≤ i
    · rw [if_pos h1] at h
      have e : (i + n).toNat = j := Option.some.inj h
      exact ⟨by rw [seqIndex_neg (by omega) h1, e], by omega, h1, by omega⟩
    · rw [if_neg h1] at h; cases h
theorem atI_get {α : Type} {xs : List α} {i : Int} {v : α} (h : atI xs i = some v) : ∃ j, seqIndex? i xs.length = some j ∧ xs[j]? = some v ∧ j < xs.length ∧ -(xs.length : Int) ≤ i ∧ i < xs.length := by
  unfold atI at h
  cases e : ixN xs.length i with
  | none => rw [e] at h; cases h
  | some j =>
    rw [e] at h
    obtain ⟨h1, h2, h3, h4⟩ := ixN_seq e
    exact ⟨j, h1, h, h2, h3, h4⟩
theorem atI_nat {α : Type} {xs : List α} {j : Nat} {v : α} (h : xs[j]? = some v) : atI xs (j : Int) = some v := by
  have hj : j < xs.length := (List.getElem?_eq_some_iff.mp h).1
  have e : ixN xs.length (j : Int) = some j := by
    unfold ixN
    rw [if_pos (by omega), if_pos (by omega)]; simp
  unfold atI; rw [e]; exact h
/-! ### what may be subscripted -/
/-- what stands as an index of a plain subscript -/
def PlainIx (b : Expr) : Prop := ∀ o i, subscripted b false o i = operate [o, i] (getItem o i)
/-- a subscript by values -/
def IxR (X : Cx) (r : R2) : Prop :=
  ∀ (value slice : Expr) (pins : List (Addr × Obj)) (s : Shared) (σ : St) (H : Hp) (x y : V) (v u : Value) (Q : VK), Inv X pins σ H s → RelV x v → RelV y u → r x y H Q →
    subscripted slice false v u = operate [v, u] (getItem v u) → wpAny (model X.prog X.w) X.A (subscriptTail value slice v u) (EP X pins σ Q) X.xe s
/-- a call of a builtin's method by values: the receiver, the arguments -/
def MtR (X : Cx) (id : String) (r : V → List V → Hp → VK → Prop) : Prop :=
  ∀ (pins : List (Addr × Obj)) (s : Shared) (σ : St) (H : Hp) (x : V) (xs : List V) (v : Value) (us : List Value) (Q : VK), Inv X pins σ H s → RelV x v → Vals xs us → r x xs H Q →
    wpAny (model X.prog X.w) X.A (call (.builtin id) (v :: us)) (EP X pins σ Q) X.xe s
section
variable {X : Cx} {a b : Expr} {ta tb : TE} {pos : Pos}
/-- a[b] -/
theorem pe_ix {r : R2} (hr : IxR X r) (ha : PE X a ta) (hb : PE X b tb) (hs : PlainIx b) : PE X (.Subscript a b pos) (tOp r ta tb) := by
  intro pins s σ H Q I h
  exact Subscript_ (binT ha hb I h fun v u s2 x y H2 I2 rx ry q => hr a b pins s2 σ H2 x y v u Q I2 rx ry q (hs _ _))

def rIxL (K : PySem.W.Frag) : R2 := fun x y H Q => ∃ p xs i v, x = .ref p ∧ y = .int i ∧ SqL K H p xs ∧ atI xs i = some v ∧ Q v H
def rIxT (K : PySem.W.Frag) : R2 := fun x y H Q => ∃ p xs i v, x = .ref p ∧ y = .int i ∧ SqT K H p xs ∧ atI xs i = some v ∧ Q v H
def rIxS : R2 := fun x y H Q => ∃ z i c, x = .str z ∧ y = .int i ∧ z.length ≤ sizeLine ∧ atI z.cps.toList i = some c ∧ Q (.str ⟨#[c]⟩) H
theorem ix_list : IxR X (rIxL X.K) := by
  intro value slice pins s σ H x y v u Q I rx ry h hs
  obtain ⟨p, xs, i, z, rfl, rfl, hq, he, q⟩ := h
  cases rx
  obtain ⟨t, rfl⟩ := ry
  obtain ⟨its, r, pl, hz⟩ := I.list hq
  obtain ⟨j, h1, h2, h3, h4, h5⟩ := atI_get he
  obtain ⟨w, ew, rw'⟩ := r.get h2
  have hl := r.length
  have hn := line63
  have fin : EP X pins σ Q w s := ⟨z, H, I, rw', q⟩
  by_cases h0 : 0 ≤ i
  · have hj : i.toNat = j := by
      rw [seqIndex_of h0 h5] at h1
      exact Option.some.inj h1
    exact item_listR pl.isList h0 (by omega) (by rw [hj]; simpa using ew) fin hs
  · have hj : (i + (its.toArray.size : Int)).toNat = j := by
      rw [seqIndex_neg (by omega) h4] at h1
      rw [List.size_toArray, ← hl]
      exact Option.some.inj h1
    exact subscriptTail_builtinR (x := w) pl.isList.typeIs slot_list_getitem.lookup
      (wpAny_getItem_list_neg (Q := fun r s' => r = w ∧ EP X pins σ Q r s') pl.isList (by omega) (by rw [List.size_toArray] <;> omega) (by omega) (by rw [hj]; simpa using ew) ⟨rfl, fin⟩) hs
theorem ix_tup : IxR X (rIxT X.K) := by
  intro value slice pins s σ H x y v u Q I rx ry h hs
  obtain ⟨p, xs, i, z, rfl, rfl, hq, he, q⟩ := h
  cases rx
  obtain ⟨t, rfl⟩ := ry
  obtain ⟨its, r, pl, hz⟩ := I.tuple hq
  obtain ⟨j, h1, h2, h3, h4, h5⟩ := atI_get he
  obtain ⟨w, ew, rw'⟩ := r.get h2
  have hl := r.length
  have hn := line63
  have fin : EP X pins σ Q w s := ⟨z, H, I, rw', q⟩
  exact subscriptTail_builtinR (x := w) pl.typeIs slot_tuple_getitem.lookup
    (getItem_tuple (j := j) (Q := fun r s' => r = w ∧ EP X pins σ Q r s') pl (by omega) (by omega) (by rw [List.size_toArray, ← hl]; exact h1) (by simpa using ew) ⟨rfl, fin⟩) hs
theorem ix_str : IxR X rIxS := by
  intro value slice pins s σ H x y v u Q I rx ry h hs
  obtain ⟨z, i, c, rfl, rfl, hz, he, q⟩ := h
  obtain ⟨t, rfl⟩ := rx
  obtain ⟨t', rfl⟩ := ry
  obtain ⟨j, h1, h2, h3, h4, h5⟩ := atI_get he
  have hl : z.cps.toList.length = z.length := by simp [Str.length]
  rw [hl] at h1 h4 h5
  have hn := line63
  exact tail_any (typeIs_str s z t) slot_str_getitem.lookup (getItem_str (c := c) (by
    have e1 : decide (i < -(2 ^ 63 : Int)) = false := decide_eq_false (by omega)
    have e2 : decide (i ≥ 2 ^ 63) = false := decide_eq_false (by omega)
    rw [e1, e2, Bool.or_false]) (by rw [h1]; simpa using h2) ⟨.str ⟨#[c]⟩, H, I.tok _, ⟨_, rfl⟩, q⟩) hs
/-! ### xs[i] = v, any sign -/
/-! ### slices -/
theorem slice_bounds (lo hi : Option Int) (n : Nat) : (sliceBounds lo hi none n).1 = ((HT.sIx n 0 lo : Nat) : Int) ∧ (sliceBounds lo hi none n).2.1 = ((HT.sIx n n hi : Nat) : Int) ∧ (sliceBounds lo hi none n).2.2 = 1 := by
  refine ⟨?_, ?_, rfl⟩
  · cases lo with
    | none => simp [sliceBounds, HT.sIx]
    | some i =>
      simp only [sliceBounds, HT.sIx, Option.getD_none, show (1 : Int) > 0 by decide, if_true]
      by_cases h : i < 0
      · simp only [h, if_true] <;> omega
      · simp only [h, if_false] <;> omega
  · cases hi with
    | none => simp [sliceBounds, HT.sIx]
    | some i =>
      simp only [sliceBounds, HT.sIx, Option.getD_none, show (1 : Int) > 0 by decide, if_true]
      by_cases h : i < 0
      · simp only [h, if_true] <;> omega
      · simp only [h, if_false] <;> omega
theorem slicePick_cut (its : List Value) (lo hi : Option Int) : slicePick its.toArray lo hi none = ((its.drop (HT.sIx its.length 0 lo)).take (HT.sIx its.length its.length hi - HT.sIx its.length 0 lo)).toArray := by
  obtain ⟨h1, h2, h3⟩ := slice_bounds lo hi its.toArray.size
  unfold slicePick
  rw [h1, h2, h3]
  simp only [sliceRange_one, pick_run, List.size_toArray] <;> rfl
/-- xs[lo:hi] of a list: a new list -/
def rSlL (K : PySem.W.Frag) : V → Option Int → Option Int → Hp → VK → Prop := fun x lo hi H Q => ∃ a xs, x = .ref a ∧ SqL K H a xs ∧ ∀ p, H p = none → Q (.ref p) (upd H p (.lst (cutV xs lo hi)))
theorem sl_list : SlR X (rSlL X.K) := by
  intro pins s σ H x v vl vu lo hi sl Q I rx hs pl pu h
  obtain ⟨a, xs, rfl, hx, q⟩ := h
  cases rx
  obtain ⟨its, r, ht, hz⟩ := I.list hx
  have hlen := r.length
  refine ⟨"list", _, slot_list_getitem.lookup, ht.isList.typeIs, ?_⟩
  refine wpAny_getItem_list_slice ht.isList hs pl pu .none (by simp) ?_ (by rw [List.size_toArray] <;> omega)
  rw [slicePick_cut, ← hlen]
  refine ⟨.ref s.heap.objs.size, _, I.laid (t' := s.toks) (o := .lst (cutV xs lo hi)) (fun b ob q => Heap.get?_push_of_some _ q) (Nat.le_refl _) ?_, rfl, q _ (I.hok.fresh (Nat.le_refl _))⟩
  exact ⟨Nat.le_trans (cutV_length xs lo hi) hz, _, 0, (r.drop (HT.sIx xs.length 0 lo)).take (HT.sIx xs.length xs.length hi - HT.sIx xs.length 0 lo), Heap.get?_push_size _ rfl⟩

/-! ### in, not in: flat items -/
def flatV : V → Bool
  | .non => true
  | .bl _ => true
  | .int _ => true
  | .str _ => true
  | _ => false
/-- == of flat values -/
def eqV : V → V → Bool
  | .non, .non => true
  | .bl a, .bl b => a == b
  | .bl a, .int b => (if a then 1 else 0) == b
  | .int a, .bl b => a == (if b then 1 else 0)
  | .int a, .int b => a == b
  | .str a, .str b => a == b
  | _, _ => false
theorem eqAt_V {A : Around} {s : Shared} {y x : V} {u v : Value} (ry : RelV y u) (rx : RelV x v) (fy : flatV y = true) (fx : flatV x = true) : SeqAt.EqAt A s u v (eqV y x) := by
  cases y with
  | non =>
    cases ry
    cases x with
    | non => cases rx; exact SeqAt.EqAt.same _
    | bl b => cases rx; exact SeqAt.EqAt.none_bool b
    | int b => obtain ⟨t, rfl⟩ := rx; exact SeqAt.EqAt.none_int b t
    | str b => obtain ⟨t, rfl⟩ := rx; exact SeqAt.EqAt.none_str b t
    | _ => exact absurd (show false = true from fx) Bool.false_ne_true
  | bl a =>
    cases ry
    cases x with
    | non => cases rx; exact SeqAt.EqAt.bool_none a
    | bl b => cases rx; exact SeqAt.EqAt.bool_bool a b
    | int b => obtain ⟨t, rfl⟩ := rx; exact SeqAt.EqAt.bool_int a b t
    | str b => obtain ⟨t, rfl⟩ := rx; exact SeqAt.EqAt.bool_str a b t
    | _ => exact absurd (show false = true from fx) Bool.false_ne_true
  | int a =>
    obtain ⟨t', rfl⟩ := ry
    cases x with
    | non => cases rx; exact SeqAt.EqAt.int_none a t'
    | bl b => cases rx; exact SeqAt.EqAt.int_bool a t' b
    | int b => obtain ⟨t, rfl⟩ := rx; exact SeqAt.EqAt.int_int a t' b t
    | str b => obtain ⟨t, rfl⟩ := rx; exact SeqAt.EqAt.int_str a t' b t
    | _ => exact absurd (show false = true from fx) Bool.false_ne_true
  | str a =>
    obtain ⟨t', rfl⟩ := ry
    cases x with
    | non => cases rx; exact SeqAt.EqAt.str_none a t'
    | bl b => cases rx; exact SeqAt.EqAt.str_bool a t' b
    | int b => obtain ⟨t, rfl⟩ := rx; exact SeqAt.EqAt.str_int a t' b t
    | str b => obtain ⟨t, rfl⟩ := rx; exact SeqAt.EqAt.str_str a t' b t
    | _ => exact absurd (show false = true from fx) Bool.false_ne_true
  | _ => exact absurd (show false = true from fy) Bool.false_ne_true
/-- the items' answers, read off the values (a value's own answer does not lean on its token) -/
def eqU (x : V) (u : Value) : Bool := match u with
  | .none => eqV .non x
  | .bool b => eqV (.bl b) x
  | .int i _ => eqV (.int i) x
  | .str z _ => eqV (.str z) x
  | _ => false
theorem eqU_of {x y : V} {u : Value} (r : RelV y u) (f : flatV y = true) : eqU x u = eqV y x := by
  cases y with
  | non => cases r; rfl
  | bl b => cases r; rfl
  | int i => obtain ⟨t, rfl⟩ := r; rfl
  | str z => obtain ⟨t, rfl⟩ := r; rfl
  | _ => exact absurd (show false = true from f) Bool.false_ne_true
theorem any_eqU {x : V} : ∀ {xs : List V} {us : List Value}, Vals xs us → xs.all flatV = true → us.any (eqU x) = xs.any fun y => eqV y x
  | _, _, .nil, _ => rfl
  | y :: xs, u :: us, .cons r t, f => by
    rw [List.all_cons, Bool.and_eq_true] at f
    rw [List.any_cons, List.any_cons, eqU_of r f.1, any_eqU t f.2]
theorem mem_eqAt {A : Around} {s : Shared} {x : V} {v : Value} (rx : RelV x v) (fx : flatV x = true) : ∀ {xs : List V} {us : List Value}, Vals xs us → xs.all flatV = true → ∀ u ∈ us, SeqAt.EqAt A s u v (eqU x u)
  | _, _, .nil, _ => fun u hu => by cases hu
  | y :: xs, u :: us, .cons r t, f => fun u' hu => by
    rw [List.all_cons, Bool.and_eq_true] at f
    rcases List.mem_cons.mp hu with rfl | hu
    · rw [eqU_of r f.1]; exact eqAt_V r rx f.1 fx
    · exact mem_eqAt rx fx t f.2 u' hu
def inV (x : V) (xs : List V) : Bool := xs.any fun y => eqV y x
/-- x in a list or tuple of flat items -/
def rIn (K : PySem.W.Frag) (neg : Bool) : R2 := fun x y H Q => ∃ p xs, y = .ref p ∧ (SqL K H p xs ∨ SqT K H p xs) ∧ flatV x = true ∧ xs.all flatV = true ∧ Q (.bl (if neg then !inV x xs else inV x xs)) H
theorem op_in_seq : OpR X (compareOp .In) (rIn X.K false) := by
  intro pins s σ H x y v u Q I rx ry h
  obtain ⟨p, xs, rfl, hq, fx, fs, q⟩ := h
  cases ry
  rcases hq with hq | hq
  · obtain ⟨its, r, pl, hz⟩ := I.list hq
    refine SeqAt.in_listAt (eqU x) pl.isList (fun w hw => mem_eqAt rx fx r fs w (by simpa using hw)) ⟨.bl _, H, I, rfl, ?_⟩
    rw [show its.toArray.any (eqU x) = its.any (eqU x) by simp, any_eqU r fs]
    exact q
  · obtain ⟨its, r, pl, hz⟩ := I.tuple hq
    refine SeqAt.in_tupleAt (eqU x) pl (fun w hw => mem_eqAt rx fx r fs w (by simpa using hw)) ⟨.bl _, H, I, rfl, ?_⟩
    rw [show its.toArray.any (eqU x) = its.any (eqU x) by simp, any_eqU r fs]
    exact q
/-! ### len, list(x), tuple(x) of any list or tuple that is read -/
theorem call_len_seq : CallR X (.builtin "len") (fun xs H Q => ∃ p ys, xs = [.ref p] ∧ (SqL X.K H p ys ∨ SqT X.K H p ys) ∧ Q (.int ys.length) H) := by
  intro pins s σ H xs us Q I r h
  obtain ⟨p, ys, rfl, hq, q⟩ := h
  obtain ⟨u, rfl, rx⟩ := vals1 r
  cases rx
  have hn := line63
  rcases hq with hq | hq
  · obtain ⟨its, r', pl, hz⟩ := I.list hq
    have hlen := r'.length
    exact Calls.call_len_list pl.isList (by simp only [List.size_toArray] <;> omega) ⟨.int ys.length, H, I.tok _, ⟨s.toks + 1, by rw [List.size_toArray, hlen]⟩, q⟩
  · obtain ⟨its, r', pl, hz⟩ := I.tuple hq
    have hlen := r'.length
    exact len_tuple pl (by simp only [List.size_toArray] <;> omega) ⟨.int ys.length, H, I.tok _, ⟨s.toks + 1, by rw [List.size_toArray, hlen]⟩, q⟩
theorem call_len_str : CallR X (.builtin "len") (fun xs H Q => ∃ z, xs = [.str z] ∧ z.length ≤ sizeLine ∧ Q (.int z.length) H) := by
  intro pins s σ H xs us Q I r h
  obtain ⟨z, rfl, hz, q⟩ := h
  obtain ⟨u, rfl, t, rfl⟩ := vals1 r
  have hn := line63
  exact len_str (by omega) ⟨.int z.length, H, I.tok _, ⟨_, rfl⟩, q⟩
theorem call_list_of : CallR X (.type "list") (fun xs H Q => ∃ p ys, xs = [.ref p] ∧ (SqL X.K H p ys ∨ SqT X.K H p ys) ∧ ∀ l, H l = none → Q (.ref l) (upd H l (.lst ys))) := by
  intro pins s σ H xs us Q I r h
  obtain ⟨p, ys, rfl, hq, q⟩ := h
  obtain ⟨u, rfl, rx⟩ := vals1 r
  cases rx
  have fin : ∀ (its : List Value), Vals ys its → ys.length ≤ sizeLine → ∀ (h' : Heap) (c' : Nat), (∀ b o', s.heap.get? b = some o' → h'.get? b = some o') →
      h'.get? s.heap.objs.size = some { cls := .type "list", dict := none, data := .seq its.toArray c', slots := #[] } → EP X pins σ Q (.ref s.heap.objs.size) { s with heap := h' } := fun its r' hz h' c' kp e =>
    ⟨.ref s.heap.objs.size, _, I.laid (t' := s.toks) kp (Nat.le_refl _) (show ObjOk X.prog X.w _ h' _ (.lst ys) from ⟨hz, its, c', r', e⟩), rfl, q _ (I.hok.fresh (Nat.le_refl _))⟩
  rcases hq with hq | hq
  · obtain ⟨its, r', pl, hz⟩ := I.list hq
    have hlen := r'.length
    obtain ⟨o, ho, hc, n, hd⟩ := pl.isList
    exact call_list_seq p (.inl rfl) ho hc hd (fun h' c' kp e => fin its r' hz h' c' kp e) (by simp only [List.size_toArray] <;> omega)
  · obtain ⟨its, r', pl, hz⟩ := I.tuple hq
    have hlen := r'.length
    obtain ⟨o, ho, hc, n, hd⟩ := pl
    exact call_list_seq p (.inr rfl) ho hc hd (fun h' c' kp e => fin its r' hz h' c' kp e) (by simp only [List.size_toArray] <;> omega)
/-! ### the call of a builtin's method: o.m(..) -/
/-- the value is of that builtin type -/
def tyV (K : PySem.W.Frag) (T : String) (x : V) (H : Hp) : Prop := match x with
  | .str _ => T = "str"
  | .int _ => T = "int"
  | .ref p => (T = "list" ∧ ∃ xs, SqL K H p xs) ∨ (T = "tuple" ∧ ∃ o, K.lookup p = some o ∧ o.cls = .type "tuple" ∧ o.dict = none) ∨
      (T = "dict" ∧ ((∃ kvs, H p = some (.dK kvs)) ∨ ∃ kvs, H p = some (.dT kvs))) ∨ (T = "set" ∧ ∃ S n, H p = some (.set S n))
  | _ => False
theorem tyV_is {pins : List (Addr × Obj)} {σ : St} {H : Hp} {s : Shared} {T : String} {x : V} {v : Value} (I : Inv X pins σ H s) (r : RelV x v) (ty : tyV X.K T x H) :
    s.TypeIs v T ∧ ∀ a, v = .ref a → ∃ ob, s.heap.get? a = some ob ∧ ob.dict = none := by
  cases x with
  | str z =>
    obtain ⟨t, rfl⟩ := r
    cases (show T = "str" from ty)
    exact ⟨typeIs_str s z t, fun _ e => nomatch e⟩
  | int i =>
    obtain ⟨t, rfl⟩ := r
    cases (show T = "int" from ty)
    exact ⟨typeIs_int s i t, fun _ e => nomatch e⟩
  | ref p =>
    cases r
    rcases ty with ⟨rfl, xs, hq⟩ | ⟨rfl, o, hk, hc, hd⟩ | ⟨rfl, hk⟩ | ⟨rfl, S, n, hk⟩
    · obtain ⟨its, _, pl, _⟩ := I.list hq
      refine ⟨pl.isList.typeIs, fun a e => ?_⟩
      cases e
      obtain ⟨o, n, e, c, hd, _⟩ := pl
      exact ⟨o, e, hd⟩
    · refine ⟨⟨o, I.kIn p o hk, hc⟩, fun a e => ?_⟩
      cases e
      exact ⟨o, I.kIn _ o hk, hd⟩
    · have z : ∃ o, s.heap.get? p = some o ∧ o.ExactDict := by
        rcases hk with ⟨kvs, hk⟩ | ⟨kvs, hk⟩
        · obtain ⟨_, _, _, _, o, _, _, e, ex, _⟩ := I.hok p _ hk
          exact ⟨o, e, ex⟩
        · obtain ⟨_, _, _, _, o, _, _, e, ex, _⟩ := I.hok p _ hk
          exact ⟨o, e, ex⟩
      obtain ⟨o, e, ex⟩ := z
      refine ⟨⟨o, e, ex.1⟩, fun a e2 => ?_⟩
      cases e2
      exact ⟨o, e, ex.2.1⟩
    · obtain ⟨o, _, _, _, e, ex, _⟩ := I.hok p _ hk
      refine ⟨⟨o, e, ex.1⟩, fun a e2 => ?_⟩
      cases e2
      exact ⟨o, e, ex.2.1⟩
  | _ => exact False.elim ty
def tBM0 (K : PySem.W.Frag) (T : String) (r : V → List V → Hp → VK → Prop) (to : TE) : TE := fun σ H Q => to σ H fun x H1 => tyV K T x H1 ∧ r x [] H1 Q
def tBM (K : PySem.W.Frag) (T : String) (r : V → List V → Hp → VK → Prop) (to : TE) (t : TA) : TE := fun σ H Q => to σ H fun x H1 => tyV K T x H1 ∧ t σ H1 fun xs H2 => r x xs H2 Q
variable {o e : Expr} {es : List Expr} {to : TE} {t : TA} {name : Str} {apos cpos : Pos} {T id : String} {r : V → List V → Hp → VK → Prop}
theorem pe_bm0 (pa : PlainAttrs T) (slot : Slot T name id) (hty : typeOf (.builtin id) = pure (.type "method_descriptor")) (hm : MtR X id r) (ho : PE X o to)
    (hbase : attributeBase o name X.env (eval o X.env) = eval o X.env := by rfl) (hline : (apos.endLine == cpos.line) = true := by rfl) : PE X (.Call (.Attribute o name apos) [] [] cpos) (tBM0 X.K T r to) := by
  intro pins s σ H Q I h
  refine wpAny_Call_method0_late hbase hline (thn (ho pins s σ H _ I h) fun v s1 ⟨x, H1, I1, r1, ty, q1⟩ => ?_)
  obtain ⟨h1, h2⟩ := tyV_is I1 r1 ty
  exact ⟨T, id, pa, slot, hty, h1, h2, Calls.callWith_builtin rfl (PySem.evalArgs_none (hm pins s1 σ H1 x [] v [] Q I1 r1 .nil q1))⟩
theorem pe_bm (pa : PlainAttrs T) (slot : Slot T name id) (hty : typeOf (.builtin id) = pure (.type "method_descriptor")) (hm : MtR X id r) (ho : PE X o to) (ha : PA X (e :: es) t)
    (hbase : attributeBase o name X.env (eval o X.env) = eval o X.env := by rfl)
    (hfew : ((backTo cpos (starEach (e :: es) X.env)).all (fun x => !x.1) && (backToKw cpos (keywordEach [] X.env)).all (fun x => x.1.isSome)
      && decide ((e :: es).length + ([] : List Keyword).length + (if ([] : List Keyword).isEmpty then 0 else 1) < 30)) = true := by rfl)
    (hline : (apos.endLine == cpos.line) = true := by rfl) (hs : starEach (e :: es) X.env = (false, eval e X.env) :: starEach es X.env := by rfl) (hplain : (backTo cpos (starEach es X.env)).any (·.1) = false := by rfl) :
    PE X (.Call (.Attribute o name apos) (e :: es) [] cpos) (tBM X.K T r to t) := by
  intro pins s σ H Q I h
  refine wpAny_Call_method_late hbase hfew hline rfl (thn (ho pins s σ H _ I h) fun v s1 ⟨x, H1, I1, r1, ty, q1⟩ => ?_)
  obtain ⟨h1, h2⟩ := tyV_is I1 r1 ty
  refine ⟨T, id, pa, slot, hty, h1, h2, ?_⟩
  have hA := ha cpos pins s1 σ H1 _ I1 q1
  rw [hs] at hA ⊢
  refine Calls.callWith_builtin (by show (false || (backTo cpos (starEach es X.env)).any (·.1)) = false; rw [hplain] <;> rfl) (Calls.evalArgs_plain ?_)
  exact thn hA fun us s2 ⟨vs, H2, I2, r2, q2⟩ => hm pins s2 σ H2 x vs v us Q I2 r1 r2 q2
/- xs.append(e), list.index on a module's tuple .. are MtR facts of 06m -/
end
end L2

namespace L2
open PySem PySem.Spec PyProof.Rows

def MtM (X : Cx) (id : String) (r : V → List V → Hp → VK → Prop) : Prop :=
  ∀ (pins : List (Addr × Obj)) (s : Shared) (σ : St) (H : Hp) (x : V) (xs : List V) (v : Value) (us : List Value) (Q : VK), Inv X pins σ H s → RelV x v → Vals xs us → r x xs H Q →
    wpAny (model X.prog X.w) X.A (call (.builtin id) (v :: us)) (EP X pins σ Q) X.xe s

/-! ### lists of values -/
theorem Vals.one : ∀ {x : V} {us : List Value}, Vals [x] us → ∃ u, us = [u] ∧ RelV x u
  | _, _, .cons r .nil => ⟨_, rfl, r⟩
theorem Vals.two : ∀ {x y : V} {us : List Value}, Vals [x, y] us → ∃ u v, us = [u, v] ∧ RelV x u ∧ RelV y v
  | _, _, _, .cons r (.cons q .nil) => ⟨_, _, rfl, r, q⟩
theorem Vals.zero : ∀ {us : List Value}, Vals [] us → us = []
  | _, .nil => rfl
section
variable {X : Cx} {pins : List (Addr × Obj)} {σ : St} {H : Hp} {s : Shared} {l b : Addr} {xs ys zs : List V}

/-! ### the two steps: a tracked list is rewritten, a new list is laid -/
theorem Inv.lset {its its' : List Value} {n : Nat} {f : Array Value → Array Value} {t' : Nat} (I : Inv X pins σ H s) (hH : H l = some (.lst xs))
    (e : s.heap.get? l = some { cls := .type "list", data := .seq its.toArray n }) (hf : f its.toArray = its'.toArray) (hv : Vals ys its') (hz : ys.length ≤ sizeLine) :
    Inv X pins σ (upd H l (.lst ys)) { s with heap := s.heap.update l (Obj.mapSeq f), toks := t' } := by
  have q := PySem.IsL.update e f
  rw [hf] at q
  refine I.write (x := l) (e := l) (by rw [hH]; exact trivial) (.inl rfl) (fun b' u hb hu => (Heap.get?_update_other s.heap (Obj.mapSeq f) (Ne.symm hb)).trans hu) ⟨_, q⟩ ?_
  exact ⟨hz, its', _, hv, q⟩
theorem Inv.lnew {its : List Value} {t' : Nat} (I : Inv X pins σ H s) (hv : Vals ys its) (hz : ys.length ≤ sizeLine) :
    Inv X pins σ (upd H s.heap.objs.size (.lst ys)) { s with heap := s.heap.push { cls := .type "list", data := .seq its.toArray }, toks := t' } :=
  I.laid (fun _ _ q => Heap.get?_push_of_some _ q) (Nat.le_refl _) ⟨hz, its, 0, hv, Heap.get?_push_size _ rfl⟩
theorem Inv.fresh (I : Inv X pins σ H s) : H s.heap.objs.size = none := I.hok.fresh (Nat.le_refl _)
theorem Inv.lstM (I : Inv X pins σ H s) (hH : H l = some (.lst xs)) : xs.length ≤ sizeLine ∧ ∃ (its : List Value) (n : Nat), Vals xs its ∧ xs.length = its.length ∧ s.heap.get? l = some { cls := .type "list", data := .seq its.toArray n } := by
  obtain ⟨z, its, n, r, e⟩ := I.hok l _ hH
  exact ⟨z, its, n, r, r.length, e⟩

end

section
variable {X : Cx}

/-! ### methods -/
def rAppend : V → List V → Hp → VK → Prop := fun x vs H Q => ∃ l xs y, x = .ref l ∧ vs = [y] ∧ H l = some (.lst xs) ∧ xs.length < sizeLine ∧ Q .non (upd H l (.lst (xs ++ [y])))
theorem mt_append : MtM X "list.append" rAppend := by
  intro pins s σ H x vs v us Q I rx rv h
  obtain ⟨l, xs, y, rfl, rfl, hH, hz, q⟩ := h
  cases rx
  obtain ⟨u, rfl, ru⟩ := rv.one
  obtain ⟨z, its, n, r, hl, e⟩ := I.lstM hH
  refine call_meets F.slot_list_append ⟨_, e, rfl⟩ F.entry_list_append (F.args_list_append_2 _ _) (PySem.list_append l its.toArray n u (by rw [List.size_toArray]; omega)) ⟨e, ?_⟩
  refine ⟨.non, _, I.lset (its' := its ++ [u]) hH e (by simp) (r.append (.cons ru .nil)) ?_, rfl, q⟩
  rw [List.length_append, List.length_singleton]
  omega

def rClear : V → List V → Hp → VK → Prop := fun x vs H Q => ∃ l xs, x = .ref l ∧ vs = [] ∧ H l = some (.lst xs) ∧ Q .non (upd H l (.lst []))
theorem mt_clear : MtM X "list.clear" rClear := by
  intro pins s σ H x vs v us Q I rx rv h
  obtain ⟨l, xs, rfl, rfl, hH, q⟩ := h
  cases rx
  have hus := rv.zero
  subst hus
  obtain ⟨z, its, n, r, hl, e⟩ := I.lstM hH
  refine call_meets F.slot_list_clear ⟨_, e, rfl⟩ F.entry_list_clear (F.args_list_clear_1 _) (AutoSeq1.list_clear_list_0 l its.toArray n (by rw [List.size_toArray]; omega)) ⟨e, ?_⟩
  exact ⟨.non, _, I.lset (its' := []) (ys := []) hH e rfl .nil (Nat.zero_le _), rfl, q⟩

/-! ### list + list, list += list, list * int -/
def rCat : R2 := fun x y H Q => ∃ l b xs zs, x = .ref l ∧ y = .ref b ∧ H l = some (.lst xs) ∧ H b = some (.lst zs) ∧ xs.length + zs.length ≤ sizeLine ∧ ∀ p, H p = none → Q (.ref p) (upd H p (.lst (xs ++ zs)))
theorem op_cat : OpR X (binaryOp .Add) rCat := by
  intro pins s σ H x y v u Q I rx ry h
  obtain ⟨l, b, xs, zs, rfl, rfl, hH, hB, hz, q⟩ := h
  cases rx
  cases ry
  obtain ⟨z, its, n, r, hl, e⟩ := I.lstM hH
  obtain ⟨z2, its2, n2, r2, hl2, e2⟩ := I.lstM hB
  refine PySem.P.add_list e e2 ?_ (by rw [List.size_toArray, List.size_toArray]; omega)
  have ea : its.toArray ++ its2.toArray = (its ++ its2).toArray := by simp
  rw [ea]
  exact ⟨.ref _, _, I.lnew (t' := s.toks) (r.append r2) (by rw [List.length_append]; omega), rfl, q _ I.fresh⟩
/-! ### del xs[i] -/
end

/-! ### xs[a:b] = ys -/
section
variable {prog : Program} {w : World} {A : Around} {E : Value → Shared → Prop} {s : Shared}
end

section
variable {X : Cx}
end
end L2

namespace Att
open PySem PySem.W PySem.Calls PyProof.Rows

/-! ### the script -/
theorem ints_of_wellAll {P : Params} {h : Heap} : ∀ (ns : List Int) (vs : List Value), WellAll P h vs (ns.map WData.int) → IntsAre vs ns := by
  intro ns
  induction ns with
  | nil =>
    intro vs w
    rw [List.map_nil] at w
    cases w
    exact .nil
  | cons n ns ih =>
    intro vs w
    rw [List.map_cons] at w
    cases w with
    | cons a b =>
      cases a
      exact .cons _ _ (ih _ b)

theorem script_of {l : OpenLaw} {n : Nat} (hn : l.most = some n) {P : Params} {h : Heap} {args : List WData} {vals : List Value}
    (hpre : l.row.toRowW.claim.pre args = true) (hwl : WellAll P h vals args) :
    ∃ a vs ns, vals = [Value.ref a] ∧ args = [WData.list (ns.map WData.int)] ∧ h.get? a = some { cls := .type "list", data := .seq vs.toArray } ∧ IntsAre vs ns ∧ ns.length ≤ n := by
  have hsh : WShape.hasAll [] args [.list .int] = true := (pre_splitW hpre).1
  have hc : l.pre.holds [] { args := args } = true := (pre_splitW hpre).2
  obtain ⟨d, r, rfl, h1, h2⟩ := hasAllW_cons hsh
  obtain rfl := hasAllW_nil h2
  obtain ⟨xs, rfl, h3⟩ := hasW_list h1
  obtain ⟨ns, rfl⟩ := items_int h3
  have hlen : ns.length ≤ n := by
    unfold OpenLaw.pre at hc
    have h4 : (WTm.not (.lt (.lit (.int (n : Int))) (.len (.arg 0)))).holds [] { args := [.list (ns.map .int)] } = true := by
      have h4 := (holds_andW hc).1
      rw [hn] at h4
      exact h4
    have h5 := condW_of h4 (w_not (w_lt w_lit (w_len_list (w_arg rfl))))
    rw [List.length_map] at h5
    refine Nat.le_of_not_lt fun q => ?_
    have q' : (n : Int) < ((ns.length : Nat) : Int) := by omega
    first
      | (rw [decide_eq_true q'] at h5; exact absurd h5 (by decide))
      | (simp at h5; omega)
  cases hwl with
  | cons w1 w2 =>
    cases w2
    cases w1 with
    | list ho hall => exact ⟨_, _, ns, rfl, rfl, ho, ints_of_wellAll ns _ hall, hlen⟩

theorem post_true (l : OpenLaw) (args : List WData) : l.row.toRowW.claim.post args (.bool true) args = true :=
  postW_of (r := l.row.toRowW) (X := (true == true))
    (show WShape.has [] (.bool true) .bool = true by first | rfl | decide | simp [WShape.has, WShape.arms, WShape.armsAll])
    (show (WTm.eq .res (.lit (.bool true))).value [] { args := args, res := some (.bool true), after := args } = some (.bool (true == true)) from w_eq_bool (w_res rfl) w_lit) rfl

/-! ### the attachment: holds_open's last premise (the goal 'hc' behind k_head) from a wpAny of the law's body -/
/-- the same from a codeAny of the CALL (for a layer whose function contracts speak of calls) -/
theorem attach_call {l : OpenLaw} {n : Nat} {q : Program} {loose : List Str} {XP : (Str → Option Value) → Heap → Prop} {YP : World → Heap → Prop} {d : DefRec}
    (hn : l.most = some n) (hdf : d.params.defaults = [])
    (call : ∀ (w : World) (s₀ s₁ : Shared) (mg mb : Str → Option Value) (fa : Addr) (o : Obj) (pm cd doc : Value) (a : Addr) (vs : List Value) (ns : List Int),
      Ground q loose [] XP w s₀ mg mb s₁.heap → YP w s₁.heap →
      s₁.heap.get? fa = some o → o.data = .func (docDef d.name d.params d.body d.scope pm cd doc) → s₁.heap.CodeRec cd d.name → mg d.name = some (.ref fa) →
      s₁.heap.get? a = some { cls := .type "list", data := .seq vs.toArray } → IntsAre vs ns → ns.length ≤ n → s₁.gens = #[] →
      codeAny (model l.prog w) callerA (.call (.ref fa) ⟨[.ref a], []⟩) (fun r s' => r = .ok (.ret (.bool true)) ∧ OldK s₁.heap s'.heap ∧ s'.os = s₁.os ∧ AllBare s'.gens) s₁) :
    WalkO q loose XP YP l.row.toRowW d [] (fun f vs => PySem.call f vs) := by
  intro w s₀ s₁ mg mb G Y fa o pm cd doc dV kV ho hd hcd hD hmg hg args vals as hpre hlay hrd hwl hlo
  obtain rfl : dV = .none := Dflts.none hD hdf
  obtain rfl : kV = .none := Dflts.noKw hD
  obtain ⟨a, vs, ns, rfl, rfl, hobj, hints, hlen⟩ := script_of hn hpre hwl
  refine enter_call (codeAny_mono (call w s₀ s₁ mg mb fa o pm cd doc a vs ns G Y ho (fd_plain hd) hcd hmg hobj hints hlen hg) fun r s' hq => ?_)
  obtain ⟨rfl, h2, h3, h4⟩ := hq
  exact ⟨.inl ⟨.bool true, .bool true, [], rfl, fun _ => rfl, .bool true, post_true l _, fun _ => ⟨List.Pairwise.nil, fun _ hm => (nomatch hm)⟩⟩, h2, h3, h4⟩

/-! ### rules over ANY heap (no ledger) from facts about the written part K: the library's own take a ledger (News) for what they write -/
section
variable {prog : Program} {w : World} {A : Around} {E : Value → Shared → Prop} {s : Shared} {K : Frag}

/-! the whole heap as the ledger: makes every rule that writes through a ledger a rule over any heap -/
end
end Att

namespace L2
open PySem PySem.Spec PyProof.Rows

theorem vals_ints : ∀ {vs : List Value} {ns : List Int}, IntsAre vs ns → Vals (ns.map V.int) vs
  | _, _, .nil => .nil
  | _, _, .cons n t h => .cons ⟨t, rfl⟩ (vals_ints h)

/-- nothing is tracked but the script, known to the object (or it is an object of the module) -/
def Only (H : Hp) : Prop := ∀ b, H b = none ∨ ∃ o xs, H b = some (.frz o (.lst xs))

/-- THE HEAD: the law's promise, at the heap behind the top. F, the promise of the law's def, may use that base is part of the heap (so K.In base, base.Ns mainGlobals mg stand in Mod) -/
theorem law_call {P : Program} {w : World} {K : PySem.W.Frag} {mg mb : Str → Option Value} {CX : CXT} {k : Nat} {fa a : Addr} {fd : FuncData} {x : Str} {sp : Sp} {s₁ : Shared} {vs : List Value} {ns : List Int}
    (KX : K.In s₁.heap) (hns : s₁.heap.Ns mainGlobals mg) (hb : s₁.heap.Ns builtinsNs mb) (hbb : ∀ x : Str, x ≠ "__name__" → mb x = bootBuiltins x) (hlim : s₁.heap.NoLimit) (hg : s₁.gens = #[])
    (ha : s₁.heap.get? a = some { cls := .type "list", data := .seq vs.toArray }) (hi : IntsAre vs ns) (hl : ns.length ≤ sizeLine) (hr : Room k callerA)
    (F : ∀ base : Heap, K.In base → base.Ns mainGlobals mg → FnOk P w K mg base CX k fa fd [x] sp) (hbind : ∀ (s : Shared) (u : Value), BindsTo s fd ⟨[u], []⟩ [(x, u)])
    (hsp : ∀ H : Hp, Only H → SqL K H a (ns.map V.int) → sp [.ref a] H (fun v _ => v = .bl true) fun _ _ _ => False)
    (hCX : ∀ H e s', CX [] H s₁ (fun _ _ _ => False) e s' → False) :
    codeAny (model P w) callerA (.call (.ref fa) ⟨[.ref a], []⟩) (fun r s' => r = .ok (.ret (.bool true)) ∧ OldK s₁.heap s'.heap ∧ s'.os = s₁.os ∧ AllBare s'.gens) s₁ := by
  have rv := vals_ints hi
  have lenV := hi.length
  -- from an abstract heap in which nothing but the script may be tracked
  have core : ∀ H : Hp, Only H → SqL K H a (ns.map V.int) → HOk P w H s₁.heap → (∀ b, H b ≠ none → b = a) → (H a ≠ none → K.lookup a = none) →
      codeAny (model P w) callerA (.call (.ref fa) ⟨[.ref a], []⟩) (fun r s' => r = .ok (.ret (.bool true)) ∧ OldK s₁.heap s'.heap ∧ s'.os = s₁.os ∧ AllBare s'.gens) s₁ := by
    intro H hO hS hok hA hK
    have base_of : ∀ {b : Addr} {o : Obj}, s₁.heap.get? b = some o → H b = none → (hidT s₁.heap H).get? b = some o := fun e n => hidT_get e n
    have noA : ∀ {b : Addr} {o : Obj} {es : Array DictEntry} {ep : Nat}, s₁.heap.get? b = some o → o.data = .dict es ep → H b = none := fun {b o es ep} e d => by
      cases q : H b with
      | none => rfl
      | some u =>
        have e' : b = a := hA b (by rw [q]; simp)
        subst e'
        rw [ha] at e; cases e
        have d' : Data.seq vs.toArray _ = Data.dict es ep := d
        cases d'
    have nsK : ∀ {b : Addr} {m : Str → Option Value}, s₁.heap.Ns b m → (hidT s₁.heap H).Ns b m := fun {b m} ⟨o, es, ep, e, d, r⟩ => ⟨o, es, ep, base_of e (noA e d), d, r⟩
    have hKb : K.In (hidT s₁.heap H) := fun b o e => base_of (KX b o e) (by
      cases q : H b with
      | none => rfl
      | some u =>
        have e' : b = a := hA b (by rw [q]; simp)
        subst e'
        rw [hK (by rw [q]; simp)] at e; cases e)
    have hM : Mod K mg (hidT s₁.heap H) := ⟨hKb, nsK hns, ⟨mb, nsK hb, hbb⟩, let ⟨mc, h1, h2⟩ := hlim; ⟨mc, nsK h1, h2⟩⟩
    have e0 : Env0 P w K mg (hidT s₁.heap H) callerA [] s₁ H := ⟨rfl, hM, fun b o e => of_hidT e, Nat.le_of_eq (hidT_size _ _), trivial, fun b hb => absurd (show b ∈ ([] : List Addr) from hb) (by simp), hok, .of_eq hg⟩
    refine codeAny_mono ((F _ hKb (nsK hns)).run callerA [] s₁ H ⟨[.ref a], []⟩ [.ref a] [.ref a] _ _ hr e0 (hbind s₁ (.ref a)) (.cons rfl .nil) (hsp H hO hS)) fun r s' h => ?_
    cases r with
    | error e => exact (hCX H e s' h).elim
    | ok fl =>
      cases fl with
      | next => exact False.elim h
      | brk => exact False.elim h
      | cont => exact False.elim h
      | ret u =>
        obtain ⟨v, H', os, bare, un, hok', r', q⟩ := h
        have q' : v = .bl true := q
        subst q'
        obtain rfl : u = Value.bool true := r'
        refine ⟨rfl, OldK.of_keep fun b o e => ?_, os, bare⟩
        cases q : H b with
        | none => exact un.keep b o e q (by intro z; exact absurd (show b ∈ ([] : List Addr) from z) (by simp)) (by simp)
        | some u =>
          rcases hO b with z | ⟨ob, xs, z⟩
          · rw [q] at z; cases z
          · have z2 := un.frzs b ob _ z
            obtain ⟨e1, _⟩ := hok b _ z
            obtain ⟨e2, _⟩ := hok' b _ z2
            rw [e] at e1; cases e1
            exact e2
  cases hk : K.lookup a with
  | some o =>
    -- the script is one of the module's own objects
    have e := KX a o hk
    rw [ha] at e
    cases e
    refine core (fun _ => none) (fun _ => .inl rfl) (.inr ⟨_, vs.toArray, _, hk, rfl, rfl, rfl, by rw [List.size_toArray, lenV]; exact hl, by simpa using rv⟩) (fun b u z => by have z' : (none : Option HO) = some u := z; cases z') (fun b z => absurd rfl z) fun z => absurd rfl z
  | none =>
    refine core (fun b => if b = a then some (.frz { cls := .type "list", data := .seq vs.toArray } (.lst (ns.map V.int))) else none) (fun b => ?_) (.inl (.inr ⟨{ cls := .type "list", data := .seq vs.toArray }, if_pos rfl⟩)) (fun b u z => ?_) (fun b z => ?_) fun _ => hk
    · by_cases hb : b = a
      · exact .inr ⟨_, _, if_pos hb⟩
      · exact .inl (if_neg hb)
    · by_cases hb : b = a
      · have z' := (if_pos hb).symm.trans z
        cases z'
        subst hb
        exact ⟨ha, by rw [List.length_map]; exact hl, vs, _, rv, ha⟩
      · have z' := (if_neg hb).symm.trans z
        cases z'
    · by_cases hb : b = a
      · exact hb
      · exact absurd (if_neg hb) z
end L2

namespace L2
open PySem PySem.Spec PyProof.Rows

/-- the goal that k_head leaves (case hc), from the law's promise. F gives the function object fd (K's own) once, then the promise over every base -/
theorem walk_of {l : PySem.W.OpenLaw} {n k : Nat} {q : Program} {loose : List Str} {XP : (Str → Option Value) → Heap → Prop} {YP : World → Heap → Prop} {d : DefRec} {K : Params → PySem.W.Frag} {CX : World → CXT} {sp : World → Sp} {x : Str}
    (hn : l.most = some n) (hn2 : n ≤ sizeLine) (hdf : d.params.defaults = []) (hr : Room k callerA)
    (hY : ∀ (w : World) (h : Heap), YP w h → (K w.params).In h)
    (F : ∀ (w : World) (mg : Str → Option Value) (fa : Addr) (h : Heap), (K w.params).In h → h.Ns mainGlobals mg → mg d.name = some (.ref fa) →
      ∃ fd : FuncData, (∀ (s : Shared) (u : Value), BindsTo s fd ⟨[u], []⟩ [(x, u)]) ∧
        ∀ base : Heap, (K w.params).In base → base.Ns mainGlobals mg → FnOk l.prog w (K w.params) mg base (CX w) k fa fd [x] (sp w))
    (hsp : ∀ (w : World) (H : Hp) (a : Addr) (ns : List Int), ns.length ≤ n → Only H → SqL (K w.params) H a (ns.map V.int) → sp w [.ref a] H (fun v _ => v = .bl true) fun _ _ _ => False)
    (hCX : ∀ (w : World) (H : Hp) (s : Shared) (e : Value) (s' : Shared), CX w [] H s (fun _ _ _ => False) e s' → False) :
    PySem.W.WalkO q loose XP YP l.row.toRowW d [] (fun f vs => PySem.call f vs) := by
  refine Att.attach_call hn hdf fun w s₀ s₁ mg mb fa o pm cd doc a vs ns G Y ho hd hcd hmg hobj hints hlen hg => ?_
  have KX := hY w _ Y
  obtain ⟨fd, hb, hF⟩ := F w mg fa _ KX G.T.g hmg
  exact law_call KX G.T.g G.T.b G.T.builtins G.T.nolimit hg hobj hints (Nat.le_trans hlen hn2) hr hF hb (fun H hO hS => hsp w H a ns hlen hO hS) fun H e s' => hCX w H s₁ e s'
end L2

/-! SHORT WORDS over the layer: a def of the text, its body, what a loop and a test want. -/
namespace L2
open PySem PySem.Spec PyProof.Rows

/-! ### the text by places -/
/-- the j-th statement of a class's body -/
def inClass (s : Stmt) (j : Nat) : Stmt := match s with
  | .ClassDef _ _ _ body _ _ _ _ _ _ _ => body.getD j (.Pass ⟨0, 0, 0, 0⟩)
  | _ => .Pass ⟨0, 0, 0, 0⟩
def defArgs (s : Stmt) : Arguments := match s with
  | .FunctionDef _ a _ _ _ _ _ _ _ _ => a
  | _ => { posonlyargs := [], args := [], vararg := none, kwonlyargs := [], kw_defaults := [], kwarg := none, defaults := [] }
def defBody (s : Stmt) : List Stmt := match s with
  | .FunctionDef _ _ b _ _ _ _ _ _ _ => b
  | _ => []
def defScope (s : Stmt) : Scope := match s with
  | .FunctionDef _ _ _ _ _ _ sc _ _ _ => sc
  | _ => { kind := .function, names := [], isGenerator := false, isCoroutine := false }

/-! ### no exception leaves a def -/
abbrev CX0 : CXT := fun _ _ _ _ _ _ => False
abbrev E0 : XK := fun _ _ _ => False
theorem pass0 {X : Cx} : Passes CX0 X E0 := fun _ _ _ _ _ _ _ h => h.elim

/-! ### a def (or method) of the text as it stands behind the top -/
structure Fun (K : PySem.W.Frag) (x qual : Str) (st : Stmt) (f : Addr) (fd : FuncData) : Prop where
  ex : ∃ (oc : Value) (od : Option Addr) (kV doc pm : Value) (an : Option Addr) (cdv ct : Value) (osl : Array (Option Value)),
    fd = PySem.W.fnOf x qual (defArgs st) (defBody st) (defScope st) .none kV doc pm an cdv ct ∧ K.lookup f = some ⟨oc, od, .func fd, osl⟩ ∧ PySem.W.codeIn K cdv qual = true
  kp : PySem.W.keepIn K (.ref f) = true
section
variable {P : Program} {w : World} {K : PySem.W.Frag} {mg : Str → Option Value} {base : Heap}
/-- THE RULE for a def: its body as a term of rules, and the reading of that term -/
theorem Fun.ok {x qual : Str} {st : Stmt} {f : Addr} {fd : FuncData} {N ps : List Str} {k : Nat} {sp : Sp} (F : Fun K x qual st f fd) (S : FnScope N ps (defScope st)) (len : ∀ vs H Q E, sp vs H Q E → vs.length = ps.length)
    (hbody : ∀ (cdv : Value) (A : Around) (outer : List Env) (s : Shared) (H : Hp) (vs : List V) (Q : VK) (E : XK), Room k (A.deeper (envOfC qual (defScope st) s.heap.objs.size f cdv)) → sp vs H Q E →
      ∃ t, PSs (cxOf CX0 P w K mg base N qual (defScope st) f cdv A outer s H E).nox (defBody st) t ∧ t { nx := fun _ H' => Q .non H', rt := Q } (start N vs) H) : FnOk P w K mg base CX0 (k + 1) f fd ps sp := by
  obtain ⟨oc, od, kV, doc, pm, an, cdv, ct, osl, rfl, lk, hcd⟩ := F.ex
  refine fn_of lk hcd S len fun A outer s H vs Q E hr hsp => ?_
  obtain ⟨t, h, q⟩ := hbody cdv A outer s H vs Q E hr hsp
  exact ⟨t, h.nox, q⟩
/-- how its arguments bind (no defaults): h is «fun _ _ _ _ _ _ us hl => match us, hl with | [_, _], _ => rfl», one _ a parameter -/
theorem Fun.binds {x qual : Str} {st : Stmt} {f : Addr} {fd : FuncData} {ps : List Str} (F : Fun K x qual st f fd)
    (h : ∀ (kV doc pm : Value) (an : Option Addr) (cdv ct : Value) (us : List Value), us.length = ps.length → bindArgs (PySem.W.fnOf x qual (defArgs st) (defBody st) (defScope st) .none kV doc pm an cdv ct) ⟨us, []⟩ = pure (ps.zip us)) : Binds K fd ps [] := by
  obtain ⟨oc, od, kV, doc, pm, an, cdv, ct, osl, rfl, lk, hcd⟩ := F.ex
  exact .all (h kV doc pm an cdv ct)
theorem fun_mk {x qual : Str} {st : Stmt} {f : Addr} {oc : Value} {od an : Option Addr} {osl : Array (Option Value)} {kV doc pm cdv ct : Value} (l : K.lookup f = some ⟨oc, od, .func (PySem.W.fnOf x qual (defArgs st) (defBody st) (defScope st) .none kV doc pm an cdv ct), osl⟩)
    (c : PySem.W.codeIn K cdv qual = true) (k : PySem.W.keepIn K (.ref f) = true) : Fun K x qual st f (PySem.W.fnOf x qual (defArgs st) (defBody st) (defScope st) .none kV doc pm an cdv ct) := ⟨⟨oc, od, kV, doc, pm, an, cdv, ct, osl, rfl, l, c⟩, k⟩
end
/-! ### expressions in short: the name that stands in the i-th slot -/
section
variable {X : Cx}
theorem pv (i : Nat) {x : Str} {pos : Pos} (hN : X.N[i]? = some x := by rfl) (hv : Vis X.env.scope x := by first | exact Or.inl rfl | exact Or.inr (Or.inl rfl) | exact Or.inr (Or.inr rfl)) (hd : (x == ("__debug__" : Str)) = false := by decide)
    (hcd : (x == ("__classdict__" : Str)) = false := by decide) : PE X (.Name x pos) (tVar i) := pe_var hN hv hd hcd
end

/-! ### tests -/
theorem iteF {A B : Prop} (h : B) : if false = true then A else B := by
  rw [if_neg Bool.false_ne_true]
  exact h
theorem iteT {A B : Prop} (h : A) : if true = true then A else B := by
  rw [if_pos rfl]
  exact h
theorem ite2 {c A B : Prop} [Decidable c] (h1 : c → A) (h2 : ¬ c → B) : if c then A else B := by
  by_cases h : c
  · rw [if_pos h]
    exact h1 h
  · rw [if_neg h]
    exact h2 h
/-! ### heaps -/
/-- all that was tracked is as it was -/
def Same (H H' : Hp) : Prop := ∀ b o, H b = some o → H' b = some o
theorem Same.refl (H : Hp) : Same H H := fun _ _ h => h
theorem Same.trans {H H1 H2 : Hp} (a : Same H H1) (b : Same H1 H2) : Same H H2 := fun c o h => b c o (a c o h)
theorem Same.free {H H' : Hp} (e : Same H H') {l : Addr} (h : H' l = Option.none) : H l = Option.none := by
  cases q : H l with
  | none => rfl
  | some o =>
    rw [e l o q] at h
    cases h
theorem Same.seq {K : PySem.W.Frag} {H H' : Hp} {a : Addr} {xs : List V} (e : Same H H') (h : SqL K H a xs) : SqL K H' a xs := by
  rcases h with (h | ⟨o, h⟩) | h
  · exact .inl (.inl (e _ _ h))
  · exact .inl (.inr ⟨o, e _ _ h⟩)
  · exact .inr h

end L2

set_option linter.all false
set_option maxRecDepth 100000
set_option maxHeartbeats 4000000
/-! Comprehensions for the hand layer. -/
namespace L2
open PySem PySem.Spec PyProof.Rows

theorem closureFor_ok {scope : Scope} {env : Env} (h : ∀ y ∈ scope.names, y.2 = .free → ∃ c, env.cells.lookup y.1 = some c) :
    ∃ cl, closureFor scope env = pure cl ∧ (∀ y ∈ scope.names, y.2 = NameKind.free → cl.lookup y.1 = env.cells.lookup y.1) ∧ (∀ x c, cl.lookup x = some c → env.cells.lookup x = some c) := by
  have key : ∀ (names : List (Str × NameKind)) (acc : List (Str × Addr)) (f : Str × NameKind → List (Str × Addr) → Sem (ForInStep (List (Str × Addr)))),
      (∀ x cs, f x cs = if (x.2 == NameKind.free) = true then (cellOf env x.1 >>= fun a => pure (ForInStep.yield ((x.1, a) :: cs))) else pure (ForInStep.yield cs)) →
      (∀ y ∈ names, y.2 = .free → ∃ c, env.cells.lookup y.1 = some c) → (∀ x c, acc.lookup x = some c → env.cells.lookup x = some c) →
      ∃ cl, forIn names acc f = pure cl ∧ (∀ x c, acc.lookup x = some c → cl.lookup x = env.cells.lookup x) ∧ (∀ y ∈ names, y.2 = NameKind.free → cl.lookup y.1 = env.cells.lookup y.1) ∧ (∀ x c, cl.lookup x = some c → env.cells.lookup x = some c) := by
    intro names
    induction names with
    | nil =>
      intro acc f _ _ ha
      exact ⟨acc, rfl, fun x c e => by rw [e, ha x c e], fun _ h => (nomatch h), ha⟩
    | cons y r ih =>
      intro acc f hf hn ha
      obtain ⟨n, k⟩ := y
      rw [List.forIn_cons, hf]
      by_cases hk : k = .free
      · subst hk
        obtain ⟨c, hc⟩ := hn (n, .free) List.mem_cons_self rfl
        have hc' : cellOf env n = pure c := by unfold cellOf; rw [hc]
        have ha' : ∀ x d, ((n, c) :: acc).lookup x = some d → env.cells.lookup x = some d := fun x d e => by
          rw [List.lookup_cons] at e
          cases hx : x == n with
          | true =>
            rw [hx] at e
            have e' : c = d := Option.some.inj e
            have hx' : x = n := by simpa using hx
            rw [hx', hc, e']
          | false =>
            rw [hx] at e
            exact ha x d e
        obtain ⟨cl, e, h1, h2, h3⟩ := ih ((n, c) :: acc) f hf (fun y hy => hn y (List.mem_cons_of_mem _ hy)) ha'
        refine ⟨cl, ?_, fun x d ex => ?_, fun y hy hyf => ?_, h3⟩
        · rw [if_pos (by rfl)]
          show ((cellOf env n >>= fun a => pure (ForInStep.yield ((n, a) :: acc))) >>= _) = pure cl
          rw [hc', pure_bind, pure_bind]
          exact e
        · by_cases hxn : x = n
          · subst hxn
            exact h1 x c (by rw [List.lookup_cons, beq_self_eq_true])
          · refine h1 x d ?_
            rw [List.lookup_cons, beq_eq_false_iff_ne.mpr hxn]
            exact ex
        · rcases List.mem_cons.mp hy with rfl | hy
          · exact h1 _ c (by rw [List.lookup_cons, beq_self_eq_true])
          · exact h2 y hy hyf
      · have hb : (k == NameKind.free) = false := by simpa using hk
        obtain ⟨cl, e, h1, h2, h3⟩ := ih acc f hf (fun y hy => hn y (List.mem_cons_of_mem _ hy)) ha
        refine ⟨cl, ?_, h1, fun y hy hyf => ?_, h3⟩
        · show ((if (k == NameKind.free) = true then _ else pure (ForInStep.yield acc)) >>= _) = pure cl
          rw [if_neg (by rw [hb]; exact Bool.false_ne_true), pure_bind]
          exact e
        · rcases List.mem_cons.mp hy with rfl | hy
          · exact absurd hyf hk
          · exact h2 y hy hyf
  have z := key scope.names [] (fun x cs => if (x.2 == NameKind.free) = true then (cellOf env x.1 >>= fun a => pure (ForInStep.yield ((x.1, a) :: cs))) else pure (ForInStep.yield cs)) (fun _ _ => rfl) h (fun _ _ e => (nomatch e))
  obtain ⟨cl, e, _, h2, h3⟩ := z
  refine ⟨cl, ?_, h2, h3⟩
  show (forIn scope.names [] _ >>= pure) = pure cl
  exact (congrArg (· >>= pure) e).trans (pure_bind _ _)

/-- the context of a comprehension's block -/
abbrev compX (X : Cx) (scope : Scope) (N : List Str) (s₀ : Shared) (H₀ : Hp) (cl : List (Str × Addr)) (C : Addr) (ex : List Addr) : Cx :=
  { prog := X.prog, w := X.w, K := X.K, mg := X.mg, base := X.base, A := X.A, N := N, s₀ := s₀, H₀ := H₀, env := compEnvC scope cl C X.env,
    outer := X.stack, stack := X.stack, ex := ex, fn := fun _ => false, calm := X.calm, pn := [], xe := fun _ _ => False }

/-- the loop of a comprehension, an item at a time; nothing raises -/
theorem compLoop_any {prog : Program} {w : World} {A : Around} {R : Result → Shared → Prop} {s : Shared} {elt target iter : Expr} {ifs : List Expr} {scope : Scope} {pos : Pos} {it acc : Value} {env : Env} (I : Nat → Shared → Prop)
    (turn : ∀ n s, I n s → wpAny (model prog w) A (pyNext it) (fun r s₁ => match r with
      | none => R (.ok .next) s₁
      | some v => wpAny (model prog w) A (letOwnedTupleGo target it v) (fun _ s₁' => wpAny (model prog w) A (assign target env v) (fun _ s₂ =>
          wpAny (model prog w) A (forIn ifs true fun c r => if r = true then do let ok ← isTrue c env (eval c env); pure (ForInStep.yield ok) else pure (ForInStep.yield r)) (fun ok s₃ =>
            if ok = true then wpAny (model prog w) A (eval elt env) (fun x s₄ =>
              wpAny (model prog w) A (call (.builtin "list.append") [acc, x]) (fun _ s₅ => ∃ m, m < n ∧ I m s₅) (fun _ _ => False) s₄) (fun _ _ => False) s₃
            else ∃ m, m < n ∧ I m s₃) (fun _ _ => False) s₂) (fun _ _ => False) s₁') (fun _ _ => False) s₁) (fun _ _ => False) s)
    (n : Nat) (h : I n s) :
    codeAny (model prog w) A (.compLoop (.ListComp elt [⟨target, iter, ifs, 0⟩] scope pos) 0 it acc env) R s := by
  refine codeAny_loop rfl I (fun n s hI => ?_) n h
  show wpAny _ A ((compTurn (.ListComp elt [⟨target, iter, ifs, 0⟩] scope pos) 0 it acc env).onRaise (fun x => do noteFrame x env; theTreesLotGoes x)) _ _ s
  refine wpAny_noted ?_
  rw [compTurn_list]
  refine wpAny_bind (wpAny_standAt (wpAny_bind (wpAny_mono (turn n s hI) (fun r s₁ h₁ => ?_) fun _ _ z => z.elim)))
  cases r with
  | none => exact wpAny_pure h₁
  | some v =>
    refine wpAny_bind (wpAny_mono h₁ (fun _ s₁' h₁' => ?_) fun _ _ z => z.elim)
    refine wpAny_bind (wpAny_mono h₁' (fun _ s₂ h₂ => wpAny_bind (wpAny_mono h₂ (fun ok s₃ h₃ => ?_) fun _ _ z => z.elim)) fun _ _ z => z.elim)
    cases ok with
    | false => exact wpAny_pure ⟨rfl, h₃⟩
    | true =>
      exact wpAny_bind (wpAny_bind (wpAny_mono h₃ (fun x s₄ h₄ => wpAny_bind (wpAny_mono h₄ (fun _ s₅ h₅ => wpAny_pure (wpAny_pure ⟨rfl, h₅⟩)) fun _ _ z => z.elim)) fun _ _ z => z.elim))

/-- the tests of a comprehension -/
def PIfs (X : Cx) (ifs : List Expr) (t : TT) : Prop :=
  ∀ (pins : List (Addr × Obj)) (s : Shared) (σ : St) (H : Hp) (Q : Bool → Hp → Prop), Inv X pins σ H s → t σ H Q →
    wpAny (model X.prog X.w) X.A (forIn ifs true fun c r => if r = true then do let ok ← isTrue c X.env (eval c X.env); pure (ForInStep.yield ok) else pure (ForInStep.yield r)) (TP X pins σ Q) X.xe s
def tYes : TT := fun _ H Q => Q true H
theorem pifs_nil {X : Cx} : PIfs X [] tYes := fun _ _ _ H _ I h => wpAny_tests_nil ⟨H, I, h⟩
theorem pifs_one {X : Cx} {c : Expr} {t : TT} (hc : PT X c t) : PIfs X [c] t := fun pins s σ H Q I h => wpAny_tests_one (hc pins s σ H Q I h)

/-- what the loop of a comprehension is worth -/
def CompW (J : It) (H1 : Hp) (σ0 : St) (g : TG) (tc : TT) (te : TE) (Q : VK) : Prop := ∀ D, H1 D = none →
  ∃ W : Nat → Nat → St → List V → Hp → Prop, (∃ m, W 0 m σ0 [] (upd H1 D (.lst []))) ∧ ∀ i m σ1 ys H, W i m σ1 ys H →
    (J.stop i H ∧ Q (.ref D) H) ∨ (J.go i H ∧ ∀ x H', J.yld i H x H' → g x σ1 H' fun σ2 H2 => tc σ2 H2 fun b H3 =>
       if b = true then te σ2 H3 fun y H4 => H4 D = some (.lst ys) ∧ ys.length < sizeLine ∧ ∃ m', m' < m ∧ W (i + 1) m' σ2 (ys ++ [y]) (upd H4 D (.lst (ys ++ [y])))
       else ∃ m', m' < m ∧ W (i + 1) m' σ2 ys H3)
/-- what a comprehension is worth -/
def tComp (wi : TI) (sub : St → St) (g : TG) (tc : TT) (te : TE) : TE := fun σ H Q => wi σ H fun J H1 => CompW J H1 (sub σ) g tc te Q
/-- the block's slots: those that it takes over from the frame -/
def subσ (js : List (Option Nat)) (σ : St) : St := js.map fun o => o.bind fun j => (σ[j]?).join

theorem lookup_relabel_free {env : Env} : ∀ {names : List (Str × NameKind)} {x : Str}, names.lookup x = some .free →
    (names.map fun (n, k) => if (k == NameKind.free && env.scope.kind == .function && env.kindOf n == some .cell) then (n, NameKind.cell) else (n, k)).lookup x = some .cell ∨
    (names.map fun (n, k) => if (k == NameKind.free && env.scope.kind == .function && env.kindOf n == some .cell) then (n, NameKind.cell) else (n, k)).lookup x = some .free
  | [], _, h => by simp at h
  | (n, k) :: r, x, h => by
    have ih := @lookup_relabel_free env r x
    show List.lookup x ((if (k == NameKind.free && env.scope.kind == .function && env.kindOf n == some .cell) = true then (n, NameKind.cell) else (n, k)) :: _) = _ ∨ List.lookup x ((if (k == NameKind.free && env.scope.kind == .function && env.kindOf n == some .cell) = true then (n, NameKind.cell) else (n, k)) :: _) = _
    cases hx : x == n with
    | true =>
      simp only [List.lookup_cons, hx] at h
      cases h
      by_cases hc : (NameKind.free == NameKind.free && env.scope.kind == .function && env.kindOf n == some .cell) = true
      · rw [if_pos hc]; left; simp only [List.lookup_cons, hx]
      · rw [if_neg hc]; right; simp only [List.lookup_cons, hx]
    | false =>
      simp only [List.lookup_cons, hx] at h
      by_cases hc : (k == NameKind.free && env.scope.kind == .function && env.kindOf n == some .cell) = true
      · rw [if_pos hc]; simp only [List.lookup_cons, hx]; exact ih h
      · rw [if_neg hc]; simp only [List.lookup_cons, hx]; exact ih h
/-- a name of the block that is a cell or free there was free in its scope -/
theorem relabel_back {env : Env} : ∀ {names : List (Str × NameKind)} {x : Str}, (∀ y ∈ names, y.2 ≠ NameKind.cell) →
    ((names.map fun (n, k) => if (k == NameKind.free && env.scope.kind == .function && env.kindOf n == some .cell) then (n, NameKind.cell) else (n, k)).lookup x = some .cell ∨
    (names.map fun (n, k) => if (k == NameKind.free && env.scope.kind == .function && env.kindOf n == some .cell) then (n, NameKind.cell) else (n, k)).lookup x = some .free) → (x, NameKind.free) ∈ names
  | [], _, _, h => by simp at h
  | (n, k) :: r, x, hn, h => by
    have ih := @relabel_back env r x fun y hy => hn y (List.mem_cons_of_mem _ hy)
    have hk : k ≠ .cell := hn (n, k) List.mem_cons_self
    change List.lookup x ((if (k == NameKind.free && env.scope.kind == .function && env.kindOf n == some .cell) = true then (n, NameKind.cell) else (n, k)) :: _) = _ ∨ List.lookup x ((if (k == NameKind.free && env.scope.kind == .function && env.kindOf n == some .cell) = true then (n, NameKind.cell) else (n, k)) :: _) = _ at h
    cases hx : x == n with
    | true =>
      have hx' : x = n := by simpa using hx
      subst hx'
      by_cases hc : (k == NameKind.free && env.scope.kind == .function && env.kindOf x == some .cell) = true
      · have : k = .free := by
          have := (Bool.and_eq_true _ _).mp ((Bool.and_eq_true _ _).mp hc).1
          simpa using this.1
        subst this
        exact List.mem_cons_self
      · rw [if_neg hc] at h
        simp only [List.lookup_cons, beq_self_eq_true] at h
        rcases h with h | h
        · exact absurd (Option.some.inj h) hk
        · have := Option.some.inj h
          subst this
          exact List.mem_cons_self
    | false =>
      by_cases hc : (k == NameKind.free && env.scope.kind == .function && env.kindOf n == some .cell) = true
      · rw [if_pos hc] at h; simp only [List.lookup_cons, hx] at h; exact List.mem_cons_of_mem _ (ih h)
      · rw [if_neg hc] at h; simp only [List.lookup_cons, hx] at h; exact List.mem_cons_of_mem _ (ih h)

section
variable {X : Cx} {elt tg iter : Expr} {ifs : List Expr} {scope : Scope} {pos : Pos} {N : List Str} {js : List (Option Nat)} {wi : TI} {g : TG} {tc : TT} {te : TE}
/-- the scope of a comprehension in a frame of scope osc and names ON: no cells of its own; its free names are the frame's cells; the slots taken over bear their names -/
structure CompScope (osc : Scope) (ON : List Str) (scope : Scope) (N : List Str) (js : List (Option Nat)) : Prop where
  kind : scope.kind = .function
  cell : ∀ y ∈ scope.names, y.2 ≠ .cell
  names : ∀ y ∈ scope.names, y.2 = .local → scope.names.lookup y.1 = some .local
  free : ∀ y ∈ scope.names, y.2 = .free → osc.names.lookup y.1 = some .cell ∨ osc.names.lookup y.1 = some .free
  len : js.length = N.length
  slots : (js.zip N).all (fun p => match p.1 with | none => true | some j => decide (ON[j]? = some p.2) && decide (scope.names.lookup p.2 = some .free)) = true
theorem CompScope.sub {osc : Scope} {ON : List Str} {scope : Scope} {N : List Str} {js : List (Option Nat)} (cs : CompScope osc ON scope N js) : ∀ (i j : Nat), js[i]? = some (some j) → ∃ x, N[i]? = some x ∧ ON[j]? = some x ∧ scope.names.lookup x = some .free := by
  intro i j h
  have hi : i < js.length := (List.getElem?_eq_some_iff.mp h).1
  have hN : N[i]? = some (N[i]'(by rw [← cs.len]; exact hi)) := List.getElem?_eq_getElem _
  have hz : (js.zip N)[i]? = some (some j, N[i]'(by rw [← cs.len]; exact hi)) := by
    rw [List.getElem?_zip_eq_some]
    exact ⟨h, hN⟩
  have hm := List.all_eq_true.mp cs.slots _ (List.mem_of_getElem? hz)
  have hm2 := (Bool.and_eq_true _ _).mp hm
  exact ⟨_, hN, of_decide_eq_true hm2.1, of_decide_eq_true hm2.2⟩

theorem mem_of_lookup {α : Type} : ∀ {l : List (Str × α)} {x : Str} {k : α}, l.lookup x = some k → (x, k) ∈ l
  | [], _, _, h => by simp at h
  | (n, v) :: r, x, k, h => by
    rw [List.lookup_cons] at h
    cases hx : x == n with
    | true =>
      rw [hx] at h
      have hx' : x = n := by simpa using hx
      have : v = k := Option.some.inj h
      subst hx' this
      exact List.mem_cons_self
    | false =>
      rw [hx] at h
      exact List.mem_cons_of_mem _ (mem_of_lookup h)

theorem pe_comp {osc : Scope} {ON : List Str} (cs : CompScope osc ON scope N js) (ho : X.env.scope = osc) (hON : X.N = ON) (hc : X.calm = true) (hi : PI X tg iter wi)
    (hg : ∀ s₀ H₀ cl C ex, PG (compX X scope N s₀ H₀ cl C ex) tg g) (hif : ∀ s₀ H₀ cl C ex, PIfs (compX X scope N s₀ H₀ cl C ex) ifs tc) (he : ∀ s₀ H₀ cl C ex, PE (compX X scope N s₀ H₀ cl C ex) elt te)
    (hs : ∀ x, foldedSetIterable iter X.env x = pure x := by intro _; rfl) : PE X (.ListComp elt [⟨tg, iter, ifs, 0⟩] scope pos) (tComp wi (subσ js) g tc te) := by
  intro pins s σ H Q I h
  subst ho hON
  obtain ⟨cl, hcl, cl1, cl2⟩ := closureFor_ok (scope := scope) (env := X.env) fun y hy hf => I.ok.has y.1 (cs.free y hy hf)
  rw [eval_ListComp]
  refine wpAny_comprehension_free (use := none) rfl hs hcl cs.kind cs.names ?_
  refine thn (hi pins s σ H _ I h) fun v s1 h1 => thn h1 fun itv s2 h2 => ?_
  obtain ⟨it, fp, tn, J, H2, e, I2, T, st2, f2, hW⟩ := h2
  subst e
  have hD0 : H2 s2.heap.objs.size = none := I2.hok.fresh (Nat.le_refl _)
  obtain ⟨W, ⟨m0, w0⟩, turn⟩ := hW s2.heap.objs.size hD0
  have I3 := I2.lnew (t' := s2.toks) (ys := []) (its := []) .nil (Nat.zero_le _)
  refine wpAny_newObj_type (wpAny_newFunctionEnv cs.cell (by intro y hy; simp at hy) (fun h₁ hns₁ hsb₁ => ?_) cs.kind)
  dsimp only at hns₁ hsb₁ ⊢
  -- the state with the new list: s3
  obtain ⟨s3, hs3⟩ : ∃ s3 : Shared, s3 = { s2 with heap := s2.heap.push { cls := .type "list", data := .seq ([] : List Value).toArray }, toks := s2.toks } := ⟨_, rfl⟩
  rw [← hs3] at I3
  have e3 : s3.heap = s2.heap.push { cls := .type "list", dict := none, data := .seq ([] : List Value).toArray } := by rw [hs3]
  have e3o : s3.os = s2.os := by rw [hs3]
  have e3g : s3.gens = s2.gens := by rw [hs3]
  rw [← e3] at hns₁ hsb₁ ⊢
  obtain ⟨H3, hH3⟩ : ∃ H3 : Hp, H3 = upd H2 s2.heap.objs.size (.lst []) := ⟨_, rfl⟩
  rw [← hH3] at I3 w0
  have up1 : ∀ b o, s2.heap.get? b = some o → s3.heap.get? b = some o := fun b o q => by rw [e3]; exact Heap.get?_push_of_some _ q
  have up2 : ∀ b o, s3.heap.get? b = some o → h₁.get? b = some o := fun b o q => hsb₁.extBut b o (Nat.ne_of_lt (Heap.lt_size q)) (Heap.get?_push_of_some _ q)
  have fpo : ∀ b ∈ fp, ∃ o, s3.heap.get? b = some o := fun b hb => by
    obtain ⟨o, ho, _⟩ := T.obj 0 _ st2 b hb
    exact ⟨o, up1 b o ho⟩
  have fr3 : ∀ b ∈ fp, H3 b = none := fun b hb => by
    obtain ⟨o, ho, _⟩ := T.obj 0 _ st2 b hb
    rw [hH3, upd_ne (Nat.ne_of_lt (Heap.lt_size ho))]
    exact (f2 b hb).1
  have fpC : ∀ b ∈ fp, b ≠ s3.heap.objs.size := fun b hb => by
    obtain ⟨o, ho⟩ := fpo b hb
    exact Nat.ne_of_lt (Heap.lt_size ho)
  have fpS : ∀ b ∈ fp, b ∉ frs X.stack := fun b hb hs' => by
    rcases List.mem_cons.mp (I2.stkSub b hs') with z | z
    · exact (f2 b hb).2.1 z
    · exact (f2 b hb).2.2.1 z
  have ok' : (compX X scope N s3 H3 cl s3.heap.objs.size fp).Ok := by
    refine ⟨I.ok.mod, cs.kind, I.ok.glob, I.ok.blt, Nat.le_refl _, fun x y c e1 e2 => I.ok.inj x y c (cl2 x c e1) (cl2 y c e2), fun x hx => ?_, fun x c hf => (nomatch hf), I.ok.hd, I.ok.frames, .inl rfl, fun b hb => ⟨fpC b hb, fun x c e => (f2 b hb).2.2.2.2.1 x c (cl2 x c e)⟩,
      I3.bs, Nat.le_trans I.ok.bsz I3.sz, fun b o e hb => ?_, fun b hb => fpS b hb, I3.stack, I3.stkFree⟩
    · have hm : (x, NameKind.free) ∈ scope.names := relabel_back cs.cell hx
      obtain ⟨c, hc⟩ := I.ok.has x (cs.free _ hm rfl)
      exact ⟨c, (cl1 _ hm rfl).trans hc⟩
    · rcases (f2 b hb).2.2.2.1 with z | z
      · exact I.ok.noex b o e z
      · exact absurd (Nat.lt_of_lt_of_le (Heap.lt_size e) (Nat.le_trans I.ok.bsz z)) (Nat.lt_irrefl _)
  have cellK : ∀ c v, s3.heap.IsCell c v → h₁.IsCell c v := fun c v ⟨o, ho, hd⟩ => ⟨o, up2 c o ho, hd⟩
  have I4 : ∀ t : Nat, Inv (compX X scope N s3 H3 cl s3.heap.objs.size fp) [] (subσ js σ) H3 { s2 with heap := h₁, toks := t } := fun t => by
    refine ⟨ok', e3o.symm, I2.bare, Un.kept up2, ⟨_, hns₁, fun i x v hi hv hx => ?_⟩, fun x c e => ?_, I3.hok.fresh (Nat.le_refl _), fun x c e => I3.freeC x c (cl2 x c e), fun p hp => (nomatch hp), I3.hok.kept up2, ?_⟩
    · -- a slot taken over
      have hv' : ∃ j, js[i]? = some (some j) ∧ σ[j]? = some (some v) := by
        unfold subσ at hv
        rw [List.getElem?_map] at hv
        cases hj : js[i]? with
        | none => rw [hj] at hv; cases hv
        | some o =>
          rw [hj] at hv
          cases o with
          | none => cases hv
          | some j =>
            refine ⟨j, rfl, ?_⟩
            have hv2 : (σ[j]?).join = some v := Option.some.inj hv
            cases hs2 : σ[j]? with
            | none => rw [hs2] at hv2; cases hv2
            | some u => rw [hs2] at hv2; exact congrArg some hv2
      obtain ⟨j, hj, hσ⟩ := hv'
      obtain ⟨x', h1', h2', h3'⟩ := cs.sub i j hj
      have hxx : x = x' := Option.some.inj (hi.symm.trans h1')
      subst hxx
      have hm : (x, NameKind.free) ∈ scope.names := mem_of_lookup h3'
      have hk := cs.free _ hm rfl
      obtain ⟨m, hn, hl⟩ := id I3.loc
      obtain ⟨u, ru, lk⟩ := hl j x v h2' hσ (by rcases hk with z | z; exact .inr (.inl z); exact .inr (.inr z))
      refine ⟨u, ru, ?_⟩
      rcases lk with ⟨k1, _⟩ | ⟨k1, c, e1, z⟩
      · rcases hk with z | z <;> (rw [show X.env.kindOf x = _ from z] at k1; cases k1)
      · exact .inr ⟨lookup_relabel_free h3', c, (cl1 _ hm rfl).trans e1, cellK c _ z⟩
    · obtain ⟨v, z⟩ := I3.cell x c (cl2 x c e)
      exact ⟨v, cellK c v z⟩
    · unfold subσ
      rw [List.length_map]
      exact cs.len
  have hst₁ : tn 0 h₁ := T.keep 0 _ _ st2 fun b hb o q => up2 b o (up1 b o q)
  have stat : ∀ {H' : Hp}, (∀ b ∈ fp, H' b = none) → ∀ b ∈ fp, FpOk (compX X scope N s3 H3 cl s3.heap.objs.size fp) [] H' b := fun hn b hb =>
    ⟨hn b hb, fpC b hb, fpS b hb, .inl hb, fun x c e => (f2 b hb).2.2.2.2.1 x c (cl2 x c e), fun p hp => (nomatch hp)⟩
  have loop : ∀ s4 : Shared, (∃ t, s4 = { s2 with heap := h₁, toks := t }) →
      codeAny (model X.prog X.w) X.A (.compLoop (.ListComp elt [⟨tg, iter, ifs, 0⟩] scope pos) 0 (.ref it) (.ref s2.heap.objs.size) (compEnvC scope cl s3.heap.objs.size X.env))
        (compPost (model X.prog X.w) X.A X.xe none (EP X pins σ Q) (.ref s2.heap.objs.size) s3.heap.objs.size) s4 := by
    rintro s4 ⟨t, rfl⟩
    refine compLoop_any (fun n s' => ∃ i σ' ys H', Inv (compX X scope N s3 H3 cl s3.heap.objs.size fp) [] σ' H' s' ∧ tn i s'.heap ∧ (∀ b ∈ fp, H' b = none) ∧ W i n σ' ys H') ?_ m0 ⟨0, _, [], H3, I4 t, hst₁, fr3, w0⟩
    rintro n s5 ⟨i, σ5, ys, H5, I5, st5, fr5, w5⟩
    rcases turn i n σ5 ys H5 w5 with ⟨stop, qn⟩ | ⟨go, step⟩
    · refine thn (T.done (compX X scope N s3 H3 cl s3.heap.objs.size fp) rfl rfl rfl hc i [] s5 σ5 H5 _ I5 (stat fr5) st5 stop) fun r s6 ⟨hr, I6⟩ => ?_
      subst hr
      obtain ⟨m, hn, _⟩ := id I6.loc
      refine ⟨m, hn, fun h' hs' => ⟨.ref s2.heap.objs.size, H5, ?_, rfl, qn⟩⟩
      have neC : ∀ b o, s3.heap.get? b = some o → b ≠ s3.heap.objs.size := fun b o q => Nat.ne_of_lt (Heap.lt_size q)
      have un : Un (frs X.stack) fp H3 H5 s3.heap h' :=
        ⟨fun b o q n1 hb hx => (hs'.2 b (neC b o q)).trans (I6.base.keep b o q n1 hb hx),
         fun b o q n1 hb hx => by
           obtain ⟨sl, e⟩ := I6.base.slot b o q n1 hb hx
           exact ⟨sl, (hs'.2 b (neC b o q)).trans e⟩,
         fun b o q n1 hx => I6.base.free b o q n1 hx,
         fun b o q hx => by
           obtain ⟨o', e⟩ := I6.base.there b o q hx
           exact ⟨o', (hs'.2 b (neC b o q)).trans e⟩,
         I6.base.tups, I6.base.frzs, I6.base.tbls⟩
      refine I3.call' (ch := fp) (s' := { s6 with heap := h' }) I6.os un (fun b ob e => ?_) I6.bare (fun b hb => ⟨(f2 b hb).2.2.2.1, (f2 b hb).2.1, (f2 b hb).2.2.2.2.1, (f2 b hb).2.2.2.2.2⟩)
      refine (I6.hok b ob e).stay (fun c w' hc' q => (hs'.2 c ?_).trans q) (fun _ q => q) fun _ _ q => q
      rintro rfl
      have fC : H5 s3.heap.objs.size = none := I6.free
      rcases hc' with z | z
      · rw [← z, fC] at e; cases e
      · rw [fC] at z; cases z
    · refine thn (T.item (compX X scope N s3 H3 cl s3.heap.objs.size fp) rfl rfl rfl hc i [] s5 σ5 H5 _ I5 (stat fr5) st5 go) fun r s6 ⟨u, hr, h6⟩ => ?_
      subst hr
      refine thn h6 fun _ s7 ⟨x, H7, I7, r7, y7, st7, fr7⟩ => ?_
      have I7' := I7.pinned (stat fr7) (T.obj _ _ st7)
      refine thn (hg _ _ _ _ _ _ s7 σ5 H7 x u _ I7' r7 (step x H7 y7)) fun _ s8 ⟨σ8, H8, I8, q8⟩ => ?_
      refine thn (hif _ _ _ _ _ _ s8 σ8 H8 _ I8 q8) fun ok s9 ⟨H9, I9, q9⟩ => ?_
      have again : ∀ {σ' : St} {H' : Hp} {s' : Shared}, Inv (compX X scope N s3 H3 cl s3.heap.objs.size fp) ([] ++ pinsAt fp s7.heap) σ' H' s' →
          Inv (compX X scope N s3 H3 cl s3.heap.objs.size fp) [] σ' H' s' ∧ tn (i + 1) s'.heap ∧ ∀ b ∈ fp, H' b = none := fun {σ' H' s'} I' => by
        refine ⟨I'.unpinned, T.keep _ _ _ st7 fun b hb o e => (I'.pin (b, o) (List.mem_append_right _ (List.mem_append_right _ (mem_pinsAt hb e)))).1, fun b hb => ?_⟩
        obtain ⟨o, e, d⟩ := T.obj _ _ st7 b hb
        exact (I'.pin (b, o) (List.mem_append_right _ (List.mem_append_right _ (mem_pinsAt hb e)))).2.1
      cases ok with
      | false =>
        rw [if_neg Bool.false_ne_true] at q9 ⊢
        obtain ⟨m', hm, w9⟩ := q9
        obtain ⟨a1, a2, a3⟩ := again I9
        exact ⟨m', hm, i + 1, σ8, ys, H9, a1, a2, a3, w9⟩
      | true =>
        rw [if_pos rfl] at q9 ⊢
        refine thn (he _ _ _ _ _ _ s9 σ8 H9 _ I9 q9) fun yv s10 ⟨y, H10, I10, r10, q10⟩ => ?_
        obtain ⟨hD, hz, m', hm, w10⟩ := q10
        refine thn (mt_append (X := compX X scope N s3 H3 cl s3.heap.objs.size fp) _ s10 σ8 H10 (.ref s2.heap.objs.size) [y] (.ref s2.heap.objs.size) [yv] (fun v H' => H' = upd H10 s2.heap.objs.size (.lst (ys ++ [y]))) I10 rfl (.cons r10 .nil)
          ⟨s2.heap.objs.size, ys, y, rfl, rfl, hD, hz, rfl⟩) fun _ s11 ⟨v11, H11, I11, _, e11⟩ => ?_
        have e11' : H11 = upd H10 s2.heap.objs.size (.lst (ys ++ [y])) := e11
        subst e11'
        obtain ⟨a1, a2, a3⟩ := again I11
        exact ⟨m', hm, i + 1, σ8, ys ++ [y], _, a1, a2, a3, w10⟩
  exact codeAny_compStart_list (loop _ ⟨_, rfl⟩) (T.self X.A 0 _ _ _ hst₁ (loop _ ⟨_, rfl⟩))
end

/-! ### the forms one uses -/
/-- an iterator that hands out xs, in this order, whatever grows beside it -/
structure Hands (J : It) (H0 : Hp) (xs : List V) : Prop where
  go : ∀ i H, Same H0 H → i < xs.length → J.go i H
  yld : ∀ i H x H', Same H0 H → i < xs.length → J.yld i H x H' → H' = H ∧ xs[i]? = some x
  stop : ∀ H, Same H0 H → J.stop xs.length H
theorem hands_list {K : PySem.W.Frag} {a : Addr} {H : Hp} {xs : List V} (h : SqL K H a xs) : Hands (Itl K a) H xs where
  go := fun i H' s hi => ⟨xs, xs[i], s.seq h, by simp [hi]⟩
  yld := fun i H' x H'' s hi y => ⟨y.1, y.2 xs (s.seq h)⟩
  stop := fun H' s => ⟨xs, s.seq h, Nat.le_refl _⟩
theorem hands_range {H : Hp} (lo : Int) (n : Nat) : Hands (Itr lo n) H ((List.range n).map fun i => .int (lo + (i : Nat))) where
  go := fun i H' s hi => by rw [List.length_map, List.length_range] at hi; exact hi
  yld := fun i H' x H'' s hi y => by
    rw [List.length_map, List.length_range] at hi
    refine ⟨y.1, ?_⟩
    rw [List.getElem?_map, List.getElem?_range hi]
    exact congrArg some y.2.symm
  stop := fun H' s => by rw [List.length_map, List.length_range]; exact Nat.le_refl _

theorem same_new {H : Hp} {p : Addr} (h : H p = none) (o : HO) : Same H (upd H p o) := fun b u q => by rw [upd_ne (ne_of_none q h)]; exact q
theorem Same.upd {H H' : Hp} {p : Addr} {o : HO} (s : Same H H') (h : H p = none) : Same H (upd H' p o) := fun b u q => by rw [upd_ne (ne_of_none q h)]; exact s b u q

/-- [e for x in xs if c]: what is told of each item; the slot of x is k -/
theorem comp_by {J : It} {H : Hp} {xs : List V} {σ0 : St} {k : Nat} {tc : TT} {te : TE} {Q : VK} (p : V → Bool) (f : V → V) (hJ : Hands J H xs) (hx : xs.length ≤ 1000000)
    (hc : ∀ x ∈ xs, ∀ H', Same H H' → ∀ R : Bool → Hp → Prop, (∀ H'', Same H' H'' → R (p x) H'') → tc (σ0.set k (some x)) H' R)
    (he : ∀ x ∈ xs, p x = true → ∀ H', Same H H' → ∀ R : VK, (∀ H'', Same H' H'' → R (f x) H'') → te (σ0.set k (some x)) H' R)
    (hQ : ∀ D H', H D = none → Same H H' → H' D = some (.lst ((xs.filter p).map f)) → Q (.ref D) H') :
    CompW J H σ0 (gName k) tc te Q := by
  intro D hD
  refine ⟨fun i m σ1 ys H' => m = xs.length - i ∧ i ≤ xs.length ∧ (σ1 = σ0 ∨ ∃ v, σ1 = σ0.set k v) ∧ ys = ((xs.take i).filter p).map f ∧ H' D = some (.lst ys) ∧ Same H H', ⟨xs.length, by simp, Nat.zero_le _, .inl rfl, rfl, upd_same, same_new hD _⟩, ?_⟩
  rintro i m σ1 ys H' ⟨rfl, hi, hσ, rfl, hDD, hs⟩
  by_cases hlt : i < xs.length
  · refine .inr ⟨hJ.go i H' hs hlt, fun x H'' hy => ?_⟩
    obtain ⟨e1, hx1⟩ := hJ.yld i H' x H'' hs hlt hy
    subst e1
    have hm : x ∈ xs := List.mem_of_getElem? hx1
    have hset : σ1.set k (some x) = σ0.set k (some x) := by
      rcases hσ with rfl | ⟨v, rfl⟩
      · rfl
      · rw [List.set_set]
    show tc (σ1.set k (some x)) H'' _
    rw [hset]
    have tk : ((xs.take (i + 1)).filter p).map f = ((xs.take i).filter p).map f ++ (if p x = true then [f x] else []) := by
      rw [List.take_add_one, hx1, List.filter_append, List.map_append]
      cases hp : p x <;> simp [hp]
    refine hc x hm H'' hs _ fun H3 s3 => ?_
    have s03 : Same H H3 := hs.trans s3
    have lenk : (((xs.take i).filter p).map f).length < sizeLine := by
      have h1 := List.length_filter_le p (xs.take i)
      rw [List.length_take] at h1
      rw [List.length_map]
      have : (1000001 : Nat) ≤ sizeLine := by decide
      omega
    refine ite2 (fun hp => ?_) (fun hp => ?_)
    · refine he x hm hp H3 s03 _ fun H4 s4 => ⟨s4 _ _ (s3 _ _ hDD), lenk, xs.length - (i + 1), by omega, rfl, hlt, .inr ⟨_, rfl⟩, ?_, ?_, ?_⟩
      · rw [tk, if_pos hp]
      · exact upd_same
      · exact (s03.trans s4).upd hD
    · refine ⟨xs.length - (i + 1), by omega, rfl, hlt, .inr ⟨_, rfl⟩, ?_, s3 _ _ hDD, s03⟩
      rw [tk, if_neg hp, List.append_nil]
  · have e : i = xs.length := by omega
    subst e
    refine .inl ⟨hJ.stop H' hs, hQ D H' hD hs ?_⟩
    rw [hDD, List.take_length]
/-- [e for x in xs] -/
theorem comp_map {J : It} {H : Hp} {xs : List V} {σ0 : St} {k : Nat} {te : TE} {Q : VK} (f : V → V) (hJ : Hands J H xs) (hx : xs.length ≤ 1000000)
    (he : ∀ x ∈ xs, ∀ H', Same H H' → ∀ R : VK, (∀ H'', Same H' H'' → R (f x) H'') → te (σ0.set k (some x)) H' R)
    (hQ : ∀ D H', H D = none → Same H H' → H' D = some (.lst (xs.map f)) → Q (.ref D) H') :
    CompW J H σ0 (gName k) tYes te Q :=
  comp_by (fun _ => true) f hJ hx (fun x _ H' _ R hR => hR H' (Same.refl _)) (fun x hm _ => he x hm) (fun D H' h1 h2 h3 => hQ D H' h1 h2 (by rw [h3, List.filter_eq_self.mpr fun _ _ => rfl]))
end L2

set_option linter.all false
set_option maxRecDepth 100000
set_option maxHeartbeats 4000000
/-! Texts for the hand layer: signs walked, slices, join, zip of two texts, all, any, isinstance. -/
namespace L2
open PySem PySem.Spec PyProof.Rows

/-- a text by the list of its codes -/
abbrev T (l : List Nat) : V := .str ⟨l.toArray⟩
theorem T_inj {a b : List Nat} (h : T a = T b) : a = b := by
  have h1 : (⟨a.toArray⟩ : Str) = ⟨b.toArray⟩ := V.str.inj h
  have h2 : a.toArray = b.toArray := congrArg Str.cps h1
  simpa using h2
theorem T_len (l : List Nat) : (⟨l.toArray⟩ : Str).length = l.length := by simp [Str.length]
theorem T_app (a b : List Nat) : (⟨a.toArray⟩ : Str) ++ ⟨b.toArray⟩ = ⟨(a ++ b).toArray⟩ := by
  show (⟨a.toArray ++ b.toArray⟩ : Str) = _
  simp
section
variable {X : Cx}
theorem pe_txt {x : Str} {l : List Nat} {j pos} (h : x = ⟨l.toArray⟩) : PE X (.Constant (.str x) j pos) (tC (T l)) := by subst h; exact pe_str
/-- t + u -/
def rCatS : R2 := fun x y H Q => ∃ a b, x = T a ∧ y = T b ∧ a.length + b.length ≤ sizeLine ∧ Q (T (a ++ b)) H
theorem op_catS : OpR X (binaryOp .Add) rCatS := by
  intro pins s σ H x y v u Q I rx ry h
  obtain ⟨a, b, rfl, rfl, hz, q⟩ := h
  exact op_add_str pins s σ H _ _ v u Q I rx ry ⟨_, _, rfl, rfl, by rw [T_len, T_len]; exact hz, by rw [T_app]; exact q⟩
/-- t[i] -/
def rIxT' : R2 := fun x y H Q => ∃ l i c, x = T l ∧ y = .int i ∧ l.length ≤ sizeLine ∧ atI l i = some c ∧ Q (T [c]) H
theorem ix_txt : IxR X rIxT' := by
  intro value slice pins s σ H x y v u Q I rx ry h hs
  obtain ⟨l, i, c, rfl, rfl, hz, he, q⟩ := h
  exact ix_str value slice pins s σ H _ _ v u Q I rx ry ⟨_, i, c, rfl, rfl, by rw [T_len]; exact hz, by simpa using he, q⟩ hs
/-- len(t) -/
theorem call_lenS : CallR X (.builtin "len") (fun xs H Q => ∃ l, xs = [T l] ∧ l.length ≤ sizeLine ∧ Q (.int l.length) H) := by
  intro pins s σ H xs us Q I r h
  obtain ⟨l, rfl, hz, q⟩ := h
  exact call_len_str pins s σ H _ us Q I r ⟨_, rfl, by rw [T_len]; exact hz, by rw [T_len]; exact q⟩
end

/-! ### slices -/
def cutN {α : Type} (xs : List α) (lo hi : Option Int) : List α := (xs.drop (HT.sIx xs.length 0 lo)).take (HT.sIx xs.length xs.length hi - HT.sIx xs.length 0 lo)
def clipI (n : Nat) (d : Int) : Option Int → Int
  | none => d
  | some i => max 0 (min (if i < 0 then i + (n : Int) else i) (n : Int))
theorem clipI_eq (n d : Nat) (o : Option Int) : clipI n (d : Int) o = ((HT.sIx n d o : Nat) : Int) := by
  cases o with
  | none => rfl
  | some i =>
    show max 0 (min (if i < 0 then i + (n : Int) else i) (n : Int)) = (((if i < 0 then (i + (n : Int)).toNat else min i.toNat n) : Nat) : Int)
    by_cases hi : i < 0
    · rw [if_pos hi, if_pos hi]; omega
    · rw [if_neg hi, if_neg hi]; omega
theorem run_of (a b : Nat) : sliceRange (a : Int) (b : Int) 1 = (List.range (b - a)).map fun k => a + k := by
  unfold sliceRange
  simp only [show (1 : Int) > 0 by decide, if_true]
  have e1 : (if (a : Int) < (b : Int) then ((b : Int) - (a : Int) + 1 - 1) / 1 else 0).toNat = b - a := by
    split <;> simp <;> omega
  rw [e1]
  refine List.map_congr_left fun k _ => ?_
  omega
theorem strSlice_run (lo hi : Option Int) (n : Nat) : Builtin.Str.strSliceIndices lo hi 1 n = (List.range (HT.sIx n n hi - HT.sIx n 0 lo)).map fun k => HT.sIx n 0 lo + k := by
  have e : Builtin.Str.strSliceIndices lo hi 1 n = sliceRange (clipI n ((0 : Nat) : Int) lo) (clipI n ((n : Nat) : Int) hi) 1 := by
    cases lo <;> cases hi <;> rfl
  rw [e, clipI_eq, clipI_eq, run_of]
theorem pickN (l : List Nat) (i k : Nat) : ((List.range k).map fun m => i + m).filterMap (fun j => l.toArray[j]?) = (l.drop i).take k := by
  induction k generalizing i with
  | zero => simp
  | succ k ih =>
    rw [List.range_succ_eq_map, List.map_cons, List.filterMap_cons, List.map_map]
    have e : ((fun m => i + m) ∘ Nat.succ) = fun m => (i + 1) + m := by funext m; simp; omega
    rw [e, ih (i + 1)]
    by_cases h : i < l.length
    · have : l.toArray[i + 0]? = some l[i] := by simp [h]
      rw [this, List.drop_eq_getElem_cons h, List.take_succ_cons]
    · have : l.toArray[i + 0]? = none := by simp; omega
      rw [this, List.drop_eq_nil_of_le (by omega), List.drop_eq_nil_of_le (by omega)]
      simp
theorem cutN_full {α : Type} {l : List α} {lo hi : Option Int} (h : (cutN l lo hi).length = l.length) : cutN l lo hi = l := by
  unfold cutN at h ⊢
  rw [List.length_take, List.length_drop] at h
  have h2 := HT.sIx_le l.length l.length (Nat.le_refl _) hi
  by_cases h0 : l.length = 0
  · have : l = [] := List.length_eq_zero_iff.mp h0
    subst this; simp
  · have e0 : HT.sIx l.length 0 lo = 0 := by omega
    rw [e0, List.drop_zero]
    exact List.take_of_length_le (by omega)
theorem slice_txt (l : List Nat) (lo hi : Option Int) : Txt.slice ⟨l.toArray⟩ lo hi = ⟨(cutN l lo hi).toArray⟩ := by
  unfold Txt.slice
  rw [T_len, strSlice_run]
  have e := pickN l (HT.sIx l.length 0 lo) (HT.sIx l.length l.length hi - HT.sIx l.length 0 lo)
  have e2 : ((List.range (HT.sIx l.length l.length hi - HT.sIx l.length 0 lo)).map fun k => HT.sIx l.length 0 lo + k).filterMap (fun x => (⟨l.toArray⟩ : Str).cps[x]?) = cutN l lo hi := e
  by_cases h : ((1 : Int) == 1 && ((List.range (HT.sIx l.length l.length hi - HT.sIx l.length 0 lo)).map fun k => HT.sIx l.length 0 lo + k).length == l.length) = true
  · rw [if_pos h]
    have h' : HT.sIx l.length l.length hi - HT.sIx l.length 0 lo = l.length := by
      have := ((Bool.and_eq_true _ _).mp h).2
      simpa using this
    have : (cutN l lo hi).length = l.length := by
      unfold cutN
      rw [List.length_take, List.length_drop]
      have := HT.sIx_le l.length l.length (Nat.le_refl _) hi
      omega
    rw [cutN_full this]
  · rw [if_neg h, e2]
section
variable {X : Cx}
def rSlS : V → Option Int → Option Int → Hp → VK → Prop := fun x lo hi H Q => ∃ l, x = T l ∧ l.length ≤ sizeLine ∧ Q (T (cutN l lo hi)) H
theorem sl_txt : SlR X rSlS := by
  intro pins s σ H x v vl vu lo hi sl Q I rx hs pl pu h
  obtain ⟨l, rfl, hz, q⟩ := h
  obtain ⟨t, rfl⟩ := rx
  refine ⟨"str", _, F.slot_str_getitem.lookup, typeIs_str _ _ _, ?_⟩
  have fin : ∀ t' k, EP X pins σ Q (.str (Txt.slice ⟨l.toArray⟩ lo hi) t') { s with toks := k } := fun t' k => ⟨T (cutN l lo hi), H, I.tok _, ⟨t', by rw [slice_txt]⟩, q⟩
  have hlen : (Txt.slice ⟨l.toArray⟩ lo hi).length ≤ sizeLine := Nat.le_trans (Txt.slice_le _ _ _) (by rw [T_len]; exact hz)
  cases pl with
  | none =>
    cases pu with
    | none => exact wpAny_getItem_str_slice (l := none) (u := none) (st := none) hs rfl (post_val_or_str ⟨hlen, fin⟩)
    | int j uj => exact wpAny_getItem_str_slice (l := none) (u := some (j, uj)) (st := none) hs rfl (post_val_or_str ⟨hlen, fin⟩)
  | int i ui =>
    cases pu with
    | none => exact wpAny_getItem_str_slice (l := some (i, ui)) (u := none) (st := none) hs rfl (post_val_or_str ⟨hlen, fin⟩)
    | int j uj => exact wpAny_getItem_str_slice (l := some (i, ui)) (u := some (j, uj)) (st := none) hs rfl (post_val_or_str ⟨hlen, fin⟩)
end

/-! ### t[::-1] -/
/-! ### the signs of a text, one by one -/
section
variable {X : Cx} {tg : Expr}
end
/-! ### ''.join(list) -/
theorem vals_txts : ∀ {ts : List (List Nat)} {us : List Value}, Vals (ts.map T) us → PyProof.Rows.StrsAre us (ts.map fun l => ⟨l.toArray⟩)
  | [], _, h => by cases h; exact .nil
  | l :: r, _, h => by
    cases h with
    | cons r1 r2 =>
      obtain ⟨t, rfl⟩ := r1
      exact .cons _ t (vals_txts r2)
def joinN (sep : List Nat) : List (List Nat) → List Nat
  | [] => []
  | [x] => x
  | x :: y :: r => x ++ sep ++ joinN sep (y :: r)
theorem join_txt (sep : List Nat) : ∀ ts : List (List Nat), Str.join ⟨sep.toArray⟩ (ts.map fun l => ⟨l.toArray⟩) = ⟨(joinN sep ts).toArray⟩
  | [] => rfl
  | [x] => rfl
  | x :: y :: r => by
    show (⟨x.toArray⟩ : Str) ++ ⟨sep.toArray⟩ ++ Str.join ⟨sep.toArray⟩ ((y :: r).map fun l => ⟨l.toArray⟩) = _
    rw [join_txt sep (y :: r), T_app, T_app]
    rfl
theorem joinN_nil : ∀ ts : List (List Nat), joinN [] ts = ts.flatten
  | [] => rfl
  | [x] => by simp [joinN]
  | x :: y :: r => by
    show x ++ [] ++ joinN [] (y :: r) = _
    rw [joinN_nil (y :: r), List.append_nil]
    rfl
theorem sum_ones : ∀ cs : List Nat, (((cs.map fun c => [c]).map List.length).sum) = cs.length
  | [] => rfl
  | c :: r => by
    rw [List.map_cons, List.map_cons, List.sum_cons, sum_ones r]
    simp
    omega
theorem flat_ones : ∀ cs : List Nat, (cs.map fun c => [c]).flatten = cs
  | [] => rfl
  | c :: r => by
    rw [List.map_cons, List.flatten_cons, flat_ones r]
    rfl
section
variable {X : Cx}
def rJoin (K : PySem.W.Frag) : V → List V → Hp → VK → Prop := fun x vs H Q => ∃ sep ts D, x = T sep ∧ vs = [.ref D] ∧ SqL K H D (ts.map T) ∧ (ts.map List.length).sum + ts.length * sep.length ≤ 16777216 ∧ Q (T (joinN sep ts)) H
theorem mt_join : MtR X "str.join" (rJoin X.K) := by
  intro pins s σ H x vs v us Q I rx rv h
  obtain ⟨sep, ts, D, rfl, rfl, hq, hz, q⟩ := h
  obtain ⟨t, rfl⟩ := rx
  obtain ⟨u, rfl, ru⟩ := rv.one
  cases ru
  obtain ⟨its, r, pl, _⟩ := I.list hq
  refine join_list (ys := ts.map fun l => ⟨l.toArray⟩) pl.isList (by simpa using vals_txts r) ?_ fun t' k => ⟨T (joinN sep ts), H, I.tok _, ⟨t', ?_⟩, q⟩
  · rw [List.map_map, List.length_map, T_len]
    have e : ((fun x => x.length) ∘ fun l : List Nat => (⟨l.toArray⟩ : Str)) = List.length := by funext l; exact T_len l
    rw [e]
    exact hz
  · rw [← join_txt]
    show Value.str (Builtin.Str.glued _ _) t' = _
    rw [StrLaws.glued_eq_join]
end
theorem pe_join {X : Cx} {o e : Expr} {to : TE} {t : TA} {apos cpos : Pos} (ho : PE X o to) (ha : PA X [e] t)
    (hbase : attributeBase o "join" X.env (eval o X.env) = eval o X.env := by rfl)
    (hfew : ((backTo cpos (starEach [e] X.env)).all (fun x => !x.1) && (backToKw cpos (keywordEach [] X.env)).all (fun x => x.1.isSome)
      && decide ([e].length + ([] : List Keyword).length + (if ([] : List Keyword).isEmpty then 0 else 1) < 30)) = true := by rfl)
    (hline : (apos.endLine == cpos.line) = true := by rfl) (hs : starEach [e] X.env = (false, eval e X.env) :: starEach [] X.env := by rfl) (hplain : (backTo cpos (starEach [] X.env)).any (·.1) = false := by rfl) :
    PE X (.Call (.Attribute o "join" apos) [e] [] cpos) (tBM X.K "str" (rJoin X.K) to t) :=
  pe_bm F.plainAttrs_str F.slot_str_join F.type_str_join mt_join ho ha hbase hfew hline hs hplain

/-! ### all, any of a list of truths -/
section
variable {X : Cx}
/-! ### isinstance of plain values -/
theorem call_isBl : CallR X (.builtin "isinstance") (fun xs H Q => (∃ b, xs = [.bl b, .ty "bool"] ∧ Q (.bl true) H) ∨ (∃ i, xs = [.int i, .ty "bool"] ∧ Q (.bl false) H) ∨ (∃ i, xs = [.int i, .ty "int"] ∧ Q (.bl true) H) ∨ (∃ x, xs = [.str x, .ty "str"] ∧ Q (.bl true) H) ∨
    (∃ p ys, xs = [.ref p, .ty "list"] ∧ H p = some (.lst ys) ∧ Q (.bl true) H)) := by
  intro pins s σ H xs us Q I r h
  rcases h with ⟨b, rfl, q⟩ | ⟨i, rfl, q⟩ | ⟨i, rfl, q⟩ | ⟨x, rfl, q⟩ | ⟨p, ys, rfl, hp, q⟩
  · obtain ⟨u, v, rfl, r1, r2⟩ := r.two
    cases r1; cases r2
    exact PySem.W.kia_one PySem.W.kitx_bool I.kIn True.intro (by rfl) (fun z => nomatch z) fun tk => ⟨.bl true, H, I.tok _, rfl, q⟩
  · obtain ⟨u, v, rfl, r1, r2⟩ := r.two
    obtain ⟨t, rfl⟩ := r1; cases r2
    exact PySem.W.kia_one PySem.W.kitx_int I.kIn True.intro (by rfl) (fun z => nomatch z) fun tk => ⟨.bl false, H, I.tok _, rfl, q⟩
  · obtain ⟨u, v, rfl, r1, r2⟩ := r.two
    obtain ⟨t, rfl⟩ := r1; cases r2
    exact PySem.W.kia_one PySem.W.kitx_int I.kIn True.intro (by rfl) (fun z => nomatch z) fun tk => ⟨.bl true, H, I.tok _, rfl, q⟩
  · obtain ⟨u, v, rfl, r1, r2⟩ := r.two
    obtain ⟨t, rfl⟩ := r1; cases r2
    exact PySem.W.kia_one PySem.W.kitx_str I.kIn True.intro (by rfl) (fun z => nomatch z) fun tk => ⟨.bl true, H, I.tok _, rfl, q⟩
  · obtain ⟨u, v, rfl, r1, r2⟩ := r.two
    cases r1; cases r2
    obtain ⟨_, its, n, _, h1⟩ := I.hok p _ hp
    exact PySem.W.kia_one PySem.W.kitx_list I.kIn ⟨_, h1, rfl⟩ (by rfl) (fun z => nomatch z) fun tk => ⟨.bl true, H, I.tok _, rfl, q⟩
end
end L2

set_option linter.all false
set_option maxRecDepth 100000
set_option maxHeartbeats 4000000
/-! zip of two texts. -/
namespace L2
open PySem PySem.Spec PyProof.Rows
open Builtin Builtin.Str

section
variable {prog : Program} {w : World} {A : Around} {E : Value → Shared → Prop} {s : Shared}
structure ZipFar (z TI TO i1 i2 : Addr) : Prop where
  TIz : TI ≠ z
  TOz : TO ≠ z
  i1z : i1 ≠ z
  i2z : i2 ≠ z
  TITO : TI ≠ TO
  TIi1 : TI ≠ i1
  TIi2 : TI ≠ i2
  TOi1 : TO ≠ i1
  TOi2 : TO ≠ i2
  i12 : i1 ≠ i2

theorem zipFar_new (n : Nat) : ZipFar (n + 4) (n + 2) (n + 3) n (n + 1) :=
  ⟨Nat.ne_of_lt (by omega), Nat.ne_of_lt (by omega), Nat.ne_of_lt (by omega), Nat.ne_of_lt (by omega), Nat.ne_of_lt (by omega), Nat.ne_of_gt (by omega), Nat.ne_of_gt (by omega), Nat.ne_of_gt (by omega), Nat.ne_of_gt (by omega), Nat.ne_of_lt (by omega)⟩
end

/-- untracked records of ours (an iterator's) have turned -/
theorem Inv.turnedN {X : Cx} {pins : List (Addr × Obj)} {σ : St} {H : Hp} {s : Shared} {h' : Heap} {t' : Nat} {ch : List Addr} (I : Inv X pins σ H s) (k : ∀ b o, b ∉ ch → s.heap.get? b = some o → h'.get? b = some o) (hf : ∀ b ∈ ch, FpOk X pins H b) :
    Inv X pins σ H { s with heap := h', toks := t' } := by
  have nch : ∀ b u, H b = some u → b ∉ ch := fun b u e z => by rw [(hf b z).1] at e; cases e
  refine I.step (g' := s.gens) (d' := s.drawn) (ch := ch) (fun b hb => ?_) (fun b o _ _ hc e _ => k b o hc e) (fun b o _ _ hc e _ => ⟨o.slots, k b o hc e⟩) (fun _ _ _ _ n => n)
    (fun b o hc e => ⟨o, k b o hc e⟩) (fun _ _ e => e) (fun _ _ _ e => e) (fun b ps e => ⟨#[], by rw [e]; simp⟩) (fun m hm => ?_) (fun b u e => ?_) I.bare
  · obtain ⟨f0, f1, f2, f3, f4, f5⟩ := hf b hb
    exact ⟨f3, f1, f4, f5⟩
  · obtain ⟨o, es, ep, ho, r⟩ := hm
    exact ⟨o, es, ep, k _ o (fun z => (hf _ z).2.1 rfl) ho, r⟩
  · refine (I.hok b u e).stay (fun c v hc q => k c v ?_ q) (fun _ q => q) fun _ _ q => q
    rcases hc with z | z
    · rw [z]; exact nch b u e
    · exact nch c _ z

/-! ### zip(t, u) is made -/
section
variable {X : Cx} {es : List Expr} {k : Nat} {tpos : Pos}
end
end L2

set_option linter.all false
set_option maxRecDepth 100000
set_option maxHeartbeats 4000000
/-! a comprehension over zip. -/
namespace L2
open PySem PySem.Spec PyProof.Rows
end L2

set_option linter.all false
set_option maxRecDepth 100000
set_option maxHeartbeats 4000000
/-! Bundles: a def, a method, a class of the text with its promise. -/
namespace L2
open PySem PySem.Spec PyProof.Rows

/-- a def of the module as the top has made it -/
def GF (K : PySem.W.Frag) (mg : Str → Option Value) (x : Str) (st : Stmt) : Prop := ∃ f fd, Fun K x x st f fd ∧ mg x = some (.ref f)
/-- .. with its promise -/
def FnG (P : Program) (w : World) (K : PySem.W.Frag) (mg : Str → Option Value) (base : Heap) (x : Str) (k : Nat) (ps : List Str) (sp : Sp) : Prop :=
  ∃ f fd, FnOk P w K mg base CX0 k f fd ps sp ∧ mg x = some (.ref f) ∧ PySem.W.keepIn K (.ref f) = true ∧ Binds K fd ps []
/-- a method of the class at C -/
def MF (K : PySem.W.Frag) (C : Addr) (m qual : Str) (st : Stmt) : Prop := ∃ f fd, Fun K m qual st f fd ∧ Meth K C m f
def MtG (P : Program) (w : World) (K : PySem.W.Frag) (mg : Str → Option Value) (base : Heap) (C : Addr) (m : Str) (k : Nat) (ps : List Str) (sp : Sp) : Prop :=
  ∃ f fd, FnOk P w K mg base CX0 k f fd ps sp ∧ Cls K C ∧ Meth K C m f ∧ Binds K fd ps []
/-- a class that is made by its __init__ -/
structure CF (K : PySem.W.Frag) (mg : Str → Option Value) (x : Str) (C : Addr) : Prop where
  cl : Cls K C
  mg : mg x = some (.ref C)
  makes : PySem.W.makesIn K C = true
  kp : PySem.W.keepIn K (.ref C) = true
def MkG (P : Program) (w : World) (K : PySem.W.Frag) (mg : Str → Option Value) (base : Heap) (C : Addr) (x : Str) (k : Nat) (ps : List Str) (sp : Sp) : Prop :=
  ∃ f fd, FnOk P w K mg base CX0 k f fd ps sp ∧ Mk K C f ∧ mg x = some (.ref C) ∧ Binds K fd ps []

section
variable {P : Program} {w : World} {K : PySem.W.Frag} {mg : Str → Option Value} {base : Heap}
theorem MtG.imp {C : Addr} {m : Str} {k : Nat} {ps : List Str} {sp sp' : Sp} (G : MtG P w K mg base C m k ps sp) (h : ∀ vs H Q E, sp' vs H Q E → sp vs H Q E) : MtG P w K mg base C m k ps sp' := by
  obtain ⟨f, fd, a, b⟩ := G
  exact ⟨f, fd, a.imp h, b⟩
theorem GF.g {x : Str} {st : Stmt} {N ps : List Str} {k : Nat} {sp : Sp} (F : GF K mg x st) (S : FnScope N ps (defScope st))
    (bnd : ∀ (kV doc pm : Value) (an : Option Addr) (cdv ct : Value) (us : List Value), us.length = ps.length → bindArgs (PySem.W.fnOf x x (defArgs st) (defBody st) (defScope st) .none kV doc pm an cdv ct) ⟨us, []⟩ = pure (ps.zip us))
    (len : ∀ vs H Q E, sp vs H Q E → vs.length = ps.length)
    (hbody : ∀ (f : Addr) (cdv : Value) (A : Around) (outer : List Env) (s : Shared) (H : Hp) (vs : List V) (Q : VK) (E : XK), Room k (A.deeper (envOfC x (defScope st) s.heap.objs.size f cdv)) → sp vs H Q E →
      ∃ t, PSs (cxOf CX0 P w K mg base N x (defScope st) f cdv A outer s H E).nox (defBody st) t ∧ t { nx := fun _ H' => Q .non H', rt := Q } (start N vs) H) : FnG P w K mg base x (k + 1) ps sp := by
  obtain ⟨f, fd, F, m⟩ := F
  exact ⟨f, fd, F.ok S len fun cdv A outer s H vs Q E hr h => hbody f cdv A outer s H vs Q E hr h, m, F.kp, F.binds bnd⟩
theorem MF.g {C : Addr} {m qual : Str} {st : Stmt} {N ps : List Str} {k : Nat} {sp : Sp} (F : MF K C m qual st) (cl : Cls K C) (S : FnScope N ps (defScope st))
    (bnd : ∀ (kV doc pm : Value) (an : Option Addr) (cdv ct : Value) (us : List Value), us.length = ps.length → bindArgs (PySem.W.fnOf m qual (defArgs st) (defBody st) (defScope st) .none kV doc pm an cdv ct) ⟨us, []⟩ = pure (ps.zip us))
    (len : ∀ vs H Q E, sp vs H Q E → vs.length = ps.length)
    (hbody : ∀ (f : Addr) (cdv : Value) (A : Around) (outer : List Env) (s : Shared) (H : Hp) (vs : List V) (Q : VK) (E : XK), Room k (A.deeper (envOfC qual (defScope st) s.heap.objs.size f cdv)) → sp vs H Q E →
      ∃ t, PSs (cxOf CX0 P w K mg base N qual (defScope st) f cdv A outer s H E).nox (defBody st) t ∧ t { nx := fun _ H' => Q .non H', rt := Q } (start N vs) H) : MtG P w K mg base C m (k + 1) ps sp := by
  obtain ⟨f, fd, F, m⟩ := F
  exact ⟨f, fd, F.ok S len fun cdv A outer s H vs Q E hr h => hbody f cdv A outer s H vs Q E hr h, cl, m, F.binds bnd⟩
theorem CF.g {C : Addr} {x : Str} {k : Nat} {ps : List Str} {sp : Sp} (c : CF K mg x C) (G : MtG P w K mg base C "__init__" k ps sp) : MkG P w K mg base C x k ps sp := by
  obtain ⟨f, fd, a, _, m, b⟩ := G
  exact ⟨f, fd, a, ⟨c.makes, m.at_, m.fn, c.kp⟩, c.mg, b⟩
end

section
variable {X : Cx} {x m : Str} {k : Nat} {ps : List Str} {sp : Sp} {C : Addr} {p pos apos : Pos} {e o : Expr} {es : List Expr} {t : TA} {to : TE}
/-- f(e, ..) -/
theorem pe_fn (G : FnG X.prog X.w X.K X.mg X.base x k ps sp) (hr : Room k X.A) (ha : PA X (e :: es) t) (hg : Gl X x := by rfl) (hdb : (x == ("__debug__" : Str)) = false := by decide)
    (he : starEach (e :: es) X.env = (false, eval e X.env) :: starEach es X.env := by rfl) (hpl : (backTo pos (starEach es X.env)).any (·.1) = false := by rfl) : PE X (.Call (.Name x p) (e :: es) [] pos) (tCall sp [] E0 t) := by
  obtain ⟨f, fd, a, b, c, d⟩ := G
  exact pe_call a hr hg b c d .nil pass0 ha hdb he hpl
theorem pe_mt {pl : Sem Bool} (G : MtG X.prog X.w X.K X.mg X.base C m k ps sp) (hr : Room k X.A) (ho : PE X o to) (ha : PA X (e :: es) t)
    (hst : starEach (e :: es) X.env = (false, eval e X.env) :: starEach es X.env := by rfl) (hpl : (backTo pos (starEach es X.env)).any (·.1) = false := by rfl)
    (ht : eval (.Call (.Attribute o m apos) (e :: es) [] pos) X.env = (do
      let ov ← eval o X.env
      standAt apos.atName
      let (f, first) ← holding [ov] (getMethod ov m pl)
      callWith pos f first (backTo pos (starEach (e :: es) X.env)) (backToKw pos (keywordEach [] X.env))) := by rfl) :
    PE X (.Call (.Attribute o m apos) (e :: es) [] pos) (tMeth C m sp [] E0 to t) := by
  obtain ⟨f, fd, a, b, c, d⟩ := G
  exact pe_meth (pl := pl) ho b c a hr d .nil pass0 ha hst hpl ht
theorem pe_mt0 {pl : Sem Bool} (G : MtG X.prog X.w X.K X.mg X.base C m k ps sp) (hr : Room k X.A) (ho : PE X o to)
    (ht : eval (.Call (.Attribute o m apos) [] [] pos) X.env = (do
      let ov ← eval o X.env
      standAt apos.atName
      let (f, first) ← holding [ov] (getMethod ov m pl)
      callWith pos f first (backTo pos (starEach [] X.env)) (backToKw pos (keywordEach [] X.env))) := by rfl) :
    PE X (.Call (.Attribute o m apos) [] [] pos) (tMeth C m sp [] E0 to tNil) := by
  obtain ⟨f, fd, a, b, c, d⟩ := G
  exact pe_meth0 (pl := pl) ho b c a hr d .nil pass0 ht
/-- o.m(e, ..), the class of o known at the call -/
def tMethD (P : Program) (w : World) (K : PySem.W.Frag) (mg : Str → Option Value) (base : Heap) (n : Nat) (m : Str) (ta : TE) (t : TA) : TE := fun σ H Q => ta σ H fun x H1 => ∃ a C dx fs k ps sp, x = .ref a ∧ H1 a = some (.ins C dx fs) ∧ fs.lookup m = none ∧
  MtG P w K mg base C m k ps sp ∧ k ≤ n ∧ t σ H1 fun vs H2 => sp (x :: vs) H2 Q E0
theorem pe_mt0D {P : Program} {w : World} {K : PySem.W.Frag} {mg : Str → Option Value} {base : Heap} {n : Nat} {pl : Sem Bool} (hr : Room n X.A) (ho : PE X o to) (hP : X.prog = P) (hw : X.w = w) (hK : X.K = K) (hmg : X.mg = mg) (hbs : X.base = base)
    (ht : eval (.Call (.Attribute o m apos) [] [] pos) X.env = (do
      let ov ← eval o X.env
      standAt apos.atName
      let (f, first) ← holding [ov] (getMethod ov m pl)
      callWith pos f first (backTo pos (starEach [] X.env)) (backToKw pos (keywordEach [] X.env))) := by rfl) :
    PE X (.Call (.Attribute o m apos) [] [] pos) (tMethD P w K mg base n m to tNil) := by
  subst hP hw hK hmg hbs
  intro pins s σ H Q I h
  refine PySem.W.methodCall_KW (pl := pl) (thn (ho pins s σ H _ I h) fun u s1 ⟨x, H1, I1, rx, a, C, dx, fs, k, ps, sp, ex, ea, l, G, hk, q⟩ => ?_) ht
  have hr := hr.mono hk
  obtain ⟨f, fd, F, c, hm, hb⟩ := G
  subst ex
  obtain rfl : u = Value.ref a := rx
  refine getmeth_ok I1 ea c hm l ?_
  exact PySem.W.callWith_K0 (first := [.ref a]) I1.kIn hm.kp (run_fn (us := [.ref a]) (vs := [.ref a]) (E := E0) F hr hb .nil pass0 I1 (.cons rfl .nil) (by rw [List.append_nil]; exact q))
/-- a name of a built-in type -/
theorem pe_ty {n : Str} {T : String} (hm : X.mg n = none) (hv : bootBuiltins n = some (.type T)) (hg : Gl X n := by rfl) (hn : n ≠ "__name__" := by decide) (hd : (n == ("__debug__" : Str)) = false := by decide) : PE X (.Name n pos) (tC (.ty T)) :=
  pe_bltn hg hm hv rfl hn hd
end

/-! ### the rules with the written part as a letter of its own (in a comprehension's block the context's own does not stand outside) -/
section
variable {X : Cx} {K : PySem.W.Frag}
theorem ix_listK (h : X.K = K) : IxR X (rIxL K) := h ▸ ix_list
theorem ix_tupK (h : X.K = K) : IxR X (rIxT K) := h ▸ ix_tup
theorem sl_listK (h : X.K = K) : SlR X (rSlL K) := h ▸ sl_list
theorem call_len_seqK (h : X.K = K) : CallR X (.builtin "len") (fun xs H Q => ∃ p ys, xs = [.ref p] ∧ (SqL K H p ys ∨ SqT K H p ys) ∧ Q (.int ys.length) H) := h ▸ call_len_seq
theorem pe_fldK {e : Expr} {f : Str} {ta : TE} {pos : Pos} (h : X.K = K) (he : PE X e ta) (hb : attributeBase e f X.env (eval e X.env) = eval e X.env) : PE X (.Attribute e f pos) (tFld K ta f) := h ▸ pe_fld he hb
theorem pe_joinK {o e : Expr} {to : TE} {t : TA} {apos cpos : Pos} (h : X.K = K) (ho : PE X o to) (ha : PA X [e] t)
    (hbase : attributeBase o "join" X.env (eval o X.env) = eval o X.env := by rfl)
    (hfew : ((backTo cpos (starEach [e] X.env)).all (fun x => !x.1) && (backToKw cpos (keywordEach [] X.env)).all (fun x => x.1.isSome)
      && decide ([e].length + ([] : List Keyword).length + (if ([] : List Keyword).isEmpty then 0 else 1) < 30)) = true := by rfl)
    (hline : (apos.endLine == cpos.line) = true := by rfl) (hs : starEach [e] X.env = (false, eval e X.env) :: starEach [] X.env := by rfl) (hplain : (backTo cpos (starEach [] X.env)).any (·.1) = false := by rfl) :
    PE X (.Call (.Attribute o "join" apos) [e] [] cpos) (tBM K "str" (rJoin K) to t) := h ▸ pe_join ho ha hbase hfew hline hs hplain
theorem pi_listK {tg l : Expr} {tl : TE} (h : X.K = K) (hl : PE X l tl) : PI X tg l (iList K tl) := h ▸ pi_list hl
theorem pg_two {i j : Nat} {x y : Str} {px py pos : Pos} {k : Nat} (h : X.K = K) (hc : X.calm = true) (hN : X.N.Nodup) (hi : X.N[i]? = some x) (hj : X.N[j]? = some y) (hx : Loc X.env.scope x) (hy : Loc X.env.scope y)
    (hfx : X.fn x = true ∨ X.env.scope.names.lookup x = some .local := by first | exact .inl rfl | exact .inr rfl | assumption) (hfy : X.fn y = true ∨ X.env.scope.names.lookup y = some .local := by first | exact .inl rfl | exact .inr rfl | assumption) :
    PG X (.Tuple [.Name x px, .Name y py] k pos) (gTup K 2 (gCons (gName i) (gCons (gName j) gNil))) := h ▸ pg_tup hc (pgs_cons (pg_name hN hi hx hfx) (pgs_cons (pg_name hN hj hy hfy) pgs_nil))
end
theorem bt_ty_bool : bootBuiltins "bool" = some (.type "bool") := by decide +kernel
theorem bt_ty_int : bootBuiltins "int" = some (.type "int") := by decide +kernel
theorem bt_ty_str : bootBuiltins "str" = some (.type "str") := by decide +kernel
theorem bt_ty_list : bootBuiltins "list" = some (.type "list") := by decide +kernel
theorem bt_max : bootBuiltins "max" = some (.builtin "max") := by decide +kernel
theorem bt_isinstance : bootBuiltins "isinstance" = some (.builtin "isinstance") := by decide +kernel

end L2

set_option linter.all false
set_option maxRecDepth 100000
set_option maxHeartbeats 4000000
/-! == and != of two lists of flat items. -/
namespace L2
open PySem PySem.Spec PyProof.Rows
theorem Vals.rel {xs : List V} {us : List Value} (r : Vals xs us) : ∀ (j : Nat) (h1 : j < xs.length) (h2 : j < us.length), RelV xs[j] us[j] := by
  induction r with
  | nil => intro j h1; simp at h1
  | cons a t ih =>
    intro j h1 h2
    cases j with
    | zero => exact a
    | succ j => exact ih j (by simpa using h1) (by simpa using h2)
def eqVs : List V → List V → Bool
  | [], [] => true
  | x :: xs, y :: ys => eqV x y && eqVs xs ys
  | _, _ => false
theorem eqVs_len : ∀ {xs ys : List V}, xs.length ≠ ys.length → eqVs xs ys = false
  | [], [], h => absurd rfl h
  | [], _ :: _, _ => rfl
  | _ :: _, [], _ => rfl
  | x :: xs, y :: ys, h => by
    have : xs.length ≠ ys.length := fun e => h (by simp [e])
    rw [eqVs, eqVs_len this, Bool.and_false]
theorem eqVs_range : ∀ {xs ys : List V}, xs.length = ys.length → (List.range xs.length).all (fun j => eqV (xs.getD j .non) (ys.getD j .non)) = eqVs xs ys
  | [], [], _ => rfl
  | [], _ :: _, h => by simp at h
  | _ :: _, [], h => by simp at h
  | x :: xs, y :: ys, h => by
    have h' : xs.length = ys.length := by simpa using h
    rw [List.length_cons, List.range_succ_eq_map, List.all_cons, List.all_map, eqVs, ← eqVs_range h']
    rfl
section
variable {X : Cx} {K : PySem.W.Frag}
theorem eq_items {A : Around} {s : Shared} {xs ys : List V} {ia ib : List Value} (ra : Vals xs ia) (rb : Vals ys ib) (fx : xs.all flatV = true) (fy : ys.all flatV = true) :
    ∀ j (h1 : j < ia.toArray.size) (h2 : j < ib.toArray.size), SeqAt.EqAt A s ia.toArray[j] ib.toArray[j] (eqV (xs.getD j .non) (ys.getD j .non)) := by
  intro j h1 h2
  have la := ra.length
  have lb := rb.length
  have g1 : j < ia.length := by simpa using h1
  have g2 : j < ib.length := by simpa using h2
  have e1 : xs.getD j .non = xs[j]'(by omega) := by rw [List.getD_eq_getElem?_getD, List.getElem?_eq_getElem (by omega)]; rfl
  have e2 : ys.getD j .non = ys[j]'(by omega) := by rw [List.getD_eq_getElem?_getD, List.getElem?_eq_getElem (by omega)]; rfl
  rw [e1, e2]
  have k1 := ra.rel j (by omega) g1
  have k2 := rb.rel j (by omega) g2
  have q := eqAt_V (A := A) (s := s) k1 k2 (List.all_eq_true.mp fx _ (List.getElem_mem _)) (List.all_eq_true.mp fy _ (List.getElem_mem _))
  simpa using q
def rEqL (K : PySem.W.Frag) (neg : Bool) : R2 := fun x y H Q => ∃ p r xs ys, x = .ref p ∧ y = .ref r ∧ SqL K H p xs ∧ SqL K H r ys ∧ xs.all flatV = true ∧ ys.all flatV = true ∧ Q (.bl (if neg then !eqVs xs ys else eqVs xs ys)) H
theorem op_eqL (h : X.K = K) (hu : X.A.units < cLine) : OpR X (compareOp .Eq) (rEqL K false) := by
  subst h
  intro pins s σ H x y v u Q I rx ry h
  obtain ⟨p, r, xs, ys, rfl, rfl, hp, hr, fx, fy, q⟩ := h
  cases rx; cases ry
  obtain ⟨ia, ra, pa, za⟩ := I.list hp
  obtain ⟨ib, rb, pb, zb⟩ := I.list hr
  have la := ra.length
  have lb := rb.length
  by_cases hsz : xs.length = ys.length
  · refine SeqAt.eq_listAt (e := fun j => eqV (xs.getD j .non) (ys.getD j .non)) pa.isList pb.isList (by simp; omega) hu (eq_items ra rb fx fy) ⟨.bl _, H, I, rfl, ?_⟩
    rw [List.size_toArray, ← la, eqVs_range hsz]
    exact q
  · refine SeqAt.eq_list_lengthsAt pa.isList pb.isList (by simp; omega) hu ⟨.bl false, H, I, rfl, ?_⟩
    have q' : Q (.bl (eqVs xs ys)) H := q
    rw [eqVs_len hsz] at q'
    exact q'
end
end L2

set_option linter.all false
set_option maxRecDepth 100000
set_option maxHeartbeats 4000000
/-! isinstance against own classes; a list taken apart into names. -/
namespace L2
open PySem PySem.Spec PyProof.Rows
section
variable {X : Cx} {K : PySem.W.Frag}
end

section
variable {prog : Program} {w : World} {A : Around} {E : Value → Shared → Prop} {s : Shared}
end
section
variable {X : Cx} {K : PySem.W.Frag} {pos : Pos}
end
end L2

set_option linter.all false
set_option maxRecDepth 100000
set_option maxHeartbeats 4000000
/-! zip of two lists. -/
namespace L2
open PySem PySem.Spec PyProof.Rows
theorem ne_cls {h : Heap} {a b : Addr} {o p : Obj} (ha : h.get? a = some o) (hb : h.get? b = some p) (hc : o.cls ≠ p.cls) : a ≠ b := by
  rintro rfl
  rw [ha] at hb
  cases hb
  exact hc rfl
theorem zipApart_of {h : Heap} {z TI TO i1 i2 l1 l2 : Addr} {f0 a b : Value} {k1 k2 : Nat} {xs ys : Array Value} (F : ZipFar z TI TO i1 i2) (hz : IsZip h z TI TO f0) (hTI : IsPair h TI (.ref i1) (.ref i2)) (hTO : IsPair h TO a b)
    (h1 : h.IsListIter i1 l1 k1) (h2 : h.IsListIter i2 l2 k2) (hl1 : h.IsList l1 xs) (hl2 : h.IsList l2 ys) : ZipApart z TI TO i1 i2 l1 l2 := by
  obtain ⟨o1, e1, c1, _⟩ := h1
  obtain ⟨o2, e2, c2, _⟩ := h2
  obtain ⟨p1, q1, d1, _⟩ := hl1
  obtain ⟨p2, q2, d2, _⟩ := hl2
  have n1 : (Value.type "list") ≠ .type "zip" := by intro z; injection z with z; revert z; decide
  have n2 : (Value.type "list") ≠ .type "tuple" := by intro z; injection z with z; revert z; decide
  have n3 : (Value.type "list") ≠ .type "list_iterator" := by intro z; injection z with z; revert z; decide
  exact ⟨F.TIz, F.TOz, F.i1z, F.i2z, F.TITO, F.TIi1, F.TIi2, F.TOi1, F.TOi2, F.i12,
    ne_cls q1 hz (by rw [d1]; exact n1), ne_cls q1 hTO (by rw [d1]; exact n2), ne_cls q1 e1 (by rw [d1, c1]; exact n3), ne_cls q1 e2 (by rw [d1, c2]; exact n3),
    ne_cls q2 hz (by rw [d2]; exact n1), ne_cls q2 hTO (by rw [d2]; exact n2), ne_cls q2 e1 (by rw [d2, c1]; exact n3), ne_cls q2 e2 (by rw [d2, c2]; exact n3)⟩
/-- pairs of items: a new tuple each -/
def Izl (K : PySem.W.Frag) (a b : Addr) : It :=
  ⟨fun i H => ∃ xs ys x y, SqL K H a xs ∧ SqL K H b ys ∧ xs[i]? = some x ∧ ys[i]? = some y,
   fun i H v H' => ∃ p x y, H p = none ∧ (∀ xs, SqL K H a xs → xs[i]? = some x) ∧ (∀ ys, SqL K H b ys → ys[i]? = some y) ∧ v = .ref p ∧ H' = upd H p (.tup [x, y]),
   fun i H => ∃ xs ys, SqL K H a xs ∧ SqL K H b ys ∧ (xs.length ≤ i ∨ ys.length ≤ i)⟩
theorem turn_zipL {P : Program} {w : World} {K : PySem.W.Frag} {es : List Expr} {k : Nat} {pos : Pos} {z TI TO i1 i2 l1 l2 : Addr} (F : ZipFar z TI TO i1 i2) :
    Turn P w K (.Tuple es k pos) (Izl K l1 l2) [z, TI, TO, i1, i2] z (fun i h => IsZip h z TI TO .none ∧ IsPair h TI (.ref i1) (.ref i2) ∧ (∃ a b, IsPair h TO a b) ∧ h.IsListIter i1 l1 i ∧ h.IsListIter i2 l2 i) where
  mem := by simp
  obj := fun i h st b hb => by
    obtain ⟨hz, hTI, ⟨a, b', hTO⟩, ⟨o1, e1, c1, d1⟩, o2, e2, c2, d2⟩ := st
    simp only [List.mem_cons, List.not_mem_nil, or_false] at hb
    rcases hb with rfl | rfl | rfl | rfl | rfl
    · exact ⟨_, hz, fun v q => by cases q⟩
    · exact ⟨_, hTI, fun v q => by cases q⟩
    · exact ⟨_, hTO, fun v q => by cases q⟩
    · exact ⟨o1, e1, fun v q => by rw [d1] at q; cases q⟩
    · exact ⟨o2, e2, fun v q => by rw [d2] at q; cases q⟩
  keep := fun i h h' st kk => by
    obtain ⟨hz, hTI, ⟨a, b', hTO⟩, ⟨o1, e1, r1⟩, o2, e2, r2⟩ := st
    exact ⟨kk z (by simp) _ hz, kk TI (by simp) _ hTI, ⟨a, b', kk TO (by simp) _ hTO⟩, ⟨o1, kk i1 (by simp) _ e1, r1⟩, o2, kk i2 (by simp) _ e2, r2⟩
  item := by
    intro X hP hw hK hc i pins s σ H E I hf st hg
    subst hP hw hK
    obtain ⟨hz, hTI, ⟨a, b, hTO⟩, h1, h2⟩ := st
    obtain ⟨xs, ys, x, y, hq1, hq2, hx, hy⟩ := hg
    obtain ⟨ia, ra, pa, _⟩ := I.list hq1
    obtain ⟨ib, rb, pb, _⟩ := I.list hq2
    obtain ⟨u, hu, ru⟩ := ra.get hx
    obtain ⟨v, hv, rv⟩ := rb.get hy
    have D := zipApart_of F hz hTI hTO h1 h2 pa.isList pb.isList
    obtain ⟨tk, htk⟩ : ∃ tk, tk = s.toks := ⟨_, rfl⟩
    refine wpAny_pyNext_zip_item D hz hTI hTO h1 h2 pa.isList pb.isList (x := u) (y := v) (by simpa using hu) (by simpa using hv) fun h' a1 a2 a3 a4 a5 a6 kp => ?_
    refine ⟨_, rfl, ?_⟩
    refine wpAny_letOwnedTupleGo_zip (s := { s with heap := h', toks := s.toks }) a1 fun h2' hz' hs' => ?_
    replace hs' : Heap.SameBut z h' h2' := hs'
    have zlt : z < s.heap.objs.size := Heap.lt_size hz
    have far : ∀ q ∈ [z, TI, TO, i1, i2], q < s.heap.objs.size := by
      intro q hq
      obtain ⟨o1, e1, _⟩ := h1
      obtain ⟨o2, e2, _⟩ := h2
      simp only [List.mem_cons, List.not_mem_nil, or_false] at hq
      rcases hq with rfl | rfl | rfl | rfl | rfl
      · exact zlt
      · exact Heap.lt_size hTI
      · exact Heap.lt_size hTO
      · exact Heap.lt_size e1
      · exact Heap.lt_size e2
    have fz := hf z (by simp)
    have fTO := hf TO (by simp)
    have f1 := hf i1 (by simp)
    have f2 := hf i2 (by simp)
    -- the four records turn, then the tuple is laid
    have I1 : Inv X pins σ H { s with heap := s.heap.push { cls := .type "tuple", data := .seq #[u, v] }, toks := s.toks } := I.kept fun b o e => Heap.get?_push_of_some _ e
    have keepAll : ∀ b o, b ≠ z → b ≠ TO → b ≠ i1 → b ≠ i2 → s.heap.get? b = some o → h2'.get? b = some o := fun b o b1 b2 b3 b4 e => hs'.extBut _ _ b1 (kp b o b1 b2 b3 b4 e)
    have hnew : H s.heap.objs.size = none := I.hok.fresh (Nat.le_refl _)
    have Tz : s.heap.objs.size ≠ z := Nat.ne_of_gt zlt
    have ht2 : h2'.get? s.heap.objs.size = some { cls := .type "tuple", data := .seq #[u, v] } := hs'.extBut _ _ Tz a5
    have I2 : Inv X pins σ (upd H s.heap.objs.size (.tup [x, y])) { s with heap := h2', toks := s.toks } := by
      have there : ∀ q ∈ [z, TO, i1, i2], ∃ o', h2'.get? q = some o' := by
        intro q hq
        obtain ⟨o1, e1, _⟩ := a3
        obtain ⟨o2, e2, _⟩ := a4
        simp only [List.mem_cons, List.not_mem_nil, or_false] at hq
        rcases hq with rfl | rfl | rfl | rfl
        · exact ⟨_, hz'⟩
        · exact ⟨_, hs'.extBut _ _ F.TOz a2⟩
        · exact ⟨_, hs'.extBut _ _ F.i1z e1⟩
        · exact ⟨_, hs'.extBut _ _ F.i2z e2⟩
      have nch : ∀ b, b ∉ [z, TO, i1, i2] → b ≠ z ∧ b ≠ TO ∧ b ≠ i1 ∧ b ≠ i2 := fun b hb => by
        simp only [List.mem_cons, List.not_mem_nil, or_false, not_or] at hb
        exact hb
      have trk : ∀ b u', H b = some u' → b ≠ z ∧ b ≠ TO ∧ b ≠ i1 ∧ b ≠ i2 := fun b u' e =>
        ⟨fun q => (by rw [q, fz.1] at e; cases e), fun q => (by rw [q, fTO.1] at e; cases e), fun q => (by rw [q, f1.1] at e; cases e), fun q => (by rw [q, f2.1] at e; cases e)⟩
      have okH : HOk X.prog X.w (upd H s.heap.objs.size (.tup [x, y])) h2' := fun b u' e => by
        by_cases hb : b = s.heap.objs.size
        · subst hb
          rw [upd_same] at e
          cases e
          exact ⟨(show 2 ≤ sizeLine by decide), [u, v], .cons ru (.cons rv .nil), ⟨_, ht2, rfl, _, rfl⟩⟩
        · rw [upd_ne hb] at e
          have hx := I.hok b u' e
          refine hx.stay (fun q o hq e2 => ?_) (fun q e2 => ?_) (fun q xs e2 => ?_)
          · rcases hq with rfl | hq
            · obtain ⟨b1, b2, b3, b4⟩ := trk q _ e
              exact keepAll q o b1 b2 b3 b4 e2
            · obtain ⟨b1, b2, b3, b4⟩ := trk q _ hq
              exact keepAll q o b1 b2 b3 b4 e2
          · rw [upd_ne (ne_of_none e2 hnew)]; exact e2
          · rw [upd_ne (ne_of_none e2 hnew)]; exact e2
      refine I.step (g' := s.gens) (d' := s.drawn) (ch := [z, TO, i1, i2]) (fun b hb => ?_) (fun b o _ _ hcb e n => ?_) (fun b o _ _ hcb e n => ?_) (fun b o hcb e n => ?_) (fun b o hcb e => ?_) (fun b xs e => ?_) (fun b o u' e => ?_) (fun b ps e => ?_) (fun m hm => ?_) okH I.bare
      · simp only [List.mem_cons, List.not_mem_nil, or_false] at hb
        rcases hb with rfl | rfl | rfl | rfl
        · exact ⟨fz.2.2.2.1, fz.2.1, fz.2.2.2.2.1, fz.2.2.2.2.2⟩
        · exact ⟨fTO.2.2.2.1, fTO.2.1, fTO.2.2.2.2.1, fTO.2.2.2.2.2⟩
        · exact ⟨f1.2.2.2.1, f1.2.1, f1.2.2.2.2.1, f1.2.2.2.2.2⟩
        · exact ⟨f2.2.2.2.1, f2.2.1, f2.2.2.2.2.1, f2.2.2.2.2.2⟩
      · obtain ⟨b1, b2, b3, b4⟩ := nch b hcb
        exact keepAll b o b1 b2 b3 b4 e
      · obtain ⟨b1, b2, b3, b4⟩ := nch b hcb
        exact ⟨o.slots, keepAll b o b1 b2 b3 b4 e⟩
      · rw [upd_ne (Nat.ne_of_lt (Heap.lt_size e))]; exact n
      · obtain ⟨b1, b2, b3, b4⟩ := nch b hcb
        exact ⟨o, keepAll b o b1 b2 b3 b4 e⟩
      · rw [upd_ne (ne_of_none e hnew)]; exact e
      · rw [upd_ne (ne_of_none e hnew)]; exact e
      · exact ⟨#[], by rw [upd_ne (ne_of_none e hnew), e]; simp⟩
      · obtain ⟨o, es', ep, ho, r⟩ := hm
        exact ⟨o, es', ep, keepAll _ o fz.2.1.symm fTO.2.1.symm f1.2.1.symm f2.2.1.symm ho, r⟩
    refine ⟨.ref s.heap.objs.size, _, I2, rfl, ⟨_, x, y, hnew, fun zs hz => by rw [I.list_inj hz hq1]; exact hx, fun zs hz => by rw [I.list_inj hz hq2]; exact hy, rfl, rfl⟩, ⟨hz', hs'.extBut _ _ F.TIz (kp _ _ F.TIz F.TITO F.TIi1 F.TIi2 hTI), ⟨_, _, hs'.extBut _ _ F.TOz a2⟩, ?_, ?_⟩, fun b hb => ?_⟩
    · obtain ⟨o, e, r⟩ := a3; exact ⟨o, hs'.extBut _ _ F.i1z e, r⟩
    · obtain ⟨o, e, r⟩ := a4; exact ⟨o, hs'.extBut _ _ F.i2z e, r⟩
    · rw [upd_ne (Nat.ne_of_lt (far b hb))]; exact (hf b hb).1
  done := by
    intro X hP hw hK hc i pins s σ H E I hf st hg
    subst hP hw hK
    obtain ⟨hz, hTI, ⟨a, b, hTO⟩, h1, h2⟩ := st
    obtain ⟨xs, ys, hq1, hq2, hg⟩ := hg
    obtain ⟨ia, ra, pa, _⟩ := I.list hq1
    obtain ⟨ib, rb, pb, _⟩ := I.list hq2
    have la := ra.length
    have lb := rb.length
    have D := zipApart_of F hz hTI hTO h1 h2 pa.isList pb.isList
    refine wpAny_pyNext_zip_end (I.ok.hd hc) D hz hTI hTO h1 h2 pa.isList pb.isList (by rcases hg with q | q; exact .inl (by simp; omega); exact .inr (by simp; omega)) fun h' kp => ⟨rfl, ?_⟩
    refine I.turnedN (t' := s.toks) (ch := [z, TO, i1, i2]) (fun b o hb q => ?_) fun b hb => hf b ?_
    · simp only [List.mem_cons, List.not_mem_nil, or_false, not_or] at hb
      exact kp b o hb.1 hb.2.1 hb.2.2.1 hb.2.2.2 q
    · simp only [List.mem_cons, List.not_mem_nil, or_false] at hb ⊢
      rcases hb with q | q | q | q
      · exact .inl q
      · exact .inr (.inr (.inl q))
      · exact .inr (.inr (.inr (.inl q)))
      · exact .inr (.inr (.inr (.inr q)))
  self := fun _ _ _ _ _ st h => wpAny_pyIter_zip st.1 h

section
variable {X : Cx} {es : List Expr} {k : Nat} {tpos : Pos}
def iZipL (K : PySem.W.Frag) (ta : TA) : TI := fun σ H R => ta σ H fun vs H1 => ∃ a b, vs = [.ref a, .ref b] ∧ (∃ xs, SqL K H1 a xs) ∧ (∃ ys, SqL K H1 b ys) ∧ R (Izl K a b) H1
theorem pi_zipL {a b : Expr} {ta : TA} {p pos : Pos} (hg : Gl X "zip") (hm : X.mg "zip" = none) (ha : PA X [a, b] ta) (hv : bootBuiltins "zip" = some (.type "zip") := by decide +kernel) (hs : starEach [a, b] X.env = [(false, eval a X.env), (false, eval b X.env)] := by rfl) (hs2 : starEach [b] X.env = [(false, eval b X.env)] := by rfl) :
    PI X (.Tuple es k tpos) (.Call (.Name "zip" p) [a, b] [] pos) (iZipL X.K ta) := by
  intro pins s σ H R I h
  refine Call_ (ld_blt I hg hm hv (PyProof.Rows.callWith_type1 (thn (ha pos pins s σ H _ I h) fun us s1 ⟨vs, H1, I1, r1, q1⟩ => ?_) (by rw [hs, hs2]) (by rw [hs2]; rfl)))
  obtain ⟨l1, l2, e, ⟨xs, hq1⟩, ⟨ys, hq2⟩, q⟩ := q1
  subst e
  obtain ⟨u, v, rfl, ru, rv⟩ := r1.two
  cases ru; cases rv
  obtain ⟨ia, ra, pa, _⟩ := I1.list hq1
  obtain ⟨ib, rb, pb, _⟩ := I1.list hq2
  refine call_zip_2 pa.isList pb.isList fun h' a1 a2 a3 a4 a5 a6 kp => ?_
  have far : ZipFar (s1.heap.objs.size + 4) (s1.heap.objs.size + 2) (s1.heap.objs.size + 3) s1.heap.objs.size (s1.heap.objs.size + 1) := zipFar_new _
  have I2 : Inv X pins σ H1 { s1 with heap := h' } := I1.kept (t' := s1.toks) kp
  refine wpAny_pyIter_zip a1 ⟨s1.heap.objs.size + 4, [s1.heap.objs.size + 4, s1.heap.objs.size + 2, s1.heap.objs.size + 3, s1.heap.objs.size, s1.heap.objs.size + 1], _, _, H1, rfl, I2, turn_zipL far, ⟨a1, a2, ⟨_, _, a3⟩, a4, a5⟩, fun b hb => ?_, q⟩
  have hb' : s1.heap.objs.size ≤ b := by
    simp only [List.mem_cons, List.not_mem_nil, or_false] at hb
    rcases hb with rfl | rfl | rfl | rfl | rfl
    · exact Nat.le_add_right _ _
    · exact Nat.le_add_right _ _
    · exact Nat.le_add_right _ _
    · exact Nat.le_refl _
    · exact Nat.le_add_right _ _
  exact I1.fpOk hb' (I1.hok.fresh hb')
end
theorem pi_zipLK {X : Cx} {es : List Expr} {k : Nat} {tpos : Pos} {K : PySem.W.Frag} {a b : Expr} {ta : TA} {p pos : Pos} (h : X.K = K) (hg : Gl X "zip") (hm : X.mg "zip" = none) (ha : PA X [a, b] ta) (hv : bootBuiltins "zip" = some (.type "zip") := by decide +kernel) (hs : starEach [a, b] X.env = [(false, eval a X.env), (false, eval b X.env)] := by rfl) (hs2 : starEach [b] X.env = [(false, eval b X.env)] := by rfl) :
    PI X (.Tuple es k tpos) (.Call (.Name "zip" p) [a, b] [] pos) (iZipL K ta) := h ▸ pi_zipL hg hm ha hv hs hs2
/-- for x, y in zip(a, b): lists that stay -/
theorem for_zipL {K : PySem.W.Frag} {a b : Addr} {xs ys : List V} {g : TG} {tb : TS} {D : Ends} {σ : St} {H : Hp} (Pv : Nat → St → Hp → Prop) (h0 : Pv 0 σ H) (hl : ∀ i σ H, i ≤ xs.length → i ≤ ys.length → Pv i σ H → SqL K H a xs ∧ SqL K H b ys)
    (hs : ∀ i x y p σ H, xs[i]? = some x → ys[i]? = some y → H p = none → Pv i σ H → g (.ref p) σ (upd H p (.tup [x, y])) fun σ2 H2 => tb { D with nx := Pv (i + 1), ct := Pv (i + 1), bk := D.nx } σ2 H2) (hd : ∀ i σ H, i = xs.length ∨ i = ys.length → Pv i σ H → D.nx σ H) :
    ∃ W : Nat → Nat → St → Hp → Prop, (∃ m, W 0 m σ H) ∧ ∀ i m σ H, W i m σ H →
      ((Izl K a b).stop i H ∧ D.nx σ H) ∨ ((Izl K a b).go i H ∧ ∃ N : St → Hp → Prop, (∀ σ' H', N σ' H' → ∃ m', m' < m ∧ W (i + 1) m' σ' H') ∧ ∀ x H', (Izl K a b).yld i H x H' → g x σ H' fun σ2 H2 => tb { D with nx := N, ct := N, bk := D.nx } σ2 H2) := by
  refine ⟨fun i m σ H => m = xs.length - i ∧ i ≤ xs.length ∧ i ≤ ys.length ∧ Pv i σ H, ⟨xs.length, by simp, Nat.zero_le _, Nat.zero_le _, h0⟩, ?_⟩
  rintro i m σ H ⟨rfl, hi, hj, p⟩
  obtain ⟨q1, q2⟩ := hl i σ H hi hj p
  by_cases hlt : i < xs.length ∧ i < ys.length
  · refine .inr ⟨⟨xs, ys, xs[i], ys[i], q1, q2, by simp [hlt.1], by simp [hlt.2]⟩, Pv (i + 1), fun σ' H' p' => ⟨xs.length - (i + 1), by omega, rfl, hlt.1, hlt.2, p'⟩, fun x H' y => ?_⟩
    obtain ⟨r, u, v, hr, e1, e2, rfl, rfl⟩ := y
    exact hs i u v r σ H (e1 xs q1) (e2 ys q2) hr p
  · have e : i = xs.length ∨ i = ys.length := by omega
    exact .inl ⟨⟨xs, ys, q1, q2, by omega⟩, hd i σ H e p⟩
end L2

set_option linter.all false
set_option maxRecDepth 100000
set_option maxHeartbeats 4000000
/-! name = [comprehension]: the store ahead of the letting go. -/
namespace L2
open PySem PySem.Spec PyProof.Rows
section
variable {X : Cx} {elt tg iter : Expr} {ifs : List Expr} {scope : Scope} {pos : Pos} {N : List Str} {js : List (Option Nat)} {wi : TI} {g : TG} {tc : TT} {te : TE}
theorem ps_setC {osc : Scope} {ON : List Str} {k : Nat} {y : Str} {py spos : Pos} (hN : X.N.Nodup) (hk : X.N[k]? = some y) (hky : Loc X.env.scope y) (cs : CompScope osc ON scope N js) (ho : X.env.scope = osc) (hON : X.N = ON) (hc : X.calm = true) (hi : PI X tg iter wi)
    (hg : ∀ s₀ H₀ cl C ex, PG (compX X scope N s₀ H₀ cl C ex) tg g) (hif : ∀ s₀ H₀ cl C ex, PIfs (compX X scope N s₀ H₀ cl C ex) ifs tc) (he : ∀ s₀ H₀ cl C ex, PE (compX X scope N s₀ H₀ cl C ex) elt te)
    (hsw : swapsWith (.ListComp elt [⟨tg, iter, ifs, 0⟩] scope pos) (some (.Name y py)) spos.line X.env = pure true := by rfl)
    (hs : ∀ x, foldedSetIterable iter X.env x = pure x := by intro _; rfl) (hf : X.fn y = true ∨ X.env.scope.names.lookup y = some .local := by first | exact .inl rfl | exact .inr rfl | assumption) :
    PS X (.Assign [.Name y py] (.ListComp elt [⟨tg, iter, ifs, 0⟩] scope pos) spos) (tAsg (tComp wi (subσ js) g tc te) (gName k)) := by
  intro pins s σ H Dn I h0
  have h : tComp wi (subσ js) g tc te σ H (fun v H' => Dn.nx (σ.set k (some v)) H') := h0
  subst ho hON
  obtain ⟨cl, hcl, cl1, cl2⟩ := closureFor_ok (scope := scope) (env := X.env) fun y hy hf => I.ok.has y.1 (cs.free y hy hf)
  rw [exec_Assign_Name_used _ _ _ _ hsw]
  refine wpAny_bind (wpAny_standAt (wpAny_bind ?_))
  show wpAny _ X.A (do let _ ← comprehension (.ListComp elt [⟨tg, iter, ifs, 0⟩] scope pos) scope X.env _ (newList []) false (eval iter X.env) (some (assign (.Name y py) X.env))) _ _ s
  refine wpAny_bind (wpAny_mono (wpAny_comprehension_free (use := some (assign (.Name y py) X.env)) (Q := fun _ s' => SP X pins Dn .next s') rfl hs hcl cs.kind cs.names ?_) (fun _ s' hq => wpAny_pure (wpAny_pure hq)) fun _ _ e => e)
  refine thn (hi pins s σ H _ I h) fun v s1 h1 => thn h1 fun itv s2 h2 => ?_
  obtain ⟨it, fp, tn, J, H2, e, I2, T, st2, f2, hW⟩ := h2
  subst e
  have hD0 : H2 s2.heap.objs.size = none := I2.hok.fresh (Nat.le_refl _)
  obtain ⟨W, ⟨m0, w0⟩, turn⟩ := hW s2.heap.objs.size hD0
  have I3 := I2.lnew (t' := s2.toks) (ys := []) (its := []) .nil (Nat.zero_le _)
  refine wpAny_newObj_type (wpAny_newFunctionEnv cs.cell (by intro y hy; simp at hy) (fun h₁ hns₁ hsb₁ => ?_) cs.kind)
  dsimp only at hns₁ hsb₁ ⊢
  -- the state with the new list: s3
  obtain ⟨s3, hs3⟩ : ∃ s3 : Shared, s3 = { s2 with heap := s2.heap.push { cls := .type "list", data := .seq ([] : List Value).toArray }, toks := s2.toks } := ⟨_, rfl⟩
  rw [← hs3] at I3
  have e3 : s3.heap = s2.heap.push { cls := .type "list", dict := none, data := .seq ([] : List Value).toArray } := by rw [hs3]
  have e3o : s3.os = s2.os := by rw [hs3]
  have e3g : s3.gens = s2.gens := by rw [hs3]
  rw [← e3] at hns₁ hsb₁ ⊢
  obtain ⟨H3, hH3⟩ : ∃ H3 : Hp, H3 = upd H2 s2.heap.objs.size (.lst []) := ⟨_, rfl⟩
  rw [← hH3] at I3 w0
  have up1 : ∀ b o, s2.heap.get? b = some o → s3.heap.get? b = some o := fun b o q => by rw [e3]; exact Heap.get?_push_of_some _ q
  have up2 : ∀ b o, s3.heap.get? b = some o → h₁.get? b = some o := fun b o q => hsb₁.extBut b o (Nat.ne_of_lt (Heap.lt_size q)) (Heap.get?_push_of_some _ q)
  have fpo : ∀ b ∈ fp, ∃ o, s3.heap.get? b = some o := fun b hb => by
    obtain ⟨o, ho, _⟩ := T.obj 0 _ st2 b hb
    exact ⟨o, up1 b o ho⟩
  have fr3 : ∀ b ∈ fp, H3 b = none := fun b hb => by
    obtain ⟨o, ho, _⟩ := T.obj 0 _ st2 b hb
    rw [hH3, upd_ne (Nat.ne_of_lt (Heap.lt_size ho))]
    exact (f2 b hb).1
  have fpC : ∀ b ∈ fp, b ≠ s3.heap.objs.size := fun b hb => by
    obtain ⟨o, ho⟩ := fpo b hb
    exact Nat.ne_of_lt (Heap.lt_size ho)
  have fpS : ∀ b ∈ fp, b ∉ frs X.stack := fun b hb hs' => by
    rcases List.mem_cons.mp (I2.stkSub b hs') with z | z
    · exact (f2 b hb).2.1 z
    · exact (f2 b hb).2.2.1 z
  have ok' : (compX X scope N s3 H3 cl s3.heap.objs.size fp).Ok := by
    refine ⟨I.ok.mod, cs.kind, I.ok.glob, I.ok.blt, Nat.le_refl _, fun x y c e1 e2 => I.ok.inj x y c (cl2 x c e1) (cl2 y c e2), fun x hx => ?_, fun x c hf => (nomatch hf), I.ok.hd, I.ok.frames, .inl rfl, fun b hb => ⟨fpC b hb, fun x c e => (f2 b hb).2.2.2.2.1 x c (cl2 x c e)⟩,
      I3.bs, Nat.le_trans I.ok.bsz I3.sz, fun b o e hb => ?_, fun b hb => fpS b hb, I3.stack, I3.stkFree⟩
    · have hm : (x, NameKind.free) ∈ scope.names := relabel_back cs.cell hx
      obtain ⟨c, hc⟩ := I.ok.has x (cs.free _ hm rfl)
      exact ⟨c, (cl1 _ hm rfl).trans hc⟩
    · rcases (f2 b hb).2.2.2.1 with z | z
      · exact I.ok.noex b o e z
      · exact absurd (Nat.lt_of_lt_of_le (Heap.lt_size e) (Nat.le_trans I.ok.bsz z)) (Nat.lt_irrefl _)
  have cellK : ∀ c v, s3.heap.IsCell c v → h₁.IsCell c v := fun c v ⟨o, ho, hd⟩ => ⟨o, up2 c o ho, hd⟩
  have I4 : ∀ t : Nat, Inv (compX X scope N s3 H3 cl s3.heap.objs.size fp) [] (subσ js σ) H3 { s2 with heap := h₁, toks := t } := fun t => by
    refine ⟨ok', e3o.symm, I2.bare, Un.kept up2, ⟨_, hns₁, fun i x v hi hv hx => ?_⟩, fun x c e => ?_, I3.hok.fresh (Nat.le_refl _), fun x c e => I3.freeC x c (cl2 x c e), fun p hp => (nomatch hp), I3.hok.kept up2, ?_⟩
    · -- a slot taken over
      have hv' : ∃ j, js[i]? = some (some j) ∧ σ[j]? = some (some v) := by
        unfold subσ at hv
        rw [List.getElem?_map] at hv
        cases hj : js[i]? with
        | none => rw [hj] at hv; cases hv
        | some o =>
          rw [hj] at hv
          cases o with
          | none => cases hv
          | some j =>
            refine ⟨j, rfl, ?_⟩
            have hv2 : (σ[j]?).join = some v := Option.some.inj hv
            cases hs2 : σ[j]? with
            | none => rw [hs2] at hv2; cases hv2
            | some u => rw [hs2] at hv2; exact congrArg some hv2
      obtain ⟨j, hj, hσ⟩ := hv'
      obtain ⟨x', h1', h2', h3'⟩ := cs.sub i j hj
      have hxx : x = x' := Option.some.inj (hi.symm.trans h1')
      subst hxx
      have hm : (x, NameKind.free) ∈ scope.names := mem_of_lookup h3'
      have hk := cs.free _ hm rfl
      obtain ⟨m, hn, hl⟩ := id I3.loc
      obtain ⟨u, ru, lk⟩ := hl j x v h2' hσ (by rcases hk with z | z; exact .inr (.inl z); exact .inr (.inr z))
      refine ⟨u, ru, ?_⟩
      rcases lk with ⟨k1, _⟩ | ⟨k1, c, e1, z⟩
      · rcases hk with z | z <;> (rw [show X.env.kindOf x = _ from z] at k1; cases k1)
      · exact .inr ⟨lookup_relabel_free h3', c, (cl1 _ hm rfl).trans e1, cellK c _ z⟩
    · obtain ⟨v, z⟩ := I3.cell x c (cl2 x c e)
      exact ⟨v, cellK c v z⟩
    · unfold subσ
      rw [List.length_map]
      exact cs.len
  have hst₁ : tn 0 h₁ := T.keep 0 _ _ st2 fun b hb o q => up2 b o (up1 b o q)
  have stat : ∀ {H' : Hp}, (∀ b ∈ fp, H' b = none) → ∀ b ∈ fp, FpOk (compX X scope N s3 H3 cl s3.heap.objs.size fp) [] H' b := fun hn b hb =>
    ⟨hn b hb, fpC b hb, fpS b hb, .inl hb, fun x c e => (f2 b hb).2.2.2.2.1 x c (cl2 x c e), fun p hp => (nomatch hp)⟩
  have loop : ∀ s4 : Shared, (∃ t, s4 = { s2 with heap := h₁, toks := t }) →
      codeAny (model X.prog X.w) X.A (.compLoop (.ListComp elt [⟨tg, iter, ifs, 0⟩] scope pos) 0 (.ref it) (.ref s2.heap.objs.size) (compEnvC scope cl s3.heap.objs.size X.env))
        (compPost (model X.prog X.w) X.A X.xe (some (assign (.Name y py) X.env)) (fun _ s' => SP X pins Dn .next s') (.ref s2.heap.objs.size) s3.heap.objs.size) s4 := by
    rintro s4 ⟨t, rfl⟩
    refine compLoop_any (fun n s' => ∃ i σ' ys H', Inv (compX X scope N s3 H3 cl s3.heap.objs.size fp) [] σ' H' s' ∧ tn i s'.heap ∧ (∀ b ∈ fp, H' b = none) ∧ W i n σ' ys H') ?_ m0 ⟨0, _, [], H3, I4 t, hst₁, fr3, w0⟩
    rintro n s5 ⟨i, σ5, ys, H5, I5, st5, fr5, w5⟩
    rcases turn i n σ5 ys H5 w5 with ⟨stop, qn⟩ | ⟨go, step⟩
    · refine thn (T.done (compX X scope N s3 H3 cl s3.heap.objs.size fp) rfl rfl rfl hc i [] s5 σ5 H5 _ I5 (stat fr5) st5 stop) fun r s6 ⟨hr, I6⟩ => ?_
      subst hr
      obtain ⟨m, hn, _⟩ := id I6.loc
      have IX : ∀ h', Heap.SameBut s3.heap.objs.size s6.heap h' → Inv X pins σ H5 { s6 with heap := h' } := fun h' hs' => by
        have neC : ∀ b o, s3.heap.get? b = some o → b ≠ s3.heap.objs.size := fun b o q => Nat.ne_of_lt (Heap.lt_size q)
        have un : Un (frs X.stack) fp H3 H5 s3.heap h' :=
          ⟨fun b o q n1 hb hx => (hs'.2 b (neC b o q)).trans (I6.base.keep b o q n1 hb hx),
           fun b o q n1 hb hx => by
             obtain ⟨sl, e⟩ := I6.base.slot b o q n1 hb hx
             exact ⟨sl, (hs'.2 b (neC b o q)).trans e⟩,
           fun b o q n1 hx => I6.base.free b o q n1 hx,
           fun b o q hx => by
             obtain ⟨o', e⟩ := I6.base.there b o q hx
             exact ⟨o', (hs'.2 b (neC b o q)).trans e⟩,
           I6.base.tups, I6.base.frzs, I6.base.tbls⟩
        refine I3.call' (ch := fp) (s' := { s6 with heap := h' }) I6.os un (fun b ob e => ?_) I6.bare (fun b hb => ⟨(f2 b hb).2.2.2.1, (f2 b hb).2.1, (f2 b hb).2.2.2.2.1, (f2 b hb).2.2.2.2.2⟩)
        refine (I6.hok b ob e).stay (fun c w' hc' q => (hs'.2 c ?_).trans q) (fun _ q => q) fun _ _ q => q
        rintro rfl
        have fC : H5 s3.heap.objs.size = none := I6.free
        rcases hc' with z | z
        · rw [← z, fC] at e; cases e
        · rw [fC] at z; cases z
      have fC : H5 s3.heap.objs.size = none := I6.free
      have IY : Inv X pins σ H5 s6 := IX s6.heap (Heap.SameBut.refl ..)
      have fo : FpOk X pins H5 s3.heap.objs.size := I3.fpOk (Nat.le_refl _) fC
      obtain ⟨oC, es, ep, ho1, hd1, hrest⟩ := id hn
      have IZ := IY.pinned (fp := [s3.heap.objs.size]) (fun b hb => by obtain rfl : b = _ := (by simpa using hb); exact fo) (fun b hb => by obtain rfl : b = _ := (by simpa using hb); exact ⟨oC, ho1, fun v z => by rw [hd1] at z; cases z⟩)
      show wpAny _ X.A (assign (.Name y py) X.env (.ref s2.heap.objs.size)) _ _ s6
      refine wpAny_assign_Name (store_ok IZ hN hk hky (show RelV (.ref s2.heap.objs.size) (.ref s2.heap.objs.size) from rfl) (fun s7 I7 => ?_) hf)
      have hC7 : s7.heap.get? s3.heap.objs.size = some oC := (I7.pin (s3.heap.objs.size, oC) (List.mem_append_right _ (List.mem_append_right _ (mem_pinsAt (by simp) ho1)))).1
      refine ⟨m, hn.at' fun o e => ?_, fun h' hs' => ⟨_, H5, ?_, qn⟩⟩
      · rw [ho1] at e; cases e; exact hC7
      · have I8 := I7.unpinned
        exact I8.turned (t' := s7.toks) (fun b o hb e => (hs'.2 b hb).trans e) fo.1 fo.2.1 fo.2.2.2.1 fo.2.2.2.2.1 fo.2.2.2.2.2
    · refine thn (T.item (compX X scope N s3 H3 cl s3.heap.objs.size fp) rfl rfl rfl hc i [] s5 σ5 H5 _ I5 (stat fr5) st5 go) fun r s6 ⟨u, hr, h6⟩ => ?_
      subst hr
      refine thn h6 fun _ s7 ⟨x, H7, I7, r7, y7, st7, fr7⟩ => ?_
      have I7' := I7.pinned (stat fr7) (T.obj _ _ st7)
      refine thn (hg _ _ _ _ _ _ s7 σ5 H7 x u _ I7' r7 (step x H7 y7)) fun _ s8 ⟨σ8, H8, I8, q8⟩ => ?_
      refine thn (hif _ _ _ _ _ _ s8 σ8 H8 _ I8 q8) fun ok s9 ⟨H9, I9, q9⟩ => ?_
      have again : ∀ {σ' : St} {H' : Hp} {s' : Shared}, Inv (compX X scope N s3 H3 cl s3.heap.objs.size fp) ([] ++ pinsAt fp s7.heap) σ' H' s' →
          Inv (compX X scope N s3 H3 cl s3.heap.objs.size fp) [] σ' H' s' ∧ tn (i + 1) s'.heap ∧ ∀ b ∈ fp, H' b = none := fun {σ' H' s'} I' => by
        refine ⟨I'.unpinned, T.keep _ _ _ st7 fun b hb o e => (I'.pin (b, o) (List.mem_append_right _ (List.mem_append_right _ (mem_pinsAt hb e)))).1, fun b hb => ?_⟩
        obtain ⟨o, e, d⟩ := T.obj _ _ st7 b hb
        exact (I'.pin (b, o) (List.mem_append_right _ (List.mem_append_right _ (mem_pinsAt hb e)))).2.1
      cases ok with
      | false =>
        rw [if_neg Bool.false_ne_true] at q9 ⊢
        obtain ⟨m', hm, w9⟩ := q9
        obtain ⟨a1, a2, a3⟩ := again I9
        exact ⟨m', hm, i + 1, σ8, ys, H9, a1, a2, a3, w9⟩
      | true =>
        rw [if_pos rfl] at q9 ⊢
        refine thn (he _ _ _ _ _ _ s9 σ8 H9 _ I9 q9) fun yv s10 ⟨y, H10, I10, r10, q10⟩ => ?_
        obtain ⟨hD, hz, m', hm, w10⟩ := q10
        refine thn (mt_append (X := compX X scope N s3 H3 cl s3.heap.objs.size fp) _ s10 σ8 H10 (.ref s2.heap.objs.size) [y] (.ref s2.heap.objs.size) [yv] (fun v H' => H' = upd H10 s2.heap.objs.size (.lst (ys ++ [y]))) I10 rfl (.cons r10 .nil)
          ⟨s2.heap.objs.size, ys, y, rfl, rfl, hD, hz, rfl⟩) fun _ s11 ⟨v11, H11, I11, _, e11⟩ => ?_
        have e11' : H11 = upd H10 s2.heap.objs.size (.lst (ys ++ [y])) := e11
        subst e11'
        obtain ⟨a1, a2, a3⟩ := again I11
        exact ⟨m', hm, i + 1, σ8, ys ++ [y], _, a1, a2, a3, w10⟩
  exact codeAny_compStart_list (loop _ ⟨_, rfl⟩) (T.self X.A 0 _ _ _ hst₁ (loop _ ⟨_, rfl⟩))
end
end L2

set_option linter.all false
namespace L2
open PySem PySem.StrLaws Builtin Builtin.Str
end L2

set_option linter.all false
set_option maxRecDepth 100000
set_option maxHeartbeats 4000000
/-! f-strings, split, str(n), int(text). -/
namespace L2
open PySem PySem.Spec PyProof.Rows
abbrev TF := List Nat → St → Hp → VK → Prop
def PF (X : Cx) (es : List Expr) (t : TF) : Prop := ∀ (pins : List (Addr × Obj)) (s : Shared) (σ : St) (H : Hp) (out : List Nat) (Q : VK), Inv X pins σ H s → t out σ H Q →
  wpAny (model X.prog X.w) X.A (joinParts ⟨out.toArray⟩ (evalEach es X.env)) (EP X pins σ Q) X.xe s
def tFnil : TF := fun out _ H Q => out.length ≤ sizeLine ∧ Q (T out) H
def tFcons (te : TE) (tr : TF) : TF := fun out σ H Q => te σ H fun x H1 => ∃ y, x = T y ∧ (out ++ y).length ≤ sizeLine ∧ tr (out ++ y) σ H1 Q
section
variable {X : Cx} {e : Expr} {es : List Expr} {te : TE} {tr : TF} {pos : Pos}
theorem fvs_nil : PF X [] tFnil := by
  intro pins s σ H out Q I h
  exact joinParts_nil ⟨T out, H, I.tok _, ⟨_, rfl⟩, h.2⟩ (by rw [T_len]; exact h.1)
theorem fvs_cons (he : PE X e te) (hr : PF X es tr) (hs : evalEach (e :: es) X.env = eval e X.env :: evalEach es X.env := by rfl) : PF X (e :: es) (tFcons te tr) := by
  intro pins s σ H out Q I h
  rw [hs]
  refine joinParts_cons (thn (he pins s σ H _ I h) fun v s1 ⟨x, H1, I1, r1, y, e1, hz, q⟩ => ?_)
  subst e1
  obtain ⟨t, rfl⟩ := r1
  refine ⟨by rw [T_app, T_len]; exact hz, ?_⟩
  rw [T_app]
  exact hr pins s1 σ H1 _ Q I1 q
theorem fv_txt {x : Str} {l : List Nat} {j} (h : x = ⟨l.toArray⟩) : PE X (.Constant (.str x) j pos) (tC (T l)) := pe_txt h
/-- a field that holds a text -/
def tFs (te : TE) : TE := fun σ H Q => te σ H fun x H1 => ∃ y, x = T y ∧ y.length ≤ sizeLine ∧ Q (T y) H1
theorem fv_str (he : PE X e te) : PE X (.FormattedValue e (-1) none pos) (tFs te) := by
  intro pins s σ H Q I h
  refine FormattedValue_plain (thn (he pins s σ H _ I h) fun v s1 ⟨x, H1, I1, r1, y, e1, hz, q⟩ => ?_)
  subst e1
  obtain ⟨t, rfl⟩ := r1
  exact formatField_str (fun t' tk => ⟨T y, H1, I1.tok _, ⟨t', rfl⟩, q⟩) (by rw [T_len]; exact hz)
/-- one that holds a figure -/
def tFd (te : TE) : TE := fun σ H Q => te σ H fun x H1 => ∃ n : Nat, x = .int n ∧ n ≤ 9 ∧ Q (T [48 + n]) H1
theorem fig_text : ∀ n : Nat, n ≤ 9 → toString ((n : Nat) : Int) = (⟨[48 + n].toArray⟩ : Str) := by
  intro n hn
  have : n = 0 ∨ n = 1 ∨ n = 2 ∨ n = 3 ∨ n = 4 ∨ n = 5 ∨ n = 6 ∨ n = 7 ∨ n = 8 ∨ n = 9 := by omega
  rcases this with rfl | rfl | rfl | rfl | rfl | rfl | rfl | rfl | rfl | rfl <;> decide +kernel
theorem fig_log {n : Nat} (h : n ≤ 9) : ((n : Int).natAbs).log2 < 1920 := by
  have : n = 0 ∨ n = 1 ∨ n = 2 ∨ n = 3 ∨ n = 4 ∨ n = 5 ∨ n = 6 ∨ n = 7 ∨ n = 8 ∨ n = 9 := by omega
  rcases this with rfl | rfl | rfl | rfl | rfl | rfl | rfl | rfl | rfl | rfl <;> decide +kernel
theorem fv_int (he : PE X e te) : PE X (.FormattedValue e (-1) none pos) (tFd te) := by
  intro pins s σ H Q I h
  refine FormattedValue_plain (thn (he pins s σ H _ I h) fun v s1 ⟨x, H1, I1, r1, n, e1, hn, q⟩ => ?_)
  subst e1
  obtain ⟨t, rfl⟩ := r1
  exact formatField_int_small (fig_log hn) ⟨T [48 + n], H1, I1.tok _, ⟨_, by rw [fig_text n hn]⟩, q⟩
theorem pe_fstr {e1 e2 : Expr} (h : PF X (e1 :: e2 :: es) tr) : PE X (.JoinedStr (e1 :: e2 :: es) pos) (tr []) := by
  intro pins s σ H Q I hw
  exact JoinedStr_many (h pins s σ H [] Q I hw)
/-- str(n) of a figure -/
theorem call_str_intT : CallR X (.type "str") (fun xs H Q => ∃ n : Nat, xs = [.int n] ∧ n ≤ 9 ∧ Q (T [48 + n]) H) := by
  intro pins s σ H xs us Q I r h
  obtain ⟨n, rfl, hn, q⟩ := h
  refine call_str_int pins s σ H _ us Q I r ⟨_, rfl, fig_log hn, ?_⟩
  rw [fig_text n hn]
  exact q
end
end L2

set_option linter.all false
set_option maxRecDepth 100000
set_option maxHeartbeats 4000000
/-! objects made, by what one wants of them; comprehensions by place. -/
namespace L2
open PySem PySem.Spec PyProof.Rows
section
variable {X : Cx} {x m : Str} {k : Nat} {ps : List Str} {sp : Sp} {C : Addr} {p pos apos : Pos} {e o : Expr} {es : List Expr} {t : TA} {to : TE}
theorem pe_mkI {r : List V → Hp → VK → Prop} (G : MkG X.prog X.w X.K X.mg X.base C x k ps sp) (hr : Room (k + 1) X.A)
    (imp : ∀ vs H Q, r vs H Q → ∀ x dx, H x = none → H dx = none → dx ≠ x → sp (.ref x :: (vs ++ [])) (upd (upd H dx (.own x)) x (.ins C dx [])) (fun v H2 => v = .non ∧ Q (.ref x) H2) E0)
    (ha : PA X (e :: es) t) (hg : Gl X x := by rfl) (hdb : (x == ("__debug__" : Str)) = false := by decide)
    (he : starEach (e :: es) X.env = (false, eval e X.env) :: starEach es X.env := by rfl) (hpl : (backTo pos (starEach es X.env)).any (·.1) = false := by rfl) : PE X (.Call (.Name x p) (e :: es) [] pos) (tCB r t) := by
  obtain ⟨f, fd, a, M, hm, hb⟩ := G
  intro pins s σ H Q I h
  refine wpAny_Call_Name_kw (ld_glob I hg hm ?_ hdb)
  refine PySem.W.callWith_K (h₀ := X.base) I.ok.mod.kin M.kp (thn (ha pos pins s σ H _ I h) fun us s1 ⟨vs, H1, I1, rv, q⟩ => ⟨I1.kIn, ?_⟩) he hpl
  exact run_make M a hr hb .nil pass0 I1 rv (imp vs H1 Q q)
end
end L2

set_option linter.all false
set_option maxRecDepth 100000
set_option maxHeartbeats 4000000
/-! comprehensions of any target and test, item by item; sum. -/
namespace L2
open PySem PySem.Spec PyProof.Rows
/-- two rows side by side, of one heap -/
def All2 {α : Type} (P : α → V → Hp → Prop) (H : Hp) : List α → List V → Prop
  | [], [] => True
  | a :: as, y :: ys => P a y H ∧ All2 P H as ys
  | _, _ => False
section
variable {α : Type} {P : α → V → Hp → Prop} {H H' : Hp}
theorem All2.len : ∀ {as : List α} {ys : List V}, All2 P H as ys → ys.length = as.length
  | [], [], _ => rfl
  | _ :: _, _ :: _, h => by rw [List.length_cons, List.length_cons, All2.len h.2]
  | [], _ :: _, h => h.elim
  | _ :: _, [], h => h.elim
theorem All2.snoc : ∀ {as : List α} {ys : List V} {a : α} {y : V}, All2 P H as ys → P a y H → All2 P H (as ++ [a]) (ys ++ [y])
  | [], [], _, _, _, p => ⟨p, trivial⟩
  | _ :: _, _ :: _, _, _, h, p => ⟨h.1, All2.snoc h.2 p⟩
  | [], _ :: _, _, _, h, _ => h.elim
  | _ :: _, [], _, _, h, _ => h.elim
theorem All2.imp {P' : α → V → Hp → Prop} : ∀ {as : List α} {ys : List V}, All2 P H as ys → (∀ a y, P a y H → P' a y H') → All2 P' H' as ys
  | [], [], _, _ => trivial
  | _ :: _, _ :: _, h, f => ⟨f _ _ h.1, All2.imp h.2 f⟩
  | [], _ :: _, h, _ => h.elim
  | _ :: _, [], h, _ => h.elim
theorem All2.get : ∀ {as : List α} {ys : List V} {i : Nat} {a : α}, All2 P H as ys → as[i]? = some a → ∃ y, ys[i]? = some y ∧ P a y H
  | [], [], _, _, _, e => by simp at e
  | b :: _, y :: _, 0, a, h, e => ⟨y, rfl, by rw [← (Option.some.inj e : b = a)]; exact h.1⟩
  | _ :: as, _ :: ys, i + 1, a, h, e => All2.get (as := as) (ys := ys) (i := i) h.2 (by simpa using e)
  | [], _ :: _, _, _, h, _ => h.elim
  | _ :: _, [], _, _, h, _ => h.elim
theorem All2.back : ∀ {as : List α} {ys : List V} {i : Nat} {y : V}, All2 P H as ys → ys[i]? = some y → ∃ a, as[i]? = some a ∧ P a y H
  | [], [], _, _, _, e => by simp at e
  | b :: _, z :: _, 0, y, h, e => ⟨b, rfl, by rw [← (Option.some.inj e : z = y)]; exact h.1⟩
  | _ :: as, _ :: ys, i + 1, y, h, e => All2.back (as := as) (ys := ys) (i := i) h.2 (by simpa using e)
  | [], _ :: _, _, _, h, _ => h.elim
  | _ :: _, [], _, _, h, _ => h.elim
theorem All2.eqmap {f : α → V} : ∀ {as : List α} {ys : List V}, All2 P H as ys → (∀ a y, P a y H → y = f a) → ys = as.map f
  | [], [], _, _ => rfl
  | _ :: _, _ :: _, h, g => by rw [List.map_cons, ← g _ _ h.1, ← All2.eqmap h.2 g]
  | [], _ :: _, h, _ => h.elim
  | _ :: _, [], h, _ => h.elim
end
/-- all but lists stays -/
def Keeps (Ha Hb : Hp) : Prop := ∀ a ob, Ha a = some ob → (∀ zs, ob ≠ .lst zs) → Hb a = some ob
theorem Same.keeps {Ha Hb : Hp} (h : Same Ha Hb) : Keeps Ha Hb := fun a ob e _ => h a ob e
theorem Keeps.trans {Ha Hb Hc : Hp} (h : Keeps Ha Hb) (h' : Keeps Hb Hc) : Keeps Ha Hc := fun a ob e n => h' a ob (h a ob e n) n
theorem keeps_lst {Ha : Hp} {D : Addr} {zs ys : List V} (h : Ha D = some (.lst zs)) : Keeps Ha (upd Ha D (.lst ys)) := fun a ob e hn => by
  by_cases c : a = D
  · subst c; rw [h] at e; cases e; exact absurd rfl (hn zs)
  · rw [upd_ne c]; exact e
theorem comp_gen {α : Type} {J : It} {H : Hp} {σ0 : St} {g : TG} {tc : TT} {te : TE} {Q : VK} (xs : List α) (p : α → Bool) (P : α → V → Hp → Prop) (sh : St → Prop) (hx : xs.length ≤ 1000000) (h0 : sh σ0)
    (hgo : ∀ i H', Same H H' → i < xs.length → J.go i H') (hstop : ∀ H', Same H H' → J.stop xs.length H')
    (hk : ∀ a y Ha Hb, Keeps Ha Hb → P a y Ha → P a y Hb)
    (step : ∀ (i : Nat) a σ x H' H'', xs[i]? = some a → sh σ → Same H H' → J.yld i H' x H'' → ∀ (Rf : St → Hp → Prop) (Rt : St → V → Hp → Prop),
      (∀ σ2 H3, p a = false → sh σ2 → Same H' H3 → Rf σ2 H3) → (∀ σ2 y H4, p a = true → sh σ2 → Same H' H4 → P a y H4 → Rt σ2 y H4) →
      g x σ H'' fun σ2 H2 => tc σ2 H2 fun b H3 => if b = true then te σ2 H3 (fun y H4 => Rt σ2 y H4) else Rf σ2 H3)
    (hQ : ∀ D H' ys, H D = none → Same H H' → All2 P H' (xs.filter p) ys → H' D = some (.lst ys) → Q (.ref D) H') : CompW J H σ0 g tc te Q := by
  intro D hD
  refine ⟨fun i m σ1 ys H' => m = xs.length - i ∧ i ≤ xs.length ∧ sh σ1 ∧ All2 P H' ((xs.take i).filter p) ys ∧ H' D = some (.lst ys) ∧ Same H H', ⟨xs.length, by simp, Nat.zero_le _, h0, trivial, upd_same, same_new hD _⟩, ?_⟩
  rintro i m σ1 ys H' ⟨rfl, hi, hσ, hP, hDD, hs⟩
  by_cases hlt : i < xs.length
  · refine .inr ⟨hgo i H' hs hlt, fun x H'' hy => ?_⟩
    have ha : xs[i]? = some xs[i] := List.getElem?_eq_getElem hlt
    have ht : xs.take (i + 1) = xs.take i ++ [xs[i]] := by rw [List.take_add_one, ha]; rfl
    refine step i xs[i] σ1 x H' H'' ha hσ hs hy _ _ (fun σ2 H3 hf sh2 s3 => ?_) (fun σ2 y H4 hf sh2 s4 py => ?_)
    · refine ⟨xs.length - (i + 1), by omega, rfl, hlt, sh2, ?_, s3 _ _ hDD, hs.trans s3⟩
      rw [ht, List.filter_append, List.filter_cons, hf]
      show All2 P H3 (List.filter p (xs.take i) ++ []) ys
      rw [List.append_nil]
      exact hP.imp fun a y => hk a y _ _ s3.keeps
    · have hl := hP.len
      refine ⟨s4 _ _ hDD, ?_, xs.length - (i + 1), by omega, rfl, hlt, sh2, ?_, upd_same, (hs.trans s4).upd hD⟩
      · have h1 := List.length_filter_le p (xs.take i)
        rw [List.length_take] at h1
        have : (1000001 : Nat) ≤ sizeLine := by decide
        omega
      · rw [ht, List.filter_append, List.filter_cons, hf]
        have kk : Keeps H4 (upd H4 D (.lst (ys ++ [y]))) := keeps_lst (s4 _ _ hDD)
        exact All2.snoc (hP.imp fun a y => hk a y _ _ (s4.keeps.trans kk)) (hk _ _ _ _ kk py)
  · have e : i = xs.length := by omega
    subst e
    refine .inl ⟨hstop H' hs, hQ D H' ys hD hs ?_ hDD⟩
    rw [List.take_of_length_le (Nat.le_refl _)] at hP
    exact hP
/-- over what hands on known items -/
theorem comp_hands {α : Type} {J : It} {H : Hp} {σ0 : St} {g : TG} {tc : TT} {te : TE} {Q : VK} {vs : List V} (xs : List α) (p : α → Bool) (P : α → V → Hp → Prop) (sh : St → Prop) (hJ : Hands J H vs) (hv : vs.length = xs.length) (hx : xs.length ≤ 1000000) (h0 : sh σ0)
    (hk : ∀ a y Ha Hb, Keeps Ha Hb → P a y Ha → P a y Hb)
    (step : ∀ (i : Nat) a v σ H', xs[i]? = some a → vs[i]? = some v → sh σ → Same H H' → ∀ (Rf : St → Hp → Prop) (Rt : St → V → Hp → Prop),
      (∀ σ2 H3, p a = false → sh σ2 → Same H' H3 → Rf σ2 H3) → (∀ σ2 y H4, p a = true → sh σ2 → Same H' H4 → P a y H4 → Rt σ2 y H4) →
      g v σ H' fun σ2 H2 => tc σ2 H2 fun b H3 => if b = true then te σ2 H3 (fun y H4 => Rt σ2 y H4) else Rf σ2 H3)
    (hQ : ∀ D H' ys, H D = none → Same H H' → All2 P H' (xs.filter p) ys → H' D = some (.lst ys) → Q (.ref D) H') : CompW J H σ0 g tc te Q := by
  refine comp_gen xs p P sh hx h0 (fun i H' s hi => hJ.go i H' s (by omega)) (fun H' s => by rw [← hv]; exact hJ.stop H' s) hk (fun i a σ x H' H'' ha hσ s hy => ?_) hQ
  have hi : i < xs.length := (List.getElem?_eq_some_iff.mp ha).1
  obtain ⟨e, hx⟩ := hJ.yld i H' x H'' s (by omega) hy
  subst e
  exact step i a x σ H'' ha hx hσ s
theorem ints_items : ∀ {ns : List Int} {its : List Value}, Vals (ns.map V.int) its → ∃ xs : List (Int × Tok), its = xs.map (fun p => Value.int p.1 p.2) ∧ xs.map (·.1) = ns
  | [], _, .nil => ⟨[], rfl, rfl⟩
  | n :: ns, _, .cons r t => by
    obtain ⟨k, rfl⟩ := r
    obtain ⟨xs, e, h⟩ := ints_items t
    exact ⟨(n, k) :: xs, by rw [e]; rfl, by rw [List.map_cons, h]⟩
section
variable {X : Cx} {K : PySem.W.Frag}
theorem pg_tupK {es : List Expr} {k : Nat} {t : TGs} {n : Nat} {pos : Pos} (hK : X.K = K) (hc : X.calm = true) (h : PGs X es t)
    (hn : (assignEach es X.env).length = n := by rfl) (hst : (assignEach es X.env).findIdx? (·.1) = none := by rfl) : PG X (.Tuple es k pos) (gTup K n t) := hK ▸ pg_tup hc h hn hst
end
theorem bt_ty_tuple : bootBuiltins "tuple" = some (.type "tuple") := by decide +kernel
end L2

set_option linter.all false
set_option maxRecDepth 100000
set_option maxHeartbeats 4000000
/-! enumerate of a list. -/
namespace L2
open PySem PySem.Spec PyProof.Rows
def Iel (K : PySem.W.Frag) (l : Addr) : It :=
  ⟨fun i H => ∃ xs x, SqL K H l xs ∧ xs[i]? = some x,
   fun i H v H' => ∃ p x, H p = none ∧ (∀ xs, SqL K H l xs → xs[i]? = some x) ∧ v = .ref p ∧ H' = upd H p (.tup [.int i, x]),
   fun i H => ∃ xs, SqL K H l xs ∧ xs.length ≤ i⟩
theorem turn_enumL {P : Program} {w : World} {K : PySem.W.Frag} {es : List Expr} {k : Nat} {pos : Pos} {z it l : Addr} (zi : z ≠ it) :
    Turn P w K (.Tuple es k pos) (Iel K l) [z, it] z (fun i h => (∃ old, IsEnum h z it (i : Int) old) ∧ h.IsListIter it l i) where
  mem := by simp
  obj := fun i h st b hb => by
    obtain ⟨⟨old, hz⟩, o1, e1, c1, d1⟩ := st
    simp only [List.mem_cons, List.not_mem_nil, or_false] at hb
    rcases hb with rfl | rfl
    · exact ⟨_, hz, fun v q => by cases q⟩
    · exact ⟨o1, e1, fun v q => by rw [d1] at q; cases q⟩
  keep := fun i h h' st kk => by
    obtain ⟨⟨old, hz⟩, o1, e1, r1⟩ := st
    exact ⟨⟨old, kk z (by simp) _ hz⟩, ⟨o1, kk it (by simp) _ e1, r1⟩⟩
  item := by
    intro X hP hw hK hc i pins s σ H E I hf st hg
    subst hP hw hK
    obtain ⟨⟨old, hz⟩, h1⟩ := st
    obtain ⟨xs, x, hq1, hx⟩ := hg
    obtain ⟨ia, ra, pa, _⟩ := I.list hq1
    obtain ⟨u, hu, ru⟩ := ra.get hx
    refine wpAny_pyNext_enum_item hz h1 pa.isList (x := u) (by simpa using hu) zi fun h' a1 a2 a3 a4 kp => ?_
    refine ⟨_, rfl, ?_⟩
    refine wpAny_letOwnedTupleGo_enum (s := { s with heap := h', toks := s.toks + 1 }) a1 fun h2' hz' hs' => ?_
    replace hs' : Heap.SameBut z h' h2' := hs'
    have zlt : z < s.heap.objs.size := Heap.lt_size hz
    have far : ∀ q ∈ [z, it], q < s.heap.objs.size := by
      intro q hq
      obtain ⟨o1, e1, _⟩ := h1
      simp only [List.mem_cons, List.not_mem_nil, or_false] at hq
      rcases hq with rfl | rfl
      · exact zlt
      · exact Heap.lt_size e1
    have fz := hf z (by simp)
    have f1 := hf it (by simp)
    have keepAll : ∀ b o, b ≠ z → b ≠ it → s.heap.get? b = some o → h2'.get? b = some o := fun b o b1 b2 e => hs'.extBut _ _ b1 (kp b o b1 b2 e)
    have hnew : H s.heap.objs.size = none := I.hok.fresh (Nat.le_refl _)
    have Tz : s.heap.objs.size ≠ z := Nat.ne_of_gt zlt
    have ht2 : h2'.get? s.heap.objs.size = some { cls := .type "tuple", data := .seq #[.int i s.toks, u] } := hs'.extBut _ _ Tz a3
    have I2 : Inv X pins σ (upd H s.heap.objs.size (.tup [.int i, x])) { s with heap := h2', toks := s.toks + 1 } := by
      have there : ∀ q ∈ [z, it], ∃ o', h2'.get? q = some o' := by
        intro q hq
        obtain ⟨o1, e1, _⟩ := a2
        simp only [List.mem_cons, List.not_mem_nil, or_false] at hq
        rcases hq with rfl | rfl
        · exact ⟨_, hz'⟩
        · exact ⟨_, hs'.extBut _ _ zi.symm e1⟩
      have nch : ∀ b, b ∉ [z, it] → b ≠ z ∧ b ≠ it := fun b hb => by
        simp only [List.mem_cons, List.not_mem_nil, or_false, not_or] at hb
        exact hb
      have trk : ∀ b u', H b = some u' → b ≠ z ∧ b ≠ it := fun b u' e =>
        ⟨fun q => (by rw [q, fz.1] at e; cases e), fun q => (by rw [q, f1.1] at e; cases e)⟩
      have okH : HOk X.prog X.w (upd H s.heap.objs.size (.tup [.int i, x])) h2' := fun b u' e => by
        by_cases hb : b = s.heap.objs.size
        · subst hb
          rw [upd_same] at e
          cases e
          exact ⟨(show 2 ≤ sizeLine by decide), [.int i s.toks, u], .cons ⟨_, rfl⟩ (.cons ru .nil), ⟨_, ht2, rfl, _, rfl⟩⟩
        · rw [upd_ne hb] at e
          have hx := I.hok b u' e
          refine hx.stay (fun q o hq e2 => ?_) (fun q e2 => ?_) (fun q xs e2 => ?_)
          · rcases hq with rfl | hq
            · obtain ⟨b1, b2⟩ := trk q _ e
              exact keepAll q o b1 b2 e2
            · obtain ⟨b1, b2⟩ := trk q _ hq
              exact keepAll q o b1 b2 e2
          · rw [upd_ne (ne_of_none e2 hnew)]; exact e2
          · rw [upd_ne (ne_of_none e2 hnew)]; exact e2
      refine I.step (g' := s.gens) (d' := s.drawn) (ch := [z, it]) (fun b hb => ?_) (fun b o _ _ hcb e n => ?_) (fun b o _ _ hcb e n => ?_) (fun b o hcb e n => ?_) (fun b o hcb e => ?_) (fun b xs e => ?_) (fun b o u' e => ?_) (fun b ps e => ?_) (fun m hm => ?_) okH I.bare
      · simp only [List.mem_cons, List.not_mem_nil, or_false] at hb
        rcases hb with rfl | rfl
        · exact ⟨fz.2.2.2.1, fz.2.1, fz.2.2.2.2.1, fz.2.2.2.2.2⟩
        · exact ⟨f1.2.2.2.1, f1.2.1, f1.2.2.2.2.1, f1.2.2.2.2.2⟩
      · obtain ⟨b1, b2⟩ := nch b hcb
        exact keepAll b o b1 b2 e
      · obtain ⟨b1, b2⟩ := nch b hcb
        exact ⟨o.slots, keepAll b o b1 b2 e⟩
      · rw [upd_ne (Nat.ne_of_lt (Heap.lt_size e))]; exact n
      · obtain ⟨b1, b2⟩ := nch b hcb
        exact ⟨o, keepAll b o b1 b2 e⟩
      · rw [upd_ne (ne_of_none e hnew)]; exact e
      · rw [upd_ne (ne_of_none e hnew)]; exact e
      · exact ⟨#[], by rw [upd_ne (ne_of_none e hnew), e]; simp⟩
      · obtain ⟨o, es', ep, ho, r⟩ := hm
        exact ⟨o, es', ep, keepAll _ o fz.2.1.symm f1.2.1.symm ho, r⟩
    refine ⟨.ref s.heap.objs.size, _, I2, rfl, ⟨_, x, hnew, fun zs hz => by rw [I.list_inj hz hq1]; exact hx, rfl, rfl⟩, ⟨⟨_, by rw [Int.natCast_add]; exact hz'⟩, ?_⟩, fun b hb => ?_⟩
    · obtain ⟨o, e, r⟩ := a2; exact ⟨o, hs'.extBut _ _ zi.symm e, r⟩
    · rw [upd_ne (Nat.ne_of_lt (far b hb))]; exact (hf b hb).1
  done := by
    intro X hP hw hK hc i pins s σ H E I hf st hg
    subst hP hw hK
    obtain ⟨⟨old, hz⟩, h1⟩ := st
    obtain ⟨xs, hq1, hg⟩ := hg
    obtain ⟨ia, ra, pa, _⟩ := I.list hq1
    have la := ra.length
    obtain ⟨f0, f1, f2, f3, f4, f5⟩ := hf it (by simp)
    refine wpAny_pyNext_enum_end (I.ok.hd hc) hz h1 pa.isList (by simp; omega) fun h' eb => ⟨rfl, I.turned (t' := s.toks) (fun b o hb e => eb b o hb e) f0 f1 f3 f4 f5⟩
  self := fun _ _ _ _ _ st h => by
    obtain ⟨⟨old, hz⟩, _⟩ := st
    exact wpAny_pyIter_enum hz h
section
variable {X : Cx} {es : List Expr} {k : Nat} {tpos : Pos}
def iEnumL (K : PySem.W.Frag) (ta : TA) : TI := fun σ H R => ta σ H fun vs H1 => ∃ a, vs = [.ref a] ∧ (∃ xs, SqL K H1 a xs) ∧ R (Iel K a) H1
theorem pi_enumL {a : Expr} {ta : TA} {p pos : Pos} (hg : Gl X "enumerate") (hm : X.mg "enumerate" = none) (ha : PA X [a] ta) (hv : bootBuiltins "enumerate" = some (.type "enumerate") := by decide +kernel) (hs : starEach [a] X.env = [(false, eval a X.env)] := by rfl) :
    PI X (.Tuple es k tpos) (.Call (.Name "enumerate" p) [a] [] pos) (iEnumL X.K ta) := by
  intro pins s σ H R I h
  refine Call_ (ld_blt I hg hm hv (PyProof.Rows.callWith_type1 (thn (ha pos pins s σ H _ I h) fun us s1 ⟨vs, H1, I1, r1, q1⟩ => ?_) (by rw [hs]; rfl) (by rfl)))
  obtain ⟨l1, e, ⟨xs, hq1⟩, q⟩ := q1
  subst e
  obtain ⟨u, rfl, ru⟩ := r1.one
  cases ru
  obtain ⟨ia, ra, pa, _⟩ := I1.list hq1
  refine call_enumerate_list pa.isList fun h' a1 a2 a3 kp => ?_
  have I2 : Inv X pins σ H1 { s1 with heap := h' } := I1.kept (t' := s1.toks) kp
  refine wpAny_pyIter_enum a1 ⟨s1.heap.objs.size + 1, [s1.heap.objs.size + 1, s1.heap.objs.size], _, _, H1, rfl, I2, turn_enumL (Nat.ne_of_gt (Nat.lt_succ_self _)), ⟨⟨_, a1⟩, a2⟩, fun b hb => ?_, q⟩
  have hb' : s1.heap.objs.size ≤ b := by
    simp only [List.mem_cons, List.not_mem_nil, or_false] at hb
    rcases hb with rfl | rfl
    · exact Nat.le_add_right _ _
    · exact Nat.le_refl _
  exact I1.fpOk hb' (I1.hok.fresh hb')
theorem pi_enumLK {K : PySem.W.Frag} {a : Expr} {ta : TA} {p pos : Pos} (h : X.K = K) (hg : Gl X "enumerate") (hm : X.mg "enumerate" = none) (ha : PA X [a] ta) (hv : bootBuiltins "enumerate" = some (.type "enumerate") := by decide +kernel) (hs : starEach [a] X.env = [(false, eval a X.env)] := by rfl) :
    PI X (.Tuple es k tpos) (.Call (.Name "enumerate" p) [a] [] pos) (iEnumL K ta) := h ▸ pi_enumL hg hm ha hv hs
end
/-- for i, x in enumerate(xs) -/
theorem for_enumL {K : PySem.W.Frag} {a : Addr} {xs : List V} {g : TG} {tb : TS} {D : Ends} {σ : St} {H : Hp} (Pv : Nat → St → Hp → Prop) (h0 : Pv 0 σ H) (hl : ∀ i σ H, i ≤ xs.length → Pv i σ H → SqL K H a xs)
    (hs : ∀ i x p σ H, xs[i]? = some x → H p = none → Pv i σ H → g (.ref p) σ (upd H p (.tup [.int i, x])) fun σ2 H2 => tb { D with nx := Pv (i + 1), ct := Pv (i + 1), bk := D.nx } σ2 H2) (hd : ∀ σ H, Pv xs.length σ H → D.nx σ H) :
    ∃ W : Nat → Nat → St → Hp → Prop, (∃ m, W 0 m σ H) ∧ ∀ i m σ H, W i m σ H →
      ((Iel K a).stop i H ∧ D.nx σ H) ∨ ((Iel K a).go i H ∧ ∃ N : St → Hp → Prop, (∀ σ' H', N σ' H' → ∃ m', m' < m ∧ W (i + 1) m' σ' H') ∧ ∀ x H', (Iel K a).yld i H x H' → g x σ H' fun σ2 H2 => tb { D with nx := N, ct := N, bk := D.nx } σ2 H2) := by
  refine ⟨fun i m σ H => m = xs.length - i ∧ i ≤ xs.length ∧ Pv i σ H, ⟨xs.length, by simp, Nat.zero_le _, h0⟩, ?_⟩
  rintro i m σ H ⟨rfl, hi, p⟩
  have q := hl i σ H hi p
  by_cases hlt : i < xs.length
  · refine .inr ⟨⟨xs, xs[i], q, by simp [hlt]⟩, Pv (i + 1), fun σ' H' p' => ⟨xs.length - (i + 1), by omega, rfl, hlt, p'⟩, fun x H' y => ?_⟩
    obtain ⟨r, u, hr, e1, rfl, rfl⟩ := y
    exact hs i u r σ H (e1 xs q) hr p
  · have e : i = xs.length := by omega
    subst e
    exact .inl ⟨⟨xs, q, Nat.le_refl _⟩, hd σ H p⟩
/-- [e for i, x in enumerate(xs)] -/
theorem comp_enumG {α : Type} {K : PySem.W.Frag} {l : Addr} {H : Hp} {σ0 : St} {g : TG} {tc : TT} {te : TE} {Q : VK} {vs : List V} (xs : List α) (p : α → Bool) (P : α → V → Hp → Prop) (sh : St → Prop) (hv : SqL K H l vs) (lv : vs.length = xs.length) (hx : xs.length ≤ 1000000) (h0 : sh σ0)
    (hk : ∀ a y Ha Hb, Keeps Ha Hb → P a y Ha → P a y Hb)
    (step : ∀ (i : Nat) a v q σ H', xs[i]? = some a → vs[i]? = some v → sh σ → Same H H' → H' q = none → ∀ (Rf : St → Hp → Prop) (Rt : St → V → Hp → Prop),
      (∀ σ2 H3, p a = false → sh σ2 → Same H' H3 → Rf σ2 H3) → (∀ σ2 y H4, p a = true → sh σ2 → Same H' H4 → P a y H4 → Rt σ2 y H4) →
      g (.ref q) σ (upd H' q (.tup [.int i, v])) fun σ2 H2 => tc σ2 H2 fun b H3 => if b = true then te σ2 H3 (fun y H4 => Rt σ2 y H4) else Rf σ2 H3)
    (hQ : ∀ D H' ys, H D = none → Same H H' → All2 P H' (xs.filter p) ys → H' D = some (.lst ys) → Q (.ref D) H') : CompW (Iel K l) H σ0 g tc te Q := by
  refine comp_gen xs p P sh hx h0 (fun i H' s hi => ⟨vs, vs[i], s.seq hv, by simp [lv, hi]⟩) (fun H' s => ⟨vs, s.seq hv, by omega⟩) hk (fun i a σ x H' H'' ha hσ s hy => ?_) hQ
  obtain ⟨q, v, hq, e1, rfl, rfl⟩ := hy
  exact step i a v q σ H' ha (e1 vs (s.seq hv)) hσ s hq
end L2

set_option linter.all false
set_option maxRecDepth 100000
set_option maxHeartbeats 4000000
/-! tuples of flat items compared, looked for in a list, lists of them compared; a list held against an empty one. -/
namespace L2
open PySem PySem.Spec PyProof.Rows
section
variable {X : Cx} {K : PySem.W.Frag} {pins : List (Addr × Obj)} {s : Shared} {σ : St} {H : Hp} {A : Around}
/-- a list held against one without items -/
def rEqE (K : PySem.W.Frag) (neg : Bool) : R2 := fun x y H Q => ∃ p r xs, x = .ref p ∧ y = .ref r ∧ SqL K H p xs ∧ SqL K H r [] ∧ Q (.bl (if neg then !xs.isEmpty else xs.isEmpty)) H
theorem op_eqE (h : X.K = K) (hu : X.A.units < cLine) : OpR X (compareOp .Eq) (rEqE K false) := by
  subst h
  intro pins s σ H x y v u Q I rx ry h
  obtain ⟨p, r, xs, rfl, rfl, hp, hr, q⟩ := h
  cases xs with
  | nil => exact op_eqL rfl hu pins s σ H _ _ v u Q I rx ry ⟨p, r, [], [], rfl, rfl, hp, hr, rfl, rfl, q⟩
  | cons a t =>
    cases rx; cases ry
    obtain ⟨ia, ra, pa, za⟩ := I.list hp
    obtain ⟨ib, rb, pb, zb⟩ := I.list hr
    have la := ra.length
    have lb := rb.length
    rw [List.length_cons] at la
    rw [List.length_nil] at lb
    exact SeqAt.eq_list_lengthsAt pa.isList pb.isList (by simp; omega) hu ⟨.bl false, H, I, rfl, q⟩
/-- isinstance(t, tuple) -/
theorem call_isTup : CallR X (.builtin "isinstance") (fun xs H Q => ∃ p ys, xs = [.ref p, .ty "tuple"] ∧ H p = some (.tup ys) ∧ Q (.bl true) H) := by
  intro pins s σ H xs us Q I r h
  obtain ⟨p, ys, rfl, hp, q⟩ := h
  obtain ⟨u, v, rfl, r1, r2⟩ := r.two
  cases r1; cases r2
  obtain ⟨_, its, _, o, h1, hc, _⟩ := I.hok p _ hp
  exact PySem.W.kia_one PySem.W.kitx_tuple I.kIn ⟨o, h1, hc⟩ (by rfl) (fun z => nomatch z) fun tk => ⟨.bl true, H, I.tok _, rfl, q⟩
end
end L2

set_option linter.all false
set_option maxRecDepth 100000
set_option maxHeartbeats 4000000
/-! a statement cut off from what follows; what is never reached; list += list; tuples unlike; tuples walked. -/
namespace L2
open PySem PySem.Spec PyProof.Rows
/-- what holds behind a statement is told of its own -/
@[irreducible] def tCut (t : TS) : TS := fun D σ H => ∃ R : St → Hp → Prop, t { D with nx := R } σ H ∧ ∀ σ' H', R σ' H' → D.nx σ' H'
theorem tCut.mk {t : TS} {D : Ends} {σ : St} {H : Hp} (R : St → Hp → Prop) (h : t { D with nx := R } σ H) (h' : ∀ σ' H', R σ' H' → D.nx σ' H') : tCut t D σ H := by unfold tCut; exact ⟨R, h, h'⟩
section
variable {X : Cx} {K : PySem.W.Frag}
theorem ps_cut {st : Stmt} {t : TS} (h : PS X st t) : PS X st (tCut t) := by
  intro pins s σ H D I q
  unfold tCut at q
  obtain ⟨R, h1, h2⟩ := q
  refine thn (h pins s σ H _ I h1) fun f s' z => ?_
  cases f with
  | next => obtain ⟨σ', H', I', r⟩ := z; exact ⟨σ', H', I', h2 σ' H' r⟩
  | brk => exact z
  | cont => exact z
  | ret u => exact z
end
end L2
namespace L2
open PySem PySem.Spec PyProof.Rows
theorem call_str_fig {X : Cx} : CallR X (.type "str") (fun xs H Q => ∃ i : Int, xs = [.int i] ∧ 0 ≤ i ∧ i ≤ 9 ∧ Q (T [48 + i.toNat]) H) := by
  intro pins s σ H xs us Q I r h
  obtain ⟨i, rfl, h0, h1, q⟩ := h
  exact call_str_intT pins s σ H _ us Q I r ⟨i.toNat, by rw [Int.toNat_of_nonneg h0], by omega, q⟩
section
variable {α β : Type} {H : Hp}
end
end L2

set_option linter.all false
set_option maxRecDepth 100000
set_option maxHeartbeats 4000000
/-! exceptions of own classes: an exception leaves a def, and the defs that called it. -/
namespace L2
open PySem PySem.Spec PyProof.Rows
/-- what holds behind a call that raised an exception of the class at C: what lay there and what is tracked is kept by B while it flies -/
def CX1 (P : Program) (w : World) : CXT := fun outer H s E ev s' => ∃ (a C : Addr) (a0 : Value) (H' : Hp) (B : Heap), ev = .ref a ∧ s'.os = s.os ∧ AllBare s'.gens ∧ Un (frs outer) [] H H' s.heap s'.heap ∧ HOk P w H' s'.heap ∧
  Heap.FlyingW B outer a (.ref C) a0 s'.heap ∧ (∀ b o, s.heap.get? b = some o → H b = none → b ∉ frs outer → B.get? b = some o) ∧ (∀ b o u, H' b = some u → s'.heap.get? b = some o → B.get? b = some o) ∧
  (∀ b o, s.heap.get? b = some o → b ∉ frs outer → ∃ o', B.get? b = some o') ∧ H' a = none ∧ E (.ref C) none H'
theorem hobj_there {P : Program} {w : World} {H : Hp} {h : Heap} {a : Addr} {o : HO} (x : ObjOk P w H h a o) : ∃ ob, h.get? a = some ob := by
  cases o with
  | lst xs => obtain ⟨_, _, _, _, e⟩ := x; exact ⟨_, e⟩
  | tup xs => obtain ⟨_, _, _, o, e, _⟩ := x; exact ⟨_, e⟩
  | dK kvs => obtain ⟨_, _, _, _, o, _, _, e, _⟩ := x; exact ⟨_, e⟩
  | dT kvs => obtain ⟨_, _, _, _, o, _, _, e, _⟩ := x; exact ⟨_, e⟩
  | set S n => obtain ⟨o, _, _, _, e, _⟩ := x; exact ⟨_, e⟩
  | ins C dx fs => obtain ⟨_, _, _, e, _⟩ := x; exact ⟨_, e⟩
  | own y => exact x
  | xd fs => obtain ⟨_, ⟨_, _, _, e, _⟩, _⟩ := x; exact ⟨_, e⟩
  | rng lo hi => obtain ⟨_, _, _, e⟩ := x; exact ⟨_, e⟩
  | frz ob u => obtain ⟨e, _⟩ := x; exact ⟨_, e⟩
  | tbl ps => exact ⟨_, (show h.get? a = some _ from x)⟩
  | met f y => exact ⟨_, (show h.get? a = some _ from x)⟩
  | ext φ => obtain ⟨_, e, _⟩ := x; exact e
section
variable {X : Cx} {pins : List (Addr × Obj)} {σ : St} {H : Hp} {s : Shared} {E : XK} {Ex : Value → Shared → Prop}
/-- what is old in the frame's eyes is none of the frames that run but a caller's -/
theorem Inv.oldfr (I : Inv X pins σ H s) {b : Addr} {o : Obj} (q : X.s₀.heap.get? b = some o) (hb : b ∈ frs X.stack) : b ∈ X.fs := by
  rcases List.mem_cons.mp (I.stkSub b hb) with e | e
  · exact absurd (Nat.lt_of_lt_of_le (Heap.lt_size q) I.ok.above) (by rw [e]; exact Nat.lt_irrefl _)
  · exact e
/-- raised here: it leaves the def -/
theorem raise_leaves (I : Inv X pins σ H s) (hex : X.ex = []) (hst : X.stack = X.env :: X.outer) (hfr : X.env.frame = some X.env.locals) {h' : Heap} {e C : Addr} {vs : List Value} (hx : Heap.MadeExcOf s.heap h' e (.ref C) vs) (q : E (.ref C) none H) :
    wpAny (model X.prog X.w) X.A (leaving X.env (.ref e)) (fun _ s'' => CX1 X.prog X.w X.outer X.H₀ X.s₀ E (.ref e) s'') Ex { s with heap := h' } := by
  have hs := I.stack
  rw [hst] at hs
  have nex : ∀ b : Addr, b ∉ X.ex := fun b z => by rw [hex] at z; simp at z
  refine wpAny_leaves_madeW (base := PySem.W.hideAll s.heap (frs (X.env :: X.outer))) (h := s.heap) (by rw [I.ok.frames, hst]) hfr (fun b o q => PySem.W.of_hideAll _ q) (PySem.W.funFrames_hide hs fun env he b hb => List.mem_filterMap.mpr ⟨env, he, hb⟩) hx fun h2 t x1 x2 x3 x4 => ?_
  replace x4 : h'.UpToSlots h2 := x4
  have inB : ∀ b o, s.heap.get? b = some o → b ∉ frs X.stack → (PySem.W.hideAll s.heap (frs (X.env :: X.outer))).get? b = some o := fun b o q nb => PySem.W.hideAll_get _ q (by rw [← hst]; exact nb)
  have prot : ∀ b o, s.heap.get? b = some o → b ∉ frs X.stack → h2.get? b = some o := fun b o q nb => x1.1 b o (inB b o q nb)
  have slots : ∀ b o, s.heap.get? b = some o → b ∈ X.fs → ∃ sl, h2.get? b = some { o with slots := sl } := fun b o q hb => by
    obtain ⟨_, o', ho', hd⟩ := I.funs.mem hb
    rw [q] at ho'
    cases ho'
    exact x4 b o (hx.keeps b o q) hd
  have trk : ∀ b u, H b = some u → b ∉ frs X.stack := fun b u e hb => by rw [I.stkFree b hb] at e; cases e
  refine ⟨e, C, .ref t, H, _, rfl, I.os, I.bare, ⟨fun b o q n nb _ => ?_, fun b o q n hb _ => ?_, fun b o q n _ => I.base.free b o q n (nex b), fun b o q _ => ?_, I.base.tups, I.base.frzs, I.base.tbls⟩, fun b u e => ?_, x1, fun b o q n nb => ?_, fun b o u e q => ?_, fun b o q nb => ?_, ?_, q⟩
  · exact prot b o (I.base.keep b o q n nb (nex b)) fun z => nb (I.oldfr q z)
  · obtain ⟨sl, e1⟩ := I.base.slot b o q n hb (nex b)
    obtain ⟨sl2, e2⟩ := slots b _ e1 hb
    exact ⟨sl2, e2⟩
  · obtain ⟨o', e1⟩ := I.base.there b o q (nex b)
    by_cases hb : b ∈ frs X.stack
    · obtain ⟨sl, e2⟩ := slots b o' e1 (I.oldfr q hb)
      exact ⟨_, e2⟩
    · exact ⟨o', prot b o' e1 hb⟩
  · refine (I.hok b u e).stay (fun c o hc q => ?_) (fun _ q => q) fun _ _ q => q
    rcases hc with rfl | hc
    · exact prot c o q (trk c _ e)
    · exact prot c o q (trk c _ hc)
  · exact inB b o (I.base.keep b o q n nb (nex b)) fun z => nb (I.oldfr q z)
  · obtain ⟨o', e1⟩ := hobj_there (I.hok b u e)
    have e2 := prot b o' e1 (trk b u e)
    have q' : h2.get? b = some o := q
    rw [e2] at q'
    cases q'
    exact inB b o e1 (trk b u e)
  · obtain ⟨o', e1⟩ := I.base.there b o q (nex b)
    exact ⟨o', inB b o' e1 fun z => nb (I.oldfr q z)⟩
  · cases q' : H e with
    | none => rfl
    | some u =>
      obtain ⟨o, e1⟩ := hobj_there (I.hok e u q')
      rw [hx.new] at e1
      cases e1
end
end L2

set_option linter.all false
set_option maxRecDepth 100000
set_option maxHeartbeats 4000000
/-! defs that may raise: their bundles, raise, and calls that pass an exception on. -/
namespace L2
open PySem PySem.Spec PyProof.Rows
/-- an own class below ValueError, made plainly -/
abbrev veTail : List Value := [.type "ValueError", .type "Exception", .type "BaseException", .type "object"]
def XCls (K : PySem.W.Frag) (C : Addr) : Prop := PySem.W.excIn K C veTail "ValueError.__new__" = true
theorem XCls.at {K : PySem.W.Frag} {C : Addr} {h : Heap} (q : XCls K C) (X : K.In h) :
    ∃ bm N nm q bs hdct sn sub ab col dd k0 k1 k2 k3 k5 mN, h.get? C = some (excClassObj nm q C N bs bm hdct sn sub ab col dd k0 k1 k2 k3 k5 "ValueError.__new__") ∧ h.Ns N mN ∧ mN "__init__" = none ∧ OwnTail h veTail bm := by
  unfold XCls PySem.W.excIn at q
  split at q
  · rename_i dd cd sl ho
    split at q
    · rename_i C' bm k0 k1 k2 k3 n k5 hm hs
      simp only [Bool.and_eq_true, beq_iff_eq, Bool.not_eq_true'] at q
      obtain ⟨⟨⟨⟨⟨rfl, rfl⟩, hdel⟩, ht⟩, hok⟩, hni⟩ := q
      obtain ⟨nm, bs, mro, ns, qn, hd, sn, sub, ab, col, del⟩ := cd
      dsimp only at hm hdel hok hni
      subst hm hdel
      have hsl : sl = #[k0, k1, k2, k3, some (.builtin "ValueError.__new__"), k5] := by
        obtain ⟨l⟩ := sl
        simp only at hs
        rw [hs]
      subst hsl
      exact ⟨bm, ns, nm, qn, bs, hd, sn, sub, ab, col, dd, k0, k1, k2, k3, k5, _, X _ _ ho, .of_isNs (PySem.W.isNs_of_in X hok), PySem.W.nsMap_none_of_in X hok hni, PySem.W.tail_of_in X ht⟩
    · cases q
  · cases q

/-- this body hands its exceptions to its caller, as CX1 says -/
structure Rs (X : Cx) (E : XK) : Prop where
  xe : X.xe = fun e s' => wpAny (model X.prog X.w) X.A (leaving X.env e) (fun _ s'' => CX1 X.prog X.w X.outer X.H₀ X.s₀ E e s'') (fun e' s'' => CX1 X.prog X.w X.outer X.H₀ X.s₀ E e' s'') s'
  ex : X.ex = []
  st : X.stack = X.env :: X.outer
  fr : X.env.frame = some X.env.locals
  cm : X.calm = true
theorem rs_of {P : Program} {w : World} {K : PySem.W.Frag} {mg : Str → Option Value} {base : Heap} {N : List Str} {qual : Str} {scope : Scope} {f : Addr} {cd : Value} {A : Around} {outer : List Env} {s : Shared} {H : Hp} {E : XK} :
    Rs (cxOf (CX1 P w) P w K mg base N qual scope f cd A outer s H E) E := ⟨rfl, rfl, rfl, rfl, rfl⟩
theorem Rs.own {X : Cx} {E : XK} (R : Rs X E) : PassesOwn (model X.prog X.w) X.A X.env X.xe := by rw [R.xe]; exact PassesOwn.leaving
/-- raise C(e, ..) -/
def tRaise (C : Addr) (E : XK) (t : TA) : TS := fun _ σ H => t σ H fun vs H1 => vs.length ≤ sizeLine ∧ E (.ref C) none H1
theorem ps_raise {X : Cx} {E : XK} {x : Str} {C : Addr} {np cpos pos : Pos} {e : Expr} {es : List Expr} {t : TA} (R : Rs X E) (hx : XCls X.K C) (hm : X.mg x = some (.ref C)) (ha : PA X (e :: es) t) (hg : Gl X x := by rfl) (hdb : (x == ("__debug__" : Str)) = false := by decide)
    (he : starEach (e :: es) X.env = (false, eval e X.env) :: starEach es X.env := by rfl) (hpl : (backTo cpos (starEach es X.env)).any (·.1) = false := by rfl) :
    PS X (.Raise (some (.Call (.Name x np) (e :: es) [] cpos)) none pos) (tRaise C E t) := by
  intro pins s σ H D I h
  obtain ⟨bm, N, nm, q, bs, hdct, sn, sub, ab, col, dd, k0, k1, k2, k3, k5, mN, e1, e2, e3, e4⟩ := hx.at I.mod.kin
  refine wpAny_Raise_call_subT (C := C) (nm := nm) (q := q) (N := N) (bs := bs) (bm := bm) (hdct := hdct) (sn := sn) (sub := sub) (ab := ab) (col := col) (dd := dd) (k0 := k0) (k1 := k1) (k2 := k2) (k3 := k3) (k5 := k5) (newId := "ValueError.__new__") (mN := mN) PySem.F.excBase_ValueError (e4.hasType (by decide)) (I.ok.hd R.cm)
    (by rw [he]; show (false || (backTo cpos (starEach es X.env)).any (·.1)) = false; rw [hpl]; rfl) e3 (ld_glob I hg hm ⟨rfl, ?_⟩ hdb)
  have hh := ha cpos pins s σ H _ I h
  rw [he] at hh ⊢
  refine Calls.evalArgs_plain (thn hh fun us s1 ⟨vs, H1, I1, r, hl, q⟩ => ⟨rfl, by rw [← r.length]; exact hl, I1.bk _ _ e1, e2.keeps I1.bk, e4.keeps I1.bk, fun h' e hm => ?_⟩)
  rw [R.xe]
  exact raise_leaves I1 R.ex R.st R.fr hm q

/-! ### bundles of defs that may raise -/
def MtX (P : Program) (w : World) (K : PySem.W.Frag) (mg : Str → Option Value) (base : Heap) (C : Addr) (m : Str) (k : Nat) (ps : List Str) (sp : Sp) : Prop :=
  ∃ f fd, FnOk P w K mg base (CX1 P w) k f fd ps sp ∧ Cls K C ∧ Meth K C m f ∧ Binds K fd ps []
section
variable {P : Program} {w : World} {K : PySem.W.Frag} {mg : Str → Option Value} {base : Heap}
theorem MF.x {C : Addr} {m qual : Str} {st : Stmt} {N ps : List Str} {k : Nat} {sp : Sp} (F : MF K C m qual st) (cl : Cls K C) (S : FnScope N ps (defScope st))
    (bnd : ∀ (kV doc pm : Value) (an : Option Addr) (cdv ct : Value) (us : List Value), us.length = ps.length → bindArgs (PySem.W.fnOf m qual (defArgs st) (defBody st) (defScope st) .none kV doc pm an cdv ct) ⟨us, []⟩ = pure (ps.zip us))
    (len : ∀ vs H Q E, sp vs H Q E → vs.length = ps.length)
    (hbody : ∀ (f : Addr) (cdv : Value) (A : Around) (outer : List Env) (s : Shared) (H : Hp) (vs : List V) (Q : VK) (E : XK), Room k (A.deeper (envOfC qual (defScope st) s.heap.objs.size f cdv)) → sp vs H Q E →
      ∃ t, PSs (cxOf (CX1 P w) P w K mg base N qual (defScope st) f cdv A outer s H E) (defBody st) t ∧ t { nx := fun _ H' => Q .non H', rt := Q } (start N vs) H) : MtX P w K mg base C m (k + 1) ps sp := by
  obtain ⟨f, fd, F, mm⟩ := F
  refine ⟨f, fd, ?_, cl, mm, F.binds bnd⟩
  obtain ⟨oc, od, kV, doc, pm, an, cdv, ct, osl, rfl, lk, hcd⟩ := F.ex
  exact fn_of lk hcd S len fun A outer s H vs Q E hr hsp => hbody f cdv A outer s H vs Q E hr hsp
end
section
variable {X : Cx} {x m : Str} {k : Nat} {ps : List Str} {sp : Sp} {C : Addr} {p pos apos : Pos} {e o : Expr} {es : List Expr} {t : TA} {to : TE} {E : XK}
theorem pe_mtX {pl : Sem Bool} (G : MtX X.prog X.w X.K X.mg X.base C m k ps sp) (hr : Room k X.A) (hx : Passes (CX1 X.prog X.w) X E) (ho : PE X o to) (ha : PA X (e :: es) t)
    (hst : starEach (e :: es) X.env = (false, eval e X.env) :: starEach es X.env := by rfl) (hpl : (backTo pos (starEach es X.env)).any (·.1) = false := by rfl)
    (ht : eval (.Call (.Attribute o m apos) (e :: es) [] pos) X.env = (do
      let ov ← eval o X.env
      standAt apos.atName
      let (f, first) ← holding [ov] (getMethod ov m pl)
      callWith pos f first (backTo pos (starEach (e :: es) X.env)) (backToKw pos (keywordEach [] X.env))) := by rfl) :
    PE X (.Call (.Attribute o m apos) (e :: es) [] pos) (tMeth C m sp [] E to t) := by
  obtain ⟨f, fd, a, b, c, d⟩ := G
  exact pe_meth (pl := pl) ho b c a hr d .nil hx ha hst hpl ht
end
end L2

set_option linter.all false
set_option maxRecDepth 100000
set_option maxHeartbeats 4000000
/-! isinstance of exceptions of own classes. -/
namespace L2
open PySem PySem.Spec PyProof.Rows
section
variable {prog : Program} {w : World} {A : Around} {E : Value → Shared → Prop} {K : PySem.W.Frag} {x C : Addr} {h : Heap} {g : Array GenState} {d : Drawn} {t : Nat} {os : OsState} {o : Obj}
/-- what is known of the class of an exception -/
structure XTy (K : PySem.W.Frag) (C : Addr) : Prop where
  ga : PySem.W.findIn K (.ref C) "__getattribute__" = some (some (.builtin "BaseException.__getattribute__"))
  gn : PySem.W.findIn K (.ref C) "__getattr__" = some none
  cl : PySem.W.findIn K (.ref C) "__class__" = some (some (.builtin "object.__class__"))
  mo : PySem.W.mroIn K C (.type "object") = some true
  mb : PySem.W.mroIn K C (.type "BaseException") = some true
theorem xt_get {R : Result → Shared → Prop} (X : K.In h) (T : XTy K C) (hx : h.get? x = some o) (hc : o.cls = .ref C) (hq : R (.ok (.ret (.ref C))) ⟨h, g, d, t, os⟩) :
    codeAny (model prog w) A (.call (.builtin "getset_descriptor.__get__") ⟨[.builtin "object.__class__", .ref x, .ref C], []⟩) R ⟨h, g, d, t, os⟩ := by
  have hT5 : (⟨h, g, d, t, os⟩ : Shared).TypeIs (.builtin "object.__class__") "getset_descriptor" := F.typeOf_object_class
  have L0 : PySem.W.Looks (model prog w) h (typeOf (.ref x)) (.ref C) := hc ▸ (PySem.W.Looks.ld hx).andThen .now
  have L1 : PySem.W.Looks (model prog w) h (isSubtype (.ref C) (.type (".".intercalate ("object.__class__".cutAt '.').dropLast))) true := by rw [F.owner_object_class]; exact PySem.W.looks_mroIn X T.mo
  refine codeAny_call_builtin F.slot_gs_get.plain F.entry_gs_get (F.slot_gs_get.check _ _ _ _ _ _ _ _ hT5 (F.args_gs_get _ _ _) ?_)
  repeat (any_goals (first | assumption | with_reducible refine L0.at ?_ | with_reducible refine L1.at ?_ | wp_step))
  refine ⟨Code.quiet_builtin _ (by decide +kernel), codeAny_builtin F.entry_object_class ?_⟩
  repeat (any_goals (first | assumption | with_reducible refine L0.at ?_ | with_reducible refine L1.at ?_ | wp_step))
theorem xt_entry {tk : Tok} {Q : Fin → Shared → Prop} (X : K.In h) (T : XTy K C) (hx : h.get? x = some o) (hc : o.cls = .ref C) (hq : Q (.done (.ret (.ref C))) ⟨h, g, d, t, os⟩) :
    wpAny (model prog w) A (Builtin.«object.__getattribute__» ⟨[.ref x, .str "__class__" tk], []⟩) Q E ⟨h, g, d, t, os⟩ := by
  have hT5 : (⟨h, g, d, t, os⟩ : Shared).TypeIs (.builtin "object.__class__") "getset_descriptor" := F.typeOf_object_class
  have L0 : PySem.W.Looks (model prog w) h (typeOf (.ref x)) (.ref C) := hc ▸ (PySem.W.Looks.ld hx).andThen .now
  have L2 := PySem.W.looks_findIn (M := model prog w) X T.cl
  have f5 := F.typeOf_object_class
  have f6 := F.slot_gs_get.lookup
  have f7 := F.slot_gs_set.lookup
  repeat (any_goals (first | assumption | with_reducible refine L0.at ?_ | with_reducible refine L2.at ?_ | wp_step))
  refine xt_get X T hx hc ?_
  repeat (any_goals (first | assumption | wp_step))
theorem xt_check {M : Model} {nameV : Value} {Q : Unit → Shared → Prop} (X : K.In h) (T : XTy K C) (hx : h.get? x = some o) (hc : o.cls = .ref C) (hq : Q () ⟨h, g, d, t, os⟩) : wpAny M A (checkBuiltinCall "BaseException.__getattribute__" ⟨[.ref x, nameV], []⟩) Q E ⟨h, g, d, t, os⟩ := by
  have hk : builtinKind "BaseException.__getattribute__" = some .slot := by decide +kernel
  have hsplit : splitId "BaseException.__getattribute__" = some ("BaseException", "__getattribute__") := by decide +kernel
  have ha := F.args_bexc_ga (.ref x) nameV
  have L0 : PySem.W.Looks M h (typeOf (.ref x)) (.ref C) := hc ▸ (PySem.W.Looks.ld hx).andThen .now
  have L1 : PySem.W.Looks M h (isSubtype (.ref C) (.type "BaseException")) true := PySem.W.looks_mroIn X T.mb
  simp only [checkBuiltinCall, hk, hsplit]
  refine wpAny_bind ?_
  · unfold isInstance
    repeat (first | with_reducible refine L0.at ?_ | with_reducible refine L1.at ?_ | wp_step)
    exact hq
theorem xt_call {tk : Tok} {R : Result → Shared → Prop} (X : K.In h) (T : XTy K C) (hx : h.get? x = some o) (hc : o.cls = .ref C) (hq : R (.ok (.ret (.ref C))) ⟨h, g, d, t, os⟩) :
    codeAny (model prog w) A (.call (.builtin "BaseException.__getattribute__") ⟨[.ref x, .str "__class__" tk], []⟩) R ⟨h, g, d, t, os⟩ :=
  codeAny_call_builtin F.attr_ValueError.ga.plain F.entry_bexc_ga (xt_check X T hx hc (xt_entry X T hx hc hq))
theorem xt_by {tk : Tok} {Q : Value → Shared → Prop} (X : K.In h) (T : XTy K C) (hx : h.get? x = some o) (hc : o.cls = .ref C) (hq : Q (.ref C) ⟨h, g, d, t, os⟩) :
    wpAny (model prog w) A (getAttrBy (.ref x) (.str "__class__" tk) false) Q E ⟨h, g, d, t, os⟩ := by
  have f3 := F.attr_ValueError.ga.bind (.ref x)
  have hx2 : (Value.builtin "BaseException.__getattribute__" == Value.builtin "object.__getattribute__") = false := by decide +kernel
  have hx1 : (onTheHeap (Value.ref C) && Value.builtin "BaseException.__getattribute__" == Value.builtin "object.__getattribute__") = false := by rw [hx2]; rfl
  have L0 : PySem.W.Looks (model prog w) h (typeOf (.ref x)) (.ref C) := hc ▸ (PySem.W.Looks.ld hx).andThen .now
  have L1 := PySem.W.looks_findIn (M := model prog w) X T.ga
  have L2 := PySem.W.looks_findIn (M := model prog w) X T.gn
  repeat (any_goals (first | assumption | with_reducible refine L0.at ?_ | with_reducible refine L1.at ?_ | with_reducible refine L2.at ?_ | wp_step))
  refine xt_call X T hx hc ?_
  repeat (any_goals (first | assumption | wp_step))
theorem xt_attr {Q : Option Value → Shared → Prop} (X : K.In h) (T : XTy K C) (hx : h.get? x = some o) (hc : o.cls = .ref C) (hq : Q (some (.ref C)) ⟨h, g, d, t + 1, os⟩) : wpAny (model prog w) A (getAttr? (.ref x) "__class__") Q E ⟨h, g, d, t, os⟩ := by
  unfold getAttr? getAttrBy?
  repeat (any_goals (first | assumption | with_reducible apply xt_by X T hx hc | wp_step))
theorem kitx_exc (T : XTy K C) (hz : (PySem.W.clsIn K C).isSome = true) : PySem.W.KitX K (.ref x) (.ref C) (fun h => ∃ o, h.get? x = some o ∧ o.cls = .ref C) where
  ty := fun M h _ ⟨o, h1, h2⟩ => h2 ▸ (PySem.W.Looks.ld h1).andThen .now
  it := fun _ _ X _ => by
    unfold PySem.W.clsIn at hz
    split at hz
    · rename_i c' d' cd' sl' ho
      intro A' Q' E' s' k q
      unfold isType loadHead
      exact wpAny_bind (wpAny_loadPart (k _ _ (X _ _ ho)) (wpAny_pure q))
    · cases hz
  ne := fun h tp dd its n sl X htp => by
    refine Bool.eq_false_iff.mpr fun q => ?_
    have e : C = tp := Value.ref.inj (beq_iff_eq.mp q)
    subst e
    unfold PySem.W.clsIn at hz
    split at hz
    · rename_i c' d' cd' sl' ho
      have z := (X _ _ ho).symm.trans htp
      cases z
    · cases hz
  ca := fun {_ _ _ _ _ s} X p k => by
    obtain ⟨h, g, d, t, os⟩ := s
    obtain ⟨o, h1, h2⟩ := p
    exact xt_attr X T h1 h2 k
end
end L2

set_option linter.all false
set_option maxRecDepth 100000
set_option maxHeartbeats 4000000
/-! try: one statement that may raise; except C as n. -/
namespace L2
open PySem PySem.Spec PyProof.Rows
/-- an exception of the class at C, told by its class alone -/
def XO (a C : Addr) : HO := .ext fun h => ∃ o, h.get? a = some o ∧ o.cls = .ref C
theorem XO.ok {P : Program} {w : World} {H : Hp} {h : Heap} {a C : Addr} (q : ∃ o, h.get? a = some o ∧ o.cls = .ref C) : ObjOk P w H h a (XO a C) :=
  ⟨q, let ⟨o, e, _⟩ := q; ⟨o, e⟩, fun _ _ ⟨o, e, c⟩ k => ⟨o, k o e, c⟩⟩
section
variable {X : Cx} {pins : List (Addr × Obj)} {σ : St} {H : Hp} {s : Shared}
/-- landed: the exception is tracked from here on -/
theorem cx_land (I : Inv X pins σ H s) {a C : Addr} {a0 : Value} {H' : Hp} {B h' : Heap} {s' : Shared} (os : s'.os = s.os) (bare : AllBare s'.gens) (un : Un (frs X.stack) [] H H' s.heap s'.heap) (hok : HOk X.prog X.w H' s'.heap)
    (fl : Heap.FlyingW B X.stack a (.ref C) a0 s'.heap) (g1 : ∀ b o, s.heap.get? b = some o → H b = none → b ∉ frs X.stack → B.get? b = some o) (g2 : ∀ b o u, H' b = some u → s'.heap.get? b = some o → B.get? b = some o)
    (g3 : ∀ b o, s.heap.get? b = some o → b ∉ frs X.stack → ∃ o', B.get? b = some o') (na : H' a = none) (fl' : Heap.FlyingW B X.stack a (.ref C) a0 h') (sm : s'.heap.UpToSlots h') :
    Inv X pins σ (upd H' a (XO a C)) { s' with heap := h' } := by
  have frn : a ∉ frs X.stack := fun hb => by
    obtain ⟨_, o, ho, hd⟩ := fl'.2.2.1.mem hb
    obtain ⟨oe, vs, he, _, hde, _⟩ := fl'.first
    rw [he] at ho
    cases ho
    exact hd vs hde
  have ne : ∀ b o, s.heap.get? b = some o → b ≠ a := fun b o q e => by
    subst e
    obtain ⟨o', e⟩ := g3 b o q frn
    rw [fl.2.1] at e
    cases e
  have neH : ∀ b u, H' b = some u → b ≠ a := fun b u q e => by subst e; rw [na] at q; cases q
  have up : ∀ b, b ≠ a → upd H' a (XO a C) b = H' b := fun b e => by unfold upd; rw [if_neg e]
  refine I.call' (ch := []) os ⟨fun b o q n nb _ => fl'.1 b o (g1 b o q n nb), fun b o q n hb _ => ?_, fun b o q n _ => ?_, fun b o q _ => ?_, fun b xs e => ?_, fun b o u e => ?_, fun b ps e => ?_⟩ (fun b u e => ?_) bare (fun b z => absurd z (by simp))
  · obtain ⟨sl, e1⟩ := un.slot b o q n hb (by simp)
    obtain ⟨_, o', ho', hd⟩ := fl.2.2.1.mem hb
    rw [e1] at ho'
    cases ho'
    obtain ⟨sl2, e2⟩ := sm b _ e1 hd
    exact ⟨sl2, e2⟩
  · rw [up b (ne b o q)]
    exact un.free b o q n (by simp)
  · by_cases hb : b ∈ frs X.stack
    · obtain ⟨_, o', ho', _⟩ := fl'.2.2.1.mem hb
      exact ⟨o', ho'⟩
    · obtain ⟨o', e⟩ := g3 b o q hb
      exact ⟨o', fl'.1 b o' e⟩
  · have z := un.tups b xs e
    rw [up b (neH b _ z)]
    exact z
  · have z := un.frzs b o u e
    rw [up b (neH b _ z)]
    exact z
  · obtain ⟨m, z⟩ := un.tbls b ps e
    exact ⟨m, by rw [up b (neH b _ z)]; exact z⟩
  · by_cases hb : b = a
    · subst hb
      unfold upd at e
      rw [if_pos rfl] at e
      cases e
      exact XO.ok fl'.there
    · rw [up b hb] at e
      refine (hok b u e).stay (fun c o hc q => ?_) (fun c q => by rw [up c (neH c _ q)]; exact q) fun c xs q => by rw [up c (neH c _ q)]; exact q
      rcases hc with rfl | hc
      · exact fl'.1 c o (g2 c o _ e q)
      · exact fl'.1 c o (g2 c o _ hc q)
/-- within an except suite -/
abbrev Cx.sui (X : Cx) (a : Addr) : Cx := { X with A := X.A.mark (some (.ref a)), calm := false, xe := fun _ _ => False }
theorem Inv.sui (I : Inv X pins σ H s) (a : Addr) : Inv (X.sui a) pins σ H s :=
  ⟨⟨I.ok.mod, I.ok.kind, I.ok.glob, I.ok.blt, I.ok.above, I.ok.inj, I.ok.has, I.ok.cab, (fun z => nomatch z), I.ok.frames, I.ok.stk, I.ok.exf, I.ok.bs, I.ok.bsz, I.ok.noex, I.ok.exfs, I.ok.funs, I.ok.frf⟩, I.os, I.bare, I.base, I.loc, I.cell, I.free, I.freeC, I.pin, I.hok, I.len⟩
theorem Inv.unsui {a : Addr} (ok : X.Ok) (I : Inv (X.sui a) pins σ H s) : Inv X pins σ H s := ⟨ok, I.os, I.bare, I.base, I.loc, I.cell, I.free, I.freeC, I.pin, I.hok, I.len⟩
/-- behind the suite: the name goes -/
theorem name_goes {M : Model} {A : Around} {E : Value → Shared → Prop} {i : Nat} {x : Str} {hp : Pos} {Q : Unit → Shared → Prop} (I : Inv X pins σ H s) (hN : X.N.Nodup) (hi : X.N[i]? = some x) (hk : X.env.scope.names.lookup x = some .local)
    (h : ∀ s', Inv X pins (σ.set i none) H s' → Q () s') : wpAny M A (do bindName X.env x .none; unbindBehindTheSuite X.env x hp) Q E s := by
  obtain ⟨m, hn, hl⟩ := id I.loc
  have hcls : (X.env.scope.kind == .class || (X.env.scope.kind == .module && X.env.locals != X.env.globals)) = false := by rw [I.ok.kind]; rfl
  refine wpAny_nameGoes_keeps hk hn hcls fun h' v hn' hs => h _ ?_
  obtain ⟨oL, _, _, hoL, _⟩ := id hn
  have ne0 : ∀ b o, X.s₀.heap.get? b = some o → b ≠ X.env.locals := fun b o e => Nat.ne_of_lt (Nat.lt_of_lt_of_le (Heap.lt_size e) I.ok.above)
  refine ⟨I.ok, I.os, I.bare, ⟨fun b o e n hb hx => (hs.2 b (ne0 b o e)).trans (I.base.keep b o e n hb hx), fun b o e n hb hx => ?_, I.base.free, fun b o e hx => ?_, I.base.tups, I.base.frzs, I.base.tbls⟩, ⟨_, hn', fun j y v' e1 e2 e3 => ?_⟩, fun y c e => ?_, I.free, I.freeC, fun p hp => ?_, fun b ob e => ?_, by simpa using I.len⟩
  · obtain ⟨sl, e1⟩ := I.base.slot b o e n hb hx
    exact ⟨sl, (hs.2 b (ne0 b o e)).trans e1⟩
  · obtain ⟨o', e1⟩ := I.base.there b o e hx
    exact ⟨o', (hs.2 b (ne0 b o e)).trans e1⟩
  · have hj : j ≠ i := fun hj => by
      subst hj
      have hiσ : j < σ.length := by rw [I.len]; exact (List.getElem?_eq_some_iff.mp hi).1
      rw [List.getElem?_set_self hiσ] at e2
      cases e2
    rw [List.getElem?_set_ne (Ne.symm hj)] at e2
    obtain ⟨u', r', q⟩ := hl j y v' e1 e2 e3
    refine ⟨u', r', ?_⟩
    rcases q with ⟨k, e⟩ | ⟨k, c, e, z⟩
    · refine .inl ⟨k, ?_⟩
      have : y ≠ x := fun e => hj (nodup_ix hN e1 (e ▸ hi))
      simp [this, e]
    · exact .inr ⟨k, c, e, z.sameBut hs (I.cne y c e)⟩
  · obtain ⟨w', z⟩ := I.cell y c e
    exact ⟨w', z.sameBut hs (I.cne y c e)⟩
  · obtain ⟨e, n, ne, nf, d⟩ := I.pin p hp
    exact ⟨(hs.2 p.1 ne).trans e, n, ne, nf, d⟩
  · refine (I.hok b ob e).stay (fun c w' hc q => (hs.2 c ?_).trans q) (fun _ q => q) fun _ _ q => q
    rintro rfl
    rcases hc with z | hc
    · rw [← z, I.free] at e; cases e
    · rw [I.free] at hc; cases hc
end
/-! ### one statement that may raise -/
def PEX (X : Cx) (e : Expr) (t : XK → TE) : Prop :=
  ∀ (pins : List (Addr × Obj)) (s : Shared) (σ : St) (H : Hp) (Q : VK) (E : XK) (Ex : Value → Shared → Prop), Inv X pins σ H s → t E σ H Q → (∀ ev s1 H1 s0, Inv X pins σ H1 s0 → CX1 X.prog X.w X.stack H1 s0 E ev s1 → Ex ev s1) →
    wpAny (model X.prog X.w) X.A (eval e X.env) (EP X pins σ Q) Ex s
def PBX (X : Cx) (b : List Stmt) (t : XK → TS) : Prop :=
  ∀ (pins : List (Addr × Obj)) (s : Shared) (σ : St) (H : Hp) (D : Ends) (E : XK) (Ex : Value → Shared → Prop), Inv X pins σ H s → t E D σ H → (∀ ev s1 H1 s0, Inv X pins σ H1 s0 → CX1 X.prog X.w X.stack H1 s0 E ev s1 → Ex ev s1) →
    wpAny (model X.prog X.w) X.A (execs b X.env) (SP X pins D) Ex s
section
variable {X : Cx} {x m : Str} {k : Nat} {ps : List Str} {sp : Sp} {C : Addr} {p pos apos : Pos} {e o : Expr} {es : List Expr} {t : TA} {to : TE}
theorem AP.unwish {pins : List (Addr × Obj)} {σ : St} {Q : List V → Hp → Prop} {E : Value → Shared → Prop} {us : List Value} {s : Shared} (h : AP (X.wish E) pins σ Q us s) : AP X pins σ Q us s := by
  obtain ⟨vs, H', I, r, q⟩ := h
  exact ⟨vs, H', I.unwish, r, q⟩
/-- f(..) -/
theorem pbx_expr {te : XK → TE} (he : PEX X e te) (hs : swapsWith e none pos.line X.env = pure false := by rfl) : PBX X [.Expr e pos] (fun E => tDrop (te E)) := by
  intro pins s σ H D E Ex I h hx
  refine wpAny_execs_cons (wpAny_Expr_any (thn (he pins s σ H _ E Ex I h hx) fun v s1 ⟨x, H1, I1, r1, q1⟩ => ?_) I.quiet hs)
  exact wpAny_execs_nil ⟨σ, H1, I1, q1⟩
end
/-- try: .. except CB as n: .. -/
def tTryX (K : PySem.W.Frag) (CB : Addr) (i : Nat) (tb : XK → TS) (ts : TS) : TS := fun D σ H => tb (fun c _ H2 => ∃ C, c = .ref C ∧ PySem.W.exmOne K (.ref C) (.ref CB) = some true ∧
  ∀ a, H2 a = none → ts { nx := fun σ' H' => D.nx (σ'.set i none) H', bk := fun σ' H' => D.bk (σ'.set i none) H', ct := fun σ' H' => D.ct (σ'.set i none) H', rt := D.rt } (σ.set i (some (.ref a))) (upd H2 a (XO a C))) D σ H
section
variable {X : Cx}
theorem ps_tryX {cx n : Str} {CB : Addr} {i : Nat} {cp hp pos : Pos} {b : List Stmt} {tb : XK → TS} {b₀ : Stmt} {suite : List Stmt} {ts : TS} (hst : X.stack = X.env :: X.outer) (hfr : X.env.frame = some X.env.locals) (hN : X.N.Nodup) (hi : X.N[i]? = some n)
    (hl : X.env.scope.names.lookup n = some .local) (hcm : X.mg cx = some (.ref CB)) (hb : PBX X b tb) (hs : ∀ a, PSs (X.sui a) (b₀ :: suite) ts) (hgc : Gl X cx := by rfl) (hdb : (cx == ("__debug__" : Str)) = false := by decide) :
    PS X (.Try b [.ExceptHandler (some (.Name cx cp)) (some n) (b₀ :: suite) hp] [] [] pos) (tTryX X.K CB i tb ts) := by
  intro pins s σ H D I h
  refine wpAny_Try_except ?_
  refine wpAny_mono (hb pins s σ H D _ (fun e s₁ => wpAny (model X.prog X.w) X.A (noteFrame e X.env) (fun _ s₂ => wpAny (model X.prog X.w) X.A (setFlight e none) (fun _ s₃ => wpAny (model X.prog X.w) X.A (handleBy e X.env [.ExceptHandler (some (.Name cx cp)) (some n) (b₀ :: suite) hp]) (SP X pins D) X.xe s₃) X.xe s₂) X.xe s₁) I h fun ev s1 H1 s0 I0 hc => ?_) (fun f s1 q => ?_) fun _ _ z => z
  · obtain ⟨a, C, a0, H', B, rfl, os, bare, un, hok, fl, g1, g2, g3, na, C', hC, hx, q⟩ := hc
    cases hC
    have fl' := fl
    rw [hst] at fl'
    refine wpAny_looks_onW (by rw [I0.ok.frames, hst]) hfr fl' fun h4 x4 m4 => ?_
    refine wpAny_landsW x4 fun h5 x5 m5 => ?_
    rw [← hst] at x5
    have I5 := cx_land I0 os bare un hok fl g1 g2 g3 na x5 (Heap.UpToSlots.trans m4 m5)
    refine wpAny_handleBy_cons (codeAny_handlers_test (ld_glob (X := X.sui a) (I5.sui a) hgc hcm ?_ hdb)) (by intro q; cases q)
    have LT : PySem.W.Looks (model X.prog X.w) h5 (typeOf (.ref a)) (.ref C) := by
      obtain ⟨o, e1, e2⟩ := x5.there
      exact e2 ▸ (PySem.W.Looks.ld e1).andThen .now
    refine (PySem.W.exm_one I5.kIn LT hx).at (codeAny_handlers_suite_as ?_)
    refine lands_againW x5 fun h6 x6 m6 => ?_
    have I6 := cx_land I0 os bare un hok fl g1 g2 g3 na x6 (Heap.UpToSlots.trans (Heap.UpToSlots.trans m4 m5) m6)
    refine store_ok (v := .ref a) (X := X) I6 hN hi (.inl hl) rfl (fun s7 I7 => ?_) (.inr hl)
    refine wpAny_mono (hs a pins s7 _ _ _ (I7.sui a) (q a na)) (fun f s8 q8 => ?_) fun _ _ z => False.elim z
    cases f with
    | next =>
      obtain ⟨σ', H8, I8, q8⟩ := q8
      exact name_goes (Inv.unsui I0.ok I8) hN hi hl fun s9 I9 => ⟨_, _, I9, q8⟩
    | brk =>
      obtain ⟨σ', H8, I8, q8⟩ := q8
      exact name_goes (Inv.unsui I0.ok I8) hN hi hl fun s9 I9 => ⟨_, _, I9, q8⟩
    | cont =>
      obtain ⟨σ', H8, I8, q8⟩ := q8
      exact name_goes (Inv.unsui I0.ok I8) hN hi hl fun s9 I9 => ⟨_, _, I9, q8⟩
    | ret u =>
      obtain ⟨v, σ', H8, I8, rv, q8⟩ := q8
      exact name_goes (Inv.unsui I0.ok I8) hN hi hl fun s9 I9 => ⟨v, _, _, I9, rv, q8⟩
  · cases f with
    | next => exact wpAny_execs_nil q
    | brk => exact q
    | cont => exact q
    | ret u => exact q
end
end L2

set_option linter.all false
set_option maxRecDepth 100000
set_option maxHeartbeats 4000000
/-! isinstance(e, C), isinstance(e, (C, ..)) for a caught exception. -/
namespace L2
open PySem PySem.Spec PyProof.Rows
theorem cls_of_mro {K : PySem.W.Frag} {C : Addr} {b : Value} {r : Bool} (e : PySem.W.mroIn K C b = some r) : (PySem.W.clsIn K C).isSome = true := by
  unfold PySem.W.mroIn at e
  cases h : PySem.W.clsIn K C with
  | none => rw [h] at e; cases e
  | some cd => rfl
theorem bt_ty_ValueError : bootBuiltins "ValueError" = some (.type "ValueError") := by decide +kernel
section
variable {X : Cx} {K : PySem.W.Frag}
/-- what isinstance needs of the class of a caught exception -/
structure XIs (K : PySem.W.Frag) (C : Addr) : Prop where
  ty : XTy K C
  cls : (PySem.W.clsIn K C).isSome = true
theorem XO.at {P : Program} {w : World} {H : Hp} {h : Heap} {a C : Addr} (x : ObjOk P w H h a (XO a C)) : ∃ o, h.get? a = some o ∧ o.cls = .ref C := x.1
theorem call_isExc (h : X.K = K) : CallR X (.builtin "isinstance") (fun xs H Q => ∃ p C v c b, xs = [.ref p, v] ∧ H p = some (XO p C) ∧ XIs K C ∧ ((∃ D, v = .ref D ∧ c = .ref D) ∨ ∃ T, v = .ty T ∧ c = .type T) ∧ PySem.W.kitOne K (.ref C) c = some b ∧ Q (.bl b) H) := by
  subst h
  intro pins s σ H xs us Q I r h
  obtain ⟨p, C, v, c, b, rfl, hp, T, hv, hk, q⟩ := h
  obtain ⟨u, u2, rfl, r1, r2⟩ := r.two
  cases r1
  have e : u2 = c := by
    rcases hv with ⟨D, rfl, rfl⟩ | ⟨T, rfl, rfl⟩
    · exact r2
    · exact r2
  subst e
  exact PySem.W.kia_one (kitx_exc T.ty T.cls) I.kIn (XO.at (I.hok p _ hp)) hk (fun z => nomatch z) fun tk => ⟨.bl b, H, I.tok _, rfl, q⟩
theorem vals_refs {H : Hp} : ∀ {Ds : List Addr} {its : List Value}, Vals (Ds.map V.ref) its → its = Ds.map Value.ref
  | [], [], _ => rfl
  | D :: Ds, u :: us, .cons r t => by
    have e : u = .ref D := r
    rw [e, vals_refs (H := H) t]
    rfl
theorem call_isExcT (h : X.K = K) : CallR X (.builtin "isinstance") (fun xs H Q => ∃ (p C tp : Addr) (Ds : List Addr) (b : Bool), xs = [.ref p, .ref tp] ∧ H p = some (XO p C) ∧ XIs K C ∧ H tp = some (.tup (Ds.map V.ref)) ∧ PySem.W.kitAny K (.ref C) (Ds.map Value.ref) = some b ∧ Q (.bl b) H) := by
  subst h
  intro pins s σ H xs us Q I r h
  obtain ⟨p, C, tp, Ds, b, rfl, hp, T, ht, hk, q⟩ := h
  obtain ⟨u, u2, rfl, r1, r2⟩ := r.two
  cases r1; cases r2
  obtain ⟨_, its, rs, ⟨oc, od, oda, osl⟩, h1, hc, n, hd⟩ := I.hok tp _ ht
  have e := vals_refs (H := H) rs
  subst e
  dsimp only at hc hd
  subst hc hd
  exact PySem.W.kia_tup (kitx_exc T.ty T.cls) I.kIn (XO.at (I.hok p _ hp)) h1 hk (fun z => nomatch z) fun tk => ⟨.bl b, H, I.tok _, rfl, q⟩
end
end L2

set_option linter.all false
set_option maxRecDepth 100000
set_option maxHeartbeats 4000000
/-! lists of things alike compared; a def that may raise, called where it can't. -/
namespace L2
open PySem PySem.Spec PyProof.Rows
theorem pass0X {X : Cx} : Passes (CX1 X.prog X.w) X E0 := fun _ _ _ _ _ _ _ h => by
  obtain ⟨a, C, a0, H', B, _, _, _, _, _, _, _, _, _, _, z⟩ := h
  exact z.elim
section
variable {X : Cx} {K : PySem.W.Frag} {pins : List (Addr × Obj)} {σ : St} {H : Hp} {s : Shared} {A : Around}
end
end L2

set_option linter.all false
set_option maxRecDepth 100000
set_option maxHeartbeats 4000000
/-! for nets: an item of a list changed by what it is; any of numbers; `is True`; lists of lists of numbers compared; x in a list of numbers. -/
namespace L2
open PySem PySem.Spec PyProof.Rows
section
variable {X : Cx} {K : PySem.W.Frag} {pins : List (Addr × Obj)} {σ : St} {H : Hp} {s : Shared} {A : Around}
end
end L2

set_option linter.all false
set_option maxRecDepth 100000
set_option maxHeartbeats 4000000
/-! max of a list of numbers, with and without a default; a built-in function called with keywords; a method within try. -/
namespace L2
open PySem PySem.Spec PyProof.Rows
theorem maxD_args (a d : Value) : argsOk "max" ⟨[a], [("default", d)]⟩ := by unfold argsOk; kernel_rfl
section
variable {p : Program} {w : World} {A : Around} {R : Result → Shared → Prop} {it bst : Addr} {fp wr : List Addr} {n : Nat} {G : Nat → Value → Prop} {St : Nat → Heap → Prop} {bt : Nat → Nat → Bool} {kw : List (Str × Value)}
/-- the turns behind the first, whatever the keywords -/
theorem max_turns (W : Walks p w A.in1 it fp wr n G St) (cm : CmpOf p w A.in1 .Gt G bt) (nb : bst ∉ fp) : ∀ (k j : Nat) (s : Shared) (x : Value) (c : Nat), j + 1 + k = n → St (j + 1) s.heap → G (argBest bt j) x →
    s.heap.get? bst = some { cls := .type "list", dict := none, data := .seq #[x, x] c, slots := #[] } → (∀ y h' tk, G (argBest bt (n - 1)) y → (∀ b o, b ∉ wr → b ≠ bst → s.heap.get? b = some o → h'.get? b = some o) → R (.ok (.ret y)) { s with heap := h', toks := tk }) →
    codeAny (model p w) A (.builtin "max.loop" ⟨[.ref it, .none, .ref bst], kw⟩) R s := by
  have nw : bst ∉ wr := fun z => nb (W.sub _ z)
  have nm : (toString "max" ++ toString ".loop" : String) = "max.loop" := by decide
  intro k
  induction k with
  | zero =>
    intro j s x c ek st gx hb out
    have ej : j + 1 = n := by omega
    refine codeAny_builtin PySem.F.entry_max_loop ?_
    rw [Around.under_plainId PySem.F.plain_max_loop _]
    show wpAny _ A.in1 (seqItems? (.ref bst) >>= _) _ _ s
    refine wpAny_bind (wpAny_seqItems hb rfl ?_)
    show wpAny _ A.in1 (tryCatch (pyNext (.ref it)) _ >>= _) _ _ s
    refine wpAny_bind (wpAny_tryCatch (W.done s _ _ (ej ▸ st) fun h1 tk k1 => ?_))
    have hb1 := k1 bst _ nw hb
    show wpAny _ A.in1 (updateSeq bst (fun _ => #[]) >>= _) _ _ _
    refine wpAny_bind (wpAny_updateSeq hb1 rfl (wpAny_bind (wpAny_letGo (wpAny_pure ?_))))
    exact out x _ tk (by rw [← ej]; exact gx) fun b o n1 n2 e => (Heap.get?_update_other _ _ (Ne.symm n2)).trans (k1 b o n1 e)
  | succ k ih =>
    intro j s x c ek st gx hb out
    refine codeAny_builtin PySem.F.entry_max_loop ?_
    rw [Around.under_plainId PySem.F.plain_max_loop _]
    show wpAny _ A.in1 (seqItems? (.ref bst) >>= _) _ _ s
    refine wpAny_bind (wpAny_seqItems hb rfl ?_)
    show wpAny _ A.in1 (tryCatch (pyNext (.ref it)) _ >>= _) _ _ s
    refine wpAny_bind (wpAny_tryCatch (W.item (j + 1) s _ _ (by omega) st fun v h1 tk gv st1 k1 => ?_))
    have hb1 := k1 bst _ nw hb
    show wpAny _ A.in1 (tryCatch (holding [v, v] (richCompare .Gt v x >>= _)) _ >>= _) _ _ _
    refine wpAny_bind (wpAny_tryCatch (wpAny_holding (wpAny_bind (cm (j + 1) (argBest bt j) v x _ _ _ gv gx (wpAny_bind (wpAny_holding (wpAny_truthy_bool (wpAny_bind (wpAny_letGo (wpAny_pure ?_))))))))))
    by_cases hbt : bt (j + 1) (argBest bt j) = true
    · rw [hbt]
      simp only [if_true]
      refine wpAny_bind (wpAny_updateSeq hb1 rfl (wpAny_bind (wpAny_letGo ?_)))
      rw [nm]
      refine wpAny_pure ⟨plainId_quiet PySem.F.plain_max_loop _, ih (j + 1) _ v _ (by omega) (W.frame _ _ _ st1 fun b bf o e => ?_) (by rw [argBest, if_pos hbt]; exact gv) (Heap.get?_update_self _ hb1 rfl) fun y h2 tk2 gy k2 => out y h2 tk2 gy fun b o n1 n2 e => k2 b o n1 n2 ((Heap.get?_update_other _ _ (Ne.symm n2)).trans (k1 b o n1 e))⟩
      exact (Heap.get?_update_other _ _ (fun z : bst = b => nb (z ▸ bf))).trans e
    · rw [Bool.eq_false_iff.mpr hbt]
      simp only [Bool.false_eq_true, if_false]
      refine wpAny_bind (wpAny_letGo ?_)
      rw [nm]
      exact wpAny_pure ⟨plainId_quiet PySem.F.plain_max_loop _, ih (j + 1) _ x c (by omega) st1 (by rw [argBest, if_neg hbt]; exact gx) hb1 fun y h2 tk2 gy k2 => out y h2 tk2 gy fun b o n1 n2 e => k2 b o n1 n2 (k1 b o n1 e)⟩
end
section
variable {p : Program} {w : World} {A : Around} {E : Value → Shared → Prop} {s : Shared} {l : Addr} {xs : Array (Int × Tok)} {Q : Value → Shared → Prop} {d : Value}
theorem max_def (hh : A.handled = none) (hl : s.heap.IsList l (intItems xs)) (h0 : xs.size = 0 → ∀ h' tk, (∀ b o, s.heap.get? b = some o → h'.get? b = some o) → Q d { s with heap := h', toks := tk })
    (h1 : ∀ v h' tk, 0 < xs.size → (intItems xs)[argBest (fun i j => decide (numAt xs i > numAt xs j)) (xs.size - 1)]? = some v → (∀ b o, s.heap.get? b = some o → h'.get? b = some o) → Q v { s with heap := h', toks := tk }) :
    wpAny (model p w) A (call (.builtin "max") [.ref l] [("default", d)]) Q E s := by
  have nm : (toString "max" ++ toString ".loop" : String) = "max.loop" := by decide
  refine kmk_tree PySem.F.kind_max PySem.F.plain_max PySem.F.entry_max (maxD_args _ _) ?_
  show wpAny _ A.in1 (Builtin.Builtins.bindParams "max" ["key", "default"] 0 ⟨[], [("default", d)]⟩ >>= _) _ _ s
  refine wpAny_bind (wpAny_of_eq (show Builtin.Builtins.bindParams "max" ["key", "default"] 0 ⟨[], [("default", d)]⟩ = pure [none, some d] from rfl) ?_)
  refine wpAny_bind (wpAny_pure (wpAny_bind (iter_intList hl fun s₂ e st hfp hlI => ?_)))
  subst e
  have W := Walks.list (prog := p) (w := w) (A := A.in1) hh s.heap.objs.size l hlI (intItems xs)
  have hsz : (intItems xs).size = xs.size := by simp [intItems]
  refine wpAny_bind (wpAny_newObj_type ?_)
  generalize hS : (s.heap.push { cls := .type "list_iterator", data := .fields #[.ref l, .int 0 0] }).objs.size = S
  have nf : S ∉ [s.heap.objs.size, l] := fun z => Nat.lt_irrefl _ (hS ▸ hfp _ z)
  have nSI : S ≠ s.heap.objs.size := fun z => nf (z ▸ List.mem_cons_self)
  rw [nm]
  have gS : ((s.heap.push { cls := .type "list_iterator", data := .fields #[.ref l, .int 0 0] }).push { cls := .type "list", data := .seq ([] : List Value).toArray }).get? S = some { cls := .type "list", data := .seq ([] : List Value).toArray } := by rw [← hS]; exact Heap.get?_push_size _ rfl
  have st' := W.frame 0 _ ((s.heap.push { cls := .type "list_iterator", data := .fields #[.ref l, .int 0 0] }).push { cls := .type "list", data := .seq ([] : List Value).toArray }) st fun b _ o e => Heap.get?_push_of_some _ e
  have kp : ∀ b o, s.heap.get? b = some o → ((s.heap.push { cls := .type "list_iterator", data := .fields #[.ref l, .int 0 0] }).push { cls := .type "list", data := .seq ([] : List Value).toArray }).get? b = some o ∧ b ∉ [s.heap.objs.size] ∧ b ≠ S := fun b o e => by
    have hb := Heap.lt_size e
    refine ⟨Heap.get?_push_of_some _ (Heap.get?_push_of_some _ e), fun z => ?_, fun z => ?_⟩
    · rw [List.mem_singleton.mp z] at hb; exact Nat.lt_irrefl _ hb
    · have e1 : S = s.heap.objs.size + 1 := by rw [← hS, Heap.size_push]
      rw [z, e1] at hb
      exact absurd hb (Nat.not_lt.mpr (Nat.le_succ _))
  refine wpAny_pure ⟨plainId_quiet PySem.F.plain_max_loop _, codeAny_builtin PySem.F.entry_max_loop ?_⟩
  rw [Around.under_plainId PySem.F.plain_max_loop _]
  show wpAny _ A.in1 (seqItems? (.ref S) >>= _) _ _ _
  refine wpAny_bind (wpAny_seqItems gS rfl ?_)
  show wpAny _ A.in1 (tryCatch (pyNext (.ref s.heap.objs.size)) _ >>= _) _ _ _
  by_cases hz : xs.size = 0
  · refine wpAny_bind (wpAny_tryCatch (W.done _ _ _ (by rw [hsz, hz]; exact st') fun h1' tk k1 => ?_))
    show wpAny _ A.in1 (rule _ >>= _) _ _ _
    refine wpAny_bind (wpAny_rule (wpAny_pure (h0 hz h1' tk fun b o e => ?_)))
    obtain ⟨a1, a2, _⟩ := kp b o e
    exact k1 b o a2 a1
  · refine wpAny_bind (wpAny_tryCatch (W.item 0 _ _ _ (by rw [hsz]; omega) st' fun v h1' tk gv st1 k1 => ?_))
    have gS1 := k1 S _ (fun z => nSI (List.mem_singleton.mp z)) gS
    show wpAny _ A.in1 (updateSeq S (fun _ => #[v, v]) >>= _) _ _ _
    refine wpAny_bind (wpAny_updateSeq gS1 rfl ?_)
    rw [nm]
    refine wpAny_pure ⟨plainId_quiet PySem.F.plain_max_loop _, max_turns W (CmpOf.ints_gt (numAt xs) (fun _ _ => intItems_at)) nf (xs.size - 1) 0 _ v _ (by rw [hsz]; omega) (W.frame _ _ _ st1 fun b bf o e => (Heap.get?_update_other _ _ (fun z : S = b => nf (z ▸ bf))).trans e) gv (Heap.get?_update_self _ gS1 rfl) fun y h2 tk2 gy k2 => ?_⟩
    refine h1 y h2 tk2 (by omega) (by rw [hsz] at gy; exact gy) fun b o e => ?_
    obtain ⟨a1, a2, a3⟩ := kp b o e
    exact k2 b o a2 a3 ((Heap.get?_update_other _ _ (Ne.symm a3)).trans (k1 b o a2 a1))
end
section
variable {X : Cx} {K : PySem.W.Frag}
theorem best_gt {xs : List (Int × Tok)} (h : 0 < xs.length) {v : Value} (e : (intItems xs.toArray)[argBest (fun i j => decide (numAt xs.toArray i > numAt xs.toArray j)) (xs.toArray.size - 1)]? = some v) :
    ∃ M t, v = .int M t ∧ M ∈ xs.map (·.1) ∧ ∀ a ∈ xs.map (·.1), a ≤ M := by
  obtain ⟨t, rfl⟩ := intItems_at e
  obtain ⟨h1, h2⟩ := argBest_gt (numAt xs.toArray) (xs.toArray.size - 1)
  have ez : xs.toArray.size = xs.length := List.size_toArray ..
  refine ⟨_, t, rfl, ?_, fun a ha => ?_⟩
  · rw [numAt_eq]
    exact getD_mem (by rw [List.length_map]; omega)
  · obtain ⟨j, hj, rfl⟩ := mem_getD ha
    rw [List.length_map] at hj
    have := h2 j (by omega)
    rw [numAt_eq] at this
    exact this
/-- max(list of numbers) -/
theorem call_maxL (hc : X.calm = true) (h : X.K = K) : CallR X (.builtin "max") (fun xs H Q => ∃ (D : Addr) (ns : List Int), xs = [.ref D] ∧ SqL K H D (ns.map V.int) ∧ 0 < ns.length ∧ ∀ M, M ∈ ns → (∀ a ∈ ns, a ≤ M) → Q (.int M) H) := by
  subst h
  intro pins s σ H xs us Q I r h
  obtain ⟨D, ns, rfl, hq, hn, q⟩ := h
  obtain ⟨u, rfl, ru⟩ := r.one
  cases ru
  obtain ⟨its, rv, pl, _⟩ := I.list hq
  obtain ⟨xs, rfl, rfl⟩ := ints_items rv
  have e : (xs.map fun p => Value.int p.1 p.2).toArray = intItems xs.toArray := by simp [intItems]
  rw [List.length_map] at hn
  refine max_intList (xs := xs.toArray) (I.ok.hd hc) (by rw [← e]; exact pl.isList) (by rw [List.size_toArray]; exact hn) fun v h' tk hv hk => ?_
  obtain ⟨M, t, rfl, m1, m2⟩ := best_gt hn hv
  exact ⟨.int M, H, I.kept (fun b o e => hk b o e), ⟨t, rfl⟩, q M m1 m2⟩
/-! keywords of a built-in function -/
def tCBk (r : List V → List V → Hp → VK → Prop) (t tk : TA) : TE := fun σ H Q => t σ H fun vs H1 => tk σ H1 fun zs H2 => r vs zs H2 Q
def CallRk (X : Cx) (f : Value) (ks : List Str) (r : List V → List V → Hp → VK → Prop) : Prop := ∀ (pins : List (Addr × Obj)) (s : Shared) (σ : St) (H : Hp) (vs zs : List V) (us ws : List Value) (Q : VK), Inv X pins σ H s → Vals vs us → Vals zs ws → r vs zs H Q → wpAny (model X.prog X.w) X.A (call f us (ks.zip ws)) (EP X pins σ Q) X.xe s
theorem pe_callBk {id : String} {ks : List Str} {r : List V → List V → Hp → VK → Prop} {x : Str} {e : Expr} {es : List Expr} {kws : List Keyword} {t tk : TA} {p pos : Pos} (hc : CallRk X (.builtin id) ks r) (hg : Gl X x) (hm : X.mg x = none) (hv : bootBuiltins x = some (.builtin id)) (ha : PA X (e :: es) t) (hkw : PK X kws tk)
    (hall : (backToKw pos (keywordEach kws X.env)).all (·.1.isSome) = true := by rfl) (hks : (backToKw pos (keywordEach kws X.env)).filterMap (·.1) = ks := by rfl) (hn : x ≠ "__name__" := by decide)
    (hdb : (x == ("__debug__" : Str)) = false := by decide) (he : starEach (e :: es) X.env = (false, eval e X.env) :: starEach es X.env := by rfl)
    (hpl : ((backTo pos (starEach (e :: es) X.env)).any (·.1) || (backToKw pos (keywordEach kws X.env)).any (·.1.isNone)) = false := by rfl) : PE X (.Call (.Name x p) (e :: es) kws pos) (tCBk r t tk) := by
  intro pins s σ H Q I h
  refine wpAny_Call_Name_kw (ld_blt I hg hm hv ?_ hn hdb)
  refine PySem.W.callWith_of (P := fun _ => True) hpl (fun h _ => ⟨Keeper.machine, .inr (.inl rfl), .now⟩) (evalArgs_kw2 hall (thn (ha pos pins s σ H _ I h) fun us s1 ⟨vs, H1, I1, r, q⟩ => thn (hkw pos pins s1 σ H1 _ I1 q) fun ws s2 ⟨zs, H2, I2, rz, q2⟩ => ⟨True.intro, ?_⟩) he)
  rw [hks]
  exact hc pins s2 σ H2 vs zs us ws Q I2 r rz q2
/-- max(list of numbers, default=d) -/
theorem call_maxD (hc : X.calm = true) (h : X.K = K) : CallRk X (.builtin "max") ["default"] (fun xs zs H Q => ∃ (D : Addr) (ns : List Int) (d : Int), xs = [.ref D] ∧ zs = [.int d] ∧ SqL K H D (ns.map V.int) ∧ (ns = [] → Q (.int d) H) ∧ ∀ M, M ∈ ns → (∀ a ∈ ns, a ≤ M) → Q (.int M) H) := by
  subst h
  intro pins s σ H vs zs us ws Q I r rz h
  obtain ⟨D, ns, d, rfl, rfl, hq, q0, q⟩ := h
  obtain ⟨u, rfl, ru⟩ := r.one
  cases ru
  obtain ⟨u, rfl, t, rfl⟩ := rz.one
  obtain ⟨its, rv, pl, _⟩ := I.list hq
  obtain ⟨xs, rfl, rfl⟩ := ints_items rv
  have e : (xs.map fun p => Value.int p.1 p.2).toArray = intItems xs.toArray := by simp [intItems]
  show wpAny _ _ (call (.builtin "max") [.ref D] [("default", .int d t)]) _ _ s
  refine max_def (xs := xs.toArray) (I.ok.hd hc) (by rw [← e]; exact pl.isList) (fun hz h' tk hk => ?_) (fun v h' tk hz hv hk => ?_)
  · rw [List.size_toArray] at hz
    exact ⟨.int d, H, I.kept (fun b o e => hk b o e), ⟨t, rfl⟩, q0 (by rw [List.eq_nil_of_length_eq_zero hz]; rfl)⟩
  · rw [List.size_toArray] at hz
    obtain ⟨M, t, rfl, m1, m2⟩ := best_gt hz hv
    exact ⟨.int M, H, I.kept (fun b o e => hk b o e), ⟨t, rfl⟩, q M m1 m2⟩
/-! a method within try -/
theorem EP.unwish {pins : List (Addr × Obj)} {σ : St} {Q : VK} {E : Value → Shared → Prop} {u : Value} {s : Shared} (h : EP (X.wish E) pins σ Q u s) : EP X pins σ Q u s := by
  obtain ⟨v, H', I, r, q⟩ := h
  exact ⟨v, H', I.unwish, r, q⟩
theorem pex_mt {pl : Sem Bool} {m : Str} {k : Nat} {ps : List Str} {sp : Sp} {C : Addr} {pos apos : Pos} {e o : Expr} {es : List Expr} {t : TA} {to : TE} (G : MtX X.prog X.w X.K X.mg X.base C m k ps sp) (hr : Room k X.A) (ho : PE X.nox o to) (ha : PA X.nox (e :: es) t)
    (hst : starEach (e :: es) X.env = (false, eval e X.env) :: starEach es X.env := by rfl) (hpl : (backTo pos (starEach es X.env)).any (·.1) = false := by rfl)
    (ht : eval (.Call (.Attribute o m apos) (e :: es) [] pos) X.env = (do
      let ov ← eval o X.env
      standAt apos.atName
      let (f, first) ← holding [ov] (getMethod ov m pl)
      callWith pos f first (backTo pos (starEach (e :: es) X.env)) (backToKw pos (keywordEach [] X.env))) := by rfl) : PEX X (.Call (.Attribute o m apos) (e :: es) [] pos) (fun E => tMeth C m sp [] E to t) := by
  obtain ⟨f, fd, F, c, hm, hb⟩ := G
  intro pins s σ H Q E Ex I h hx
  refine PySem.W.methodCall_KW (pl := pl) (wpAny_mono (ho pins s σ H _ (I.wish _) h) (fun u s1 q0 => ?_) fun _ _ z => False.elim z) ht
  obtain ⟨x, H1, I1, rx, a, dx, fs, ex, ea, l, q⟩ := EP.unwish (X := X) q0
  subst ex
  obtain rfl : u = Value.ref a := rx
  refine getmeth_ok I1 ea c hm l ?_
  refine PySem.W.callWith_K (first := [.ref a]) (h₀ := X.base) I.ok.mod.kin hm.kp (wpAny_mono (ha pos pins s1 σ H1 _ (I1.wish _) q) (fun us s2 q2 => ?_) fun _ _ z => False.elim z) hst hpl
  obtain ⟨vs, H2, I2, r, q⟩ := AP.unwish (X := X) q2
  refine ⟨I2.kIn, ?_⟩
  rw [List.append_nil] at q
  have rr : Vals (.ref a :: vs) (.ref a :: us) := .cons rfl r
  have hl : (Value.ref a :: us).length = ps.length := by rw [← rr.length]; exact F.len _ _ _ _ q
  have hbb := hb s2 (.ref a :: us) I2.kIn (by rw [List.append_nil]; exact hl)
  rw [List.append_nil] at hbb
  refine wpAny_call (codeAny_mono (F.run X.A X.stack s2 H2 ⟨.ref a :: us, []⟩ (.ref a :: us) (.ref a :: vs) Q E hr I2.env0 hbb rr q) fun r s' hq => ?_)
  cases r with
  | error e => exact hx e s' H2 s2 I2 hq
  | ok fl =>
    cases fl with
    | ret u => exact I2.after hq
    | next => exact False.elim hq
    | brk => exact False.elim hq
    | cont => exact False.elim hq
end
/-! one letter, up to nine times -/
theorem nine {k : Int} (h0 : 1 ≤ k) (h1 : k ≤ 9) : k = 1 ∨ k = 2 ∨ k = 3 ∨ k = 4 ∨ k = 5 ∨ k = 6 ∨ k = 7 ∨ k = 8 ∨ k = 9 := by omega
theorem mul_nine {c : Nat} {k : Int} (h0 : 1 ≤ k) (h1 : k ≤ 9) : Txt.mul ⟨#[c]⟩ k = ⟨(List.replicate k.toNat c).toArray⟩ := by
  rcases nine h0 h1 with rfl | rfl | rfl | rfl | rfl | rfl | rfl | rfl | rfl <;> rfl
theorem op_mulS9 {X : Cx} : OpR X (binaryOp .Mult) (fun x y H Q => ∃ c k, x = T [c] ∧ y = .int k ∧ 1 ≤ k ∧ k ≤ 9 ∧ Q (T (List.replicate k.toNat c)) H) := by
  intro pins s σ H x y v u Q I rx ry h
  obtain ⟨c, k, rfl, rfl, h0, h1, q⟩ := h
  obtain ⟨t, rfl⟩ := rx
  obtain ⟨t', rfl⟩ := ry
  refine SB.mul ⟨?_, fun _ _ => ?_, fun _ _ => ?_⟩ fun t2 k2 => ?_
  · rw [decide_eq_false (by omega), decide_eq_false (by omega)]; rfl
  · rcases nine h0 h1 with rfl | rfl | rfl | rfl | rfl | rfl | rfl | rfl | rfl <;> (show ¬ ((1 : Int) > _); decide)
  · rw [show (⟨[c].toArray⟩ : Str).length = 1 from rfl]
    clear q
    rcases nine h0 h1 with rfl | rfl | rfl | rfl | rfl | rfl | rfl | rfl | rfl <;> decide
  · rw [mul_nine h0 h1]
    exact ⟨T (List.replicate k.toNat c), H, I.tok _, ⟨t2, rfl⟩, q⟩
end L2

set_option maxHeartbeats 4000000

namespace K22
open PySem L2
def top (i : Nat) : Stmt := PySem.Challenge.pw_rotafair_k22_who_is_bound.main.body.getD i (.Pass ⟨0, 0, 0, 0⟩)
abbrev s_Never_init : Stmt := inClass (top 13) 0
abbrev s_Never_reach : Stmt := inClass (top 13) 1
abbrev s_Most_init : Stmt := inClass (top 14) 0
abbrev s_Most_reach : Stmt := inClass (top 14) 1
abbrev s_Least_init : Stmt := inClass (top 15) 0
abbrev s_Least_reach : Stmt := inClass (top 15) 1
abbrev s_Person_init : Stmt := inClass (top 17) 0
abbrev s_House_init : Stmt := inClass (top 18) 0
abbrev s_law_cell_at : Stmt := top 20
abbrev s_law_name : Stmt := top 22
abbrev s_law_whole : Stmt := top 21
abbrev s_count_text : Stmt := top 11
abbrev s_Never_text : Stmt := inClass (top 13) 3
abbrev s_Most_text : Stmt := inClass (top 14) 3
abbrev s_Least_text : Stmt := inClass (top 15) 3
abbrev s_House_place_of : Stmt := inClass (top 18) 3
abbrev s_House_rules_for : Stmt := inClass (top 18) 4
abbrev s_House_reach_of : Stmt := inClass (top 18) 5
abbrev s_House_plain : Stmt := inClass (top 18) 6
abbrev s_law_rule : Stmt := top 23
abbrev s_law_refused : Stmt := top 24
abbrev s_law_person : Stmt := top 25
abbrev s_law : Stmt := top 26
theorem sc_Never_init : FnScope ["self", "word"] ["self", "word"] (defScope s_Never_init) := ⟨rfl, rfl, rfl, by decide +kernel, rfl, by decide +kernel, by decide +kernel⟩
theorem sc_Never_reach : FnScope ["self"] ["self"] (defScope s_Never_reach) := ⟨rfl, rfl, rfl, by decide +kernel, rfl, by decide +kernel, by decide +kernel⟩
theorem sc_Most_init : FnScope ["self", "many", "marks", "days"] ["self", "many", "marks", "days"] (defScope s_Most_init) := ⟨rfl, rfl, rfl, by decide +kernel, rfl, by decide +kernel, by decide +kernel⟩
theorem sc_Most_reach : FnScope ["self"] ["self"] (defScope s_Most_reach) := ⟨rfl, rfl, rfl, by decide +kernel, rfl, by decide +kernel, by decide +kernel⟩
theorem sc_Least_init : FnScope ["self", "many", "marks", "days"] ["self", "many", "marks", "days"] (defScope s_Least_init) := ⟨rfl, rfl, rfl, by decide +kernel, rfl, by decide +kernel, by decide +kernel⟩
theorem sc_Least_reach : FnScope ["self"] ["self"] (defScope s_Least_reach) := ⟨rfl, rfl, rfl, by decide +kernel, rfl, by decide +kernel, by decide +kernel⟩
theorem sc_Person_init : FnScope ["self", "name", "skills", "most", "carried", "past"] ["self", "name", "skills", "most", "carried", "past"] (defScope s_Person_init) := ⟨rfl, rfl, rfl, by decide +kernel, rfl, by decide +kernel, by decide +kernel⟩
theorem sc_House_init : FnScope ["self", "days", "kinds", "needs", "persons", "leave", "wishes", "rules", "pairs"] ["self", "days", "kinds", "needs", "persons", "leave", "wishes", "rules", "pairs"] (defScope s_House_init) := ⟨rfl, rfl, rfl, by decide +kernel, rfl, by decide +kernel, by decide +kernel⟩
theorem sc_law_cell_at : FnScope ["_law_script", "_law_k"] ["_law_script", "_law_k"] (defScope s_law_cell_at) := ⟨rfl, rfl, rfl, by decide +kernel, rfl, by decide +kernel, by decide +kernel⟩
theorem sc_law_name : FnScope ["_law_cell", "_law_p", "_law_some", "_law_body", "_law_at", "_law_name_here"] ["_law_cell", "_law_p"] (defScope s_law_name) := ⟨rfl, rfl, rfl, by decide +kernel, rfl, by decide +kernel, by decide +kernel⟩
theorem sc_law_whole : FnScope ["_law_found"] ["_law_found"] (defScope s_law_whole) := ⟨rfl, rfl, rfl, by decide +kernel, rfl, by decide +kernel, by decide +kernel⟩
theorem sc_count_text : FnScope ["word", "many", "marks", "days"] ["word", "many", "marks", "days"] (defScope s_count_text) := ⟨rfl, rfl, rfl, by decide +kernel, rfl, by decide +kernel, by decide +kernel⟩
theorem sc_Never_text : FnScope ["self"] ["self"] (defScope s_Never_text) := ⟨rfl, rfl, rfl, by decide +kernel, rfl, by decide +kernel, by decide +kernel⟩
theorem sc_Most_text : FnScope ["self"] ["self"] (defScope s_Most_text) := ⟨rfl, rfl, rfl, by decide +kernel, rfl, by decide +kernel, by decide +kernel⟩
theorem sc_Least_text : FnScope ["self"] ["self"] (defScope s_Least_text) := ⟨rfl, rfl, rfl, by decide +kernel, rfl, by decide +kernel, by decide +kernel⟩
theorem sc_House_place_of : FnScope ["self", "name", "p", "person"] ["self", "name"] (defScope s_House_place_of) := ⟨rfl, rfl, rfl, by decide +kernel, rfl, by decide +kernel, by decide +kernel⟩
theorem sc_House_rules_for : FnScope ["self", "p", "names"] ["self", "p"] (defScope s_House_rules_for) := ⟨rfl, rfl, rfl, by decide +kernel, rfl, by decide +kernel, by decide +kernel⟩
theorem sc_House_reach_of : FnScope ["self", "p"] ["self", "p"] (defScope s_House_reach_of) := ⟨rfl, rfl, rfl, by decide +kernel, rfl, by decide +kernel, by decide +kernel⟩
theorem sc_House_plain : FnScope ["self"] ["self"] (defScope s_House_plain) := ⟨rfl, rfl, rfl, by decide +kernel, rfl, by decide +kernel, by decide +kernel⟩
theorem sc_law_rule : FnScope ["_law_cell", "_law_letter", "_law_many", "_law_number", "_law_words"] ["_law_cell"] (defScope s_law_rule) := ⟨rfl, rfl, rfl, by decide +kernel, rfl, by decide +kernel, by decide +kernel⟩
theorem sc_law_refused : FnScope ["_law_house", "_law_name_here", "_law_error", "e"] ["_law_house", "_law_name_here"] (defScope s_law_refused) := ⟨rfl, rfl, rfl, by decide +kernel, rfl, by decide +kernel, by decide +kernel⟩
theorem sc_law_person : FnScope ["_law_house", "_law_p", "_law_bound", "_law_found", "_law_one", "_law_due", "_law_reach"] ["_law_house", "_law_p", "_law_bound"] (defScope s_law_person) := ⟨rfl, rfl, rfl, by decide +kernel, rfl, by decide +kernel, by decide +kernel⟩
theorem sc_law : FnScope ["_law_script", "_law_many", "_law_names", "_law_rules", "_law_told", "_law_cell", "_law_rule_here", "_law_words", "_law_reach", "_law_name_here", "_law_pairs", "_law_plain", "_law_persons", "_law_house", "_law_p", "_law_mine", "_law_bound", "_law_found"] ["_law_script"] (defScope s_law) := ⟨rfl, rfl, rfl, by decide +kernel, rfl, by decide +kernel, by decide +kernel⟩
structure Tx (K : PySem.W.Frag) (mg : Str → Option Value) (C_Never C_Most C_Least C_Person C_House C_RotaError C_NoName C_NoDay C_Faulty C_NoHouse C_NoRow C_NoRule C_TooWide : Addr) : Prop where
  m_Never_init : MF K C_Never "__init__" "Never.__init__" s_Never_init
  m_Never_reach : MF K C_Never "reach" "Never.reach" s_Never_reach
  m_Most_init : MF K C_Most "__init__" "Most.__init__" s_Most_init
  m_Most_reach : MF K C_Most "reach" "Most.reach" s_Most_reach
  m_Least_init : MF K C_Least "__init__" "Least.__init__" s_Least_init
  m_Least_reach : MF K C_Least "reach" "Least.reach" s_Least_reach
  m_Person_init : MF K C_Person "__init__" "Person.__init__" s_Person_init
  m_House_init : MF K C_House "__init__" "House.__init__" s_House_init
  f_law_cell_at : GF K mg "_law_cell_at" s_law_cell_at
  f_law_name : GF K mg "_law_name" s_law_name
  f_law_whole : GF K mg "_law_whole" s_law_whole
  f_count_text : GF K mg "count_text" s_count_text
  m_Never_text : MF K C_Never "text" "Never.text" s_Never_text
  m_Most_text : MF K C_Most "text" "Most.text" s_Most_text
  m_Least_text : MF K C_Least "text" "Least.text" s_Least_text
  m_House_place_of : MF K C_House "place_of" "House.place_of" s_House_place_of
  m_House_rules_for : MF K C_House "rules_for" "House.rules_for" s_House_rules_for
  m_House_reach_of : MF K C_House "reach_of" "House.reach_of" s_House_reach_of
  m_House_plain : MF K C_House "plain" "House.plain" s_House_plain
  f_law_rule : GF K mg "_law_rule" s_law_rule
  f_law_refused : GF K mg "_law_refused" s_law_refused
  f_law_person : GF K mg "_law_person" s_law_person
  f_law : GF K mg "law" s_law
  c_Never : CF K mg "Never" C_Never
  c_Most : CF K mg "Most" C_Most
  c_Least : CF K mg "Least" C_Least
  c_Person : CF K mg "Person" C_Person
  c_House : CF K mg "House" C_House
  b_RotaError : mg "RotaError" = some (.ref C_RotaError)
  b_NoName : mg "NoName" = some (.ref C_NoName)
  b_NoDay : mg "NoDay" = some (.ref C_NoDay)
  b_Faulty : mg "Faulty" = some (.ref C_Faulty)
  b_NoHouse : mg "NoHouse" = some (.ref C_NoHouse)
  b_NoRow : mg "NoRow" = some (.ref C_NoRow)
  b_NoRule : mg "NoRule" = some (.ref C_NoRule)
  b_TooWide : mg "TooWide" = some (.ref C_TooWide)
  xc_NoName : XCls K C_NoName
  xi_NoName : XIs K C_NoName
  xm_NoName_RotaError : PySem.W.exmOne K (.ref C_NoName) (.ref C_RotaError) = some true
  xk_NoName_ValueError : PySem.W.kitOne K (.ref C_NoName) (.type "ValueError") = some true
  xk_NoName_NoName : PySem.W.kitOne K (.ref C_NoName) (.ref C_NoName) = some true
  xt_NoName_0 : PySem.W.kitAny K (.ref C_NoName) [.ref C_Faulty, .ref C_NoDay, .ref C_NoHouse, .ref C_NoRow, .ref C_NoRule, .ref C_TooWide] = some false
  n_Never_word : NoAttr K C_Never "word"
  n_Most_many : NoAttr K C_Most "many"
  n_Most_marks : NoAttr K C_Most "marks"
  n_Most_days : NoAttr K C_Most "days"
  n_Least_many : NoAttr K C_Least "many"
  n_Least_marks : NoAttr K C_Least "marks"
  n_Least_days : NoAttr K C_Least "days"
  n_Person_name : NoAttr K C_Person "name"
  n_Person_skills : NoAttr K C_Person "skills"
  n_Person_most : NoAttr K C_Person "most"
  n_Person_carried : NoAttr K C_Person "carried"
  n_Person_past : NoAttr K C_Person "past"
  n_House_days : NoAttr K C_House "days"
  n_House_kinds : NoAttr K C_House "kinds"
  n_House_needs : NoAttr K C_House "needs"
  n_House_persons : NoAttr K C_House "persons"
  n_House_leave : NoAttr K C_House "leave"
  n_House_wishes : NoAttr K C_House "wishes"
  n_House_rules : NoAttr K C_House "rules"
  n_House_pairs : NoAttr K C_House "pairs"
  z_ValueError : mg "ValueError" = none
  z_bool : mg "bool" = none
  z_enumerate : mg "enumerate" = none
  z_int : mg "int" = none
  z_isinstance : mg "isinstance" = none
  z_len : mg "len" = none
  z_list : mg "list" = none
  z_max : mg "max" = none
  z_range : mg "range" = none
  z_str : mg "str" = none
  z_tuple : mg "tuple" = none
  z_zip : mg "zip" = none
theorem small6 {n : Nat} (h : n ≤ 1000) : n ≤ sizeLine := Nat.le_trans h (by decide)
theorem cut_len {α : Type} (l : List α) (lo hi : Option Int) : (cutN l lo hi).length ≤ l.length := by
  unfold cutN
  rw [List.length_take, List.length_drop]
  omega
theorem at_some {α : Type} (l : List α) (i : Int) (h0 : 0 ≤ i) (h : i < l.length) : ∃ c, atI l i = some c ∧ l[i.toNat]? = some c := by
  have hi : i.toNat < l.length := by omega
  have e : i = ((i.toNat : Nat) : Int) := by omega
  have q : atI l ((i.toNat : Nat) : Int) = some l[i.toNat] := atI_nat (by simp [hi])
  rw [← e] at q
  exact ⟨l[i.toNat], q, List.getElem?_eq_getElem hi⟩
theorem at_int (ns : List Int) (i : Int) (h0 : 0 ≤ i) (h : i < ns.length) : ∃ z, atI (ns.map V.int) i = some (.int z) ∧ ns[i.toNat]? = some z := by
  obtain ⟨c, h1, h2⟩ := at_some (ns.map V.int) i h0 (by rw [List.length_map]; exact h)
  rw [List.getElem?_map] at h2
  cases hz : ns[i.toNat]? with
  | none => rw [hz] at h2; cases h2
  | some z =>
    rw [hz] at h2
    have e : c = .int z := (Option.some.inj h2).symm
    subst e
    exact ⟨z, h1, rfl⟩
def sp_law (K : PySem.W.Frag) : Sp := fun vs H Q _ => ∃ (a : Addr) (ns : List Int), vs = [.ref a] ∧ SqL K H a (ns.map V.int) ∧ ns.length ≤ 63 ∧ ∀ H', Q (.bl true) H'

theorem noloop {p : (Nat → Nat → St → Hp → Prop) → Prop} (h : ∃ W, p W) : ∃ W, p W := h
theorem nowhile {p : (Nat → St → Hp → Prop) → Prop} (h : ∃ W, p W) : ∃ W, p W := h
theorem iteNT {A B : Prop} (h : B) : if (!true) = true then A else B := h
theorem iteNF {A B : Prop} (h : A) : if (!false) = true then A else B := h
theorem small7 {n : Nat} (h : n ≤ 1000) : n < sizeLine := Nat.lt_of_le_of_lt h (by decide)
theorem cdiv_of {i j : Int} (h1 : 0 < j) (h2 : j < 1073741824) : CDiv i j := ⟨h1, h2⟩
theorem cmulL {i j : Int} (h1 : -(2 ^ 64) < i) (h2 : i < 2 ^ 64) : CMul i j := .inl ⟨h1, h2⟩
theorem cmulR {i j : Int} (h1 : -(2 ^ 64) < j) (h2 : j < 2 ^ 64) : CMul i j := .inr ⟨h1, h2⟩
theorem pos_of {n : Int} (h : 0 < n) : 0 < n := h
@[irreducible] def Here (p : Prop) : Prop := p
theorem Here.mk {p : Prop} (h : p) : Here p := by unfold Here; exact h
theorem Here.out {p : Prop} (h : Here p) : p := by unfold Here at h; exact h
theorem gName_nf {i : Nat} {v : V} {σ σ' : St} {H : Hp} {Q : St → Hp → Prop} (e : σ.set i (some v) = σ') (h : Q σ' H) : gName i v σ H Q := by subst e; exact h

local macro_rules | `(tactic| walk_at "len") => `(tactic| (simp only [List.length_append, List.length_cons, List.length_nil, List.length_singleton, List.length_take, List.length_drop, List.length_map, List.length_reverse, List.length_range] <;> omega))
local macro_rules | `(tactic| walk_at "st") => `(tactic| (try simp only [L2.start, List.map_cons, List.map_nil, List.length_cons, List.length_nil, Nat.reduceAdd, Nat.reduceSub, List.replicate_succ, List.replicate_zero, List.cons_append, List.nil_append]))
local macro_rules | `(tactic| walk_at "lk") => `(tactic| fail)
local macro_rules | `(tactic| walk_at "cl") => `(tactic| first
  | (with_reducible assumption) | rfl
  | (with_reducible show @LE.le Nat _ _ _; first | omega | (walk_at "len") | exact small6 (by omega) | exact small6 (by walk_at "len"))
  | (with_reducible show @LT.lt Nat _ _ _; first | omega | (walk_at "len") | exact small7 (by omega) | exact small7 (by walk_at "len"))
  | (with_reducible show @LE.le Int _ _ _; omega) | (with_reducible show @LT.lt Int _ _ _; omega)
  | ((with_reducible refine cdiv_of ?_ ?_) <;> omega) | ((with_reducible refine cmulL ?_ ?_) <;> omega) | ((with_reducible refine cmulR ?_ ?_) <;> omega) | ((with_reducible refine pos_of ?_) <;> omega)
  | exact upd_same | exact same_new (by with_reducible assumption) _ _ _ upd_same | exact SqL.of (by with_reducible assumption) | exact SqL.of upd_same | exact SqT.of upd_same | exact SqT.of (by with_reducible assumption) | exact Or.inl (by with_reducible assumption) | exact Or.inl (SqL.of (by with_reducible assumption)) | exact Or.inl (SqL.of upd_same)
  | exact Or.inl ⟨rfl, _, SqL.of (by with_reducible assumption)⟩ | exact Or.inl ⟨rfl, _, SqL.of upd_same⟩ | exact Or.inl ⟨rfl, _, by with_reducible assumption⟩ | exact ⟨_, by with_reducible assumption⟩ | exact ⟨_, SqL.of (by with_reducible assumption)⟩ | exact ⟨_, SqL.of upd_same⟩
  | exact ⟨by omega, by omega⟩ | assumption | walk_at "lk")
local macro_rules | `(tactic| walk_at "rd1") => `(tactic| first
  | (with_reducible refine gName_nf (by first | (simp only [List.set_cons_zero, List.set_cons_succ]; done) | (simp only [List.set_cons_zero, List.set_cons_succ]; rfl)) ?_)
  | (with_reducible refine iteT ?_) | (with_reducible refine iteF ?_) | (with_reducible refine iteNT ?_) | (with_reducible refine iteNF ?_)
  | ((fail_if_success apply noloop); (fail_if_success apply nowhile); apply Exists.intro)
  | (apply And.intro; (· walk_at "cl"))
  | (refine Or.inl ⟨_, rfl, ?_⟩) | (refine Or.inr (Or.inl ⟨_, rfl, ?_⟩)) | (refine Or.inr (Or.inr (Or.inl ⟨_, rfl, ?_⟩))) | (refine Or.inr (Or.inr (Or.inr (Or.inl ⟨_, rfl, ?_⟩)))) | (refine Or.inr (Or.inr (Or.inr (Or.inr ⟨_, _, rfl, by with_reducible assumption, ?_⟩)))))
local macro_rules | `(tactic| walk_at "rd") => `(tactic| repeat (walk_at "rd1"))

/-! ### counts -/
def CntAt (C : Addr) (H : Hp) (p : Addr) (n : Int) (m : List Nat) (d : Int) : Prop := ∃ dx, H p = some (.ins C dx [("many", .int n), ("marks", T m), ("days", .int d)])
theorem CntAt.same {C : Addr} {H H' : Hp} {p : Addr} {n d : Int} {m : List Nat} (h : CntAt C H p n m d) (s : Same H H') : CntAt C H' p n m d := let ⟨dx, e⟩ := h; ⟨dx, s _ _ e⟩
theorem lk_many (x y z : V) : List.lookup ("many" : Str) [(("many" : Str), x), ("marks", y), ("days", z)] = some x := by rw [List.lookup_cons, beq_self_eq_true]
theorem lk_marks (x y z : V) : List.lookup ("marks" : Str) [(("many" : Str), x), ("marks", y), ("days", z)] = some y := by
  rw [List.lookup_cons, beq_eq_false_iff_ne.mpr (by decide +kernel), List.lookup_cons, beq_self_eq_true]
theorem lk_days (x y z : V) : List.lookup ("days" : Str) [(("many" : Str), x), ("marks", y), ("days", z)] = some z := by
  rw [List.lookup_cons, beq_eq_false_iff_ne.mpr (by decide +kernel), List.lookup_cons, beq_eq_false_iff_ne.mpr (by decide +kernel), List.lookup_cons, beq_self_eq_true]
theorem put3 (n : Int) (m : List Nat) (d : Int) : putF "days" (.int d) (putF "marks" (T m) (putF "many" (.int n) [])) = ([("many", .int n), ("marks", T m), ("days", .int d)] : List (Str × V)) := by
  have h1 : ¬ (("many" : Str) = "marks") := by decide +kernel
  have h2 : ¬ (("many" : Str) = "days") := by decide +kernel
  have h3 : ¬ (("marks" : Str) = "days") := by decide +kernel
  simp [putF, h1, h2, h3]
def sp_init3 (C : Addr) : Sp := fun vs H Q _ => ∃ p dx n m d, vs = [.ref p, .int n, T m, .int d] ∧ H p = some (.ins C dx []) ∧ Q .non (upd (upd (upd H p (.ins C dx (putF "many" (.int n) []))) p (.ins C dx (putF "marks" (T m) (putF "many" (.int n) [])))) p (.ins C dx [("many", .int n), ("marks", T m), ("days", .int d)]))
def sp_reach3 (C : Addr) : Sp := fun vs H Q _ => ∃ p n m d, vs = [.ref p] ∧ CntAt C H p n m d ∧ Q (.int d) H
/-! ### rules as trees -/
def NevAt (C : Addr) (H : Hp) (p : Addr) (w : List Nat) : Prop := ∃ dx, H p = some (.ins C dx [("word", T w)])
theorem NevAt.same {C : Addr} {H H' : Hp} {p : Addr} {w : List Nat} (h : NevAt C H p w) (s : Same H H') : NevAt C H' p w := let ⟨dx, e⟩ := h; ⟨dx, s _ _ e⟩
theorem wl (v : V) : List.lookup ("word" : Str) [(("word" : Str), v)] = some v := by rw [List.lookup_cons, beq_self_eq_true]
def sp_init (C : Addr) : Sp := fun vs H Q _ => ∃ p dx w, vs = [.ref p, T w] ∧ H p = some (.ins C dx []) ∧ Q .non (upd H p (.ins C dx [("word", T w)]))
def sp_reach (C : Addr) : Sp := fun vs H Q _ => ∃ p w, vs = [.ref p] ∧ NevAt C H p w ∧ w.length ≤ 1000 ∧ Q (.int w.length) H
inductive R where
  | nev (w : List Nat)
  | most (n : Int) (m : List Nat) (d : Int)
  | least (n : Int) (m : List Nat) (d : Int)
  | both (l r : R)
  | either (l r : R)
  | neg (i : R)
def R.depth : R → Nat
  | .nev _ => 0
  | .most _ _ _ => 0
  | .least _ _ _ => 0
  | .both l r => max l.depth r.depth + 1
  | .either l r => max l.depth r.depth + 1
  | .neg i => i.depth + 1
def R.reach : R → Int
  | .nev w => w.length
  | .most _ _ d => d
  | .least _ _ d => d
  | .both l r => if r.reach > l.reach then r.reach else l.reach
  | .either l r => if r.reach > l.reach then r.reach else l.reach
  | .neg i => i.reach
structure Cs where
  nev : Addr
  most : Addr
  least : Addr
  both : Addr
  either : Addr
  neg : Addr
def R.cls (c : Cs) : R → Addr
  | .nev _ => c.nev
  | .most _ _ _ => c.most
  | .least _ _ _ => c.least
  | .both _ _ => c.both
  | .either _ _ => c.either
  | .neg _ => c.neg
/-- the rule stands at p -/
def RuleAt (c : Cs) (H : Hp) : R → Addr → Prop
  | .nev w, p => NevAt c.nev H p w ∧ w.length ≤ 1000
  | .most n m d, p => CntAt c.most H p n m d ∧ m.length ≤ 1000 ∧ 0 ≤ d
  | .least n m d, p => CntAt c.least H p n m d ∧ m.length ≤ 1000 ∧ 0 ≤ d
  | .both l r, p => ∃ dx a b, H p = some (.ins c.both dx [("left", .ref a), ("right", .ref b)]) ∧ RuleAt c H l a ∧ RuleAt c H r b
  | .either l r, p => ∃ dx a b, H p = some (.ins c.either dx [("left", .ref a), ("right", .ref b)]) ∧ RuleAt c H l a ∧ RuleAt c H r b
  | .neg i, p => ∃ dx a, H p = some (.ins c.neg dx [("inner", .ref a)]) ∧ RuleAt c H i a
theorem RuleAt.same {c : Cs} {H H' : Hp} (s : Same H H') : ∀ {r : R} {p : Addr}, RuleAt c H r p → RuleAt c H' r p
  | .nev _, _, h => ⟨h.1.same s, h.2⟩
  | .most _ _ _, _, h => ⟨h.1.same s, h.2⟩
  | .least _ _ _, _, h => ⟨h.1.same s, h.2⟩
  | .both _ _, _, ⟨dx, a, b, e, h1, h2⟩ => ⟨dx, a, b, s _ _ e, RuleAt.same s h1, RuleAt.same s h2⟩
  | .either _ _, _, ⟨dx, a, b, e, h1, h2⟩ => ⟨dx, a, b, s _ _ e, RuleAt.same s h1, RuleAt.same s h2⟩
  | .neg _, _, ⟨dx, a, e, h1⟩ => ⟨dx, a, s _ _ e, RuleAt.same s h1⟩
/-- a rule's own object: its class; it has no method's name among its fields -/
theorem RuleAt.obj {c : Cs} {H : Hp} {r : R} {p : Addr} (h : RuleAt c H r p) : ∃ dx fs, H p = some (.ins (r.cls c) dx fs) ∧ fs.lookup ("bad" : Str) = none ∧ fs.lookup ("reach" : Str) = none ∧ fs.lookup ("text" : Str) = none := by
  have no1 : ∀ (x m : Str) (v : V), m ≠ x → List.lookup m [(x, v)] = none := fun x m v hm => by rw [List.lookup_cons, beq_eq_false_iff_ne.mpr hm]; rfl
  have no2 : ∀ (x y m : Str) (v u : V), m ≠ x → m ≠ y → List.lookup m [(x, v), (y, u)] = none := fun x y m v u h1 h2 => by rw [List.lookup_cons, beq_eq_false_iff_ne.mpr h1]; exact no1 _ _ _ h2
  have no3 : ∀ (x y z m : Str) (v u t : V), m ≠ x → m ≠ y → m ≠ z → List.lookup m [(x, v), (y, u), (z, t)] = none := fun x y z m v u t h1 h2 h3 => by rw [List.lookup_cons, beq_eq_false_iff_ne.mpr h1]; exact no2 _ _ _ _ _ h2 h3
  cases r with
  | nev w =>
    obtain ⟨⟨dx, e⟩, _⟩ := h
    exact ⟨dx, _, e, no1 _ _ _ (by decide +kernel), no1 _ _ _ (by decide +kernel), no1 _ _ _ (by decide +kernel)⟩
  | most n m d =>
    obtain ⟨⟨dx, e⟩, _⟩ := h
    exact ⟨dx, _, e, no3 _ _ _ _ _ _ _ (by decide +kernel) (by decide +kernel) (by decide +kernel), no3 _ _ _ _ _ _ _ (by decide +kernel) (by decide +kernel) (by decide +kernel), no3 _ _ _ _ _ _ _ (by decide +kernel) (by decide +kernel) (by decide +kernel)⟩
  | least n m d =>
    obtain ⟨⟨dx, e⟩, _⟩ := h
    exact ⟨dx, _, e, no3 _ _ _ _ _ _ _ (by decide +kernel) (by decide +kernel) (by decide +kernel), no3 _ _ _ _ _ _ _ (by decide +kernel) (by decide +kernel) (by decide +kernel), no3 _ _ _ _ _ _ _ (by decide +kernel) (by decide +kernel) (by decide +kernel)⟩
  | both l r =>
    obtain ⟨dx, a, b, e, _⟩ := h
    exact ⟨dx, _, e, no2 _ _ _ _ _ (by decide +kernel) (by decide +kernel), no2 _ _ _ _ _ (by decide +kernel) (by decide +kernel), no2 _ _ _ _ _ (by decide +kernel) (by decide +kernel)⟩
  | either l r =>
    obtain ⟨dx, a, b, e, _⟩ := h
    exact ⟨dx, _, e, no2 _ _ _ _ _ (by decide +kernel) (by decide +kernel), no2 _ _ _ _ _ (by decide +kernel) (by decide +kernel), no2 _ _ _ _ _ (by decide +kernel) (by decide +kernel)⟩
  | neg i =>
    obtain ⟨dx, a, e, _⟩ := h
    exact ⟨dx, _, e, no1 _ _ _ (by decide +kernel), no1 _ _ _ (by decide +kernel), no1 _ _ _ (by decide +kernel)⟩
def sp_far (c : Cs) (r : R) : Sp := fun vs H Q _ => ∃ p, vs = [.ref p] ∧ RuleAt c H r p ∧ Q (.int r.reach) H

/-! ### a rule hangs on the last marks alone -/
/-! ### rules made -/
def rNev (c6 : Cs) : List V → Hp → VK → Prop := fun vs H Q => ∃ w, vs = [T w] ∧ w.length ≤ 1000 ∧ ∀ p H', Same H H' → RuleAt c6 H' (.nev w) p → Q (.ref p) H'
def rMost (c6 : Cs) : List V → Hp → VK → Prop := fun vs H Q => ∃ n m d, vs = [.int n, T m, .int d] ∧ m.length ≤ 1000 ∧ 0 ≤ d ∧ ∀ p H', Same H H' → RuleAt c6 H' (.most n m d) p → Q (.ref p) H'
def rLeast (c6 : Cs) : List V → Hp → VK → Prop := fun vs H Q => ∃ n m d, vs = [.int n, T m, .int d] ∧ m.length ≤ 1000 ∧ 0 ≤ d ∧ ∀ p H', Same H H' → RuleAt c6 H' (.least n m d) p → Q (.ref p) H'
theorem mk_nev {c6 : Cs} : ∀ vs H Q, rNev c6 vs H Q → ∀ x dx, H x = none → H dx = none → dx ≠ x → sp_init c6.nev (.ref x :: (vs ++ [])) (upd (upd H dx (.own x)) x (.ins c6.nev dx [])) (fun v H2 => v = .non ∧ Q (.ref x) H2) E0 := by
  rintro _ H Q ⟨w, rfl, hw, q⟩ x dx nx ndx _
  exact ⟨x, dx, w, rfl, upd_same, rfl, q x _ (((same_new ndx _).upd nx).upd nx) ⟨⟨dx, upd_same⟩, hw⟩⟩
theorem mk_most {c6 : Cs} : ∀ vs H Q, rMost c6 vs H Q → ∀ x dx, H x = none → H dx = none → dx ≠ x → sp_init3 c6.most (.ref x :: (vs ++ [])) (upd (upd H dx (.own x)) x (.ins c6.most dx [])) (fun v H2 => v = .non ∧ Q (.ref x) H2) E0 := by
  rintro _ H Q ⟨n, m, d, rfl, hm, hd, q⟩ x dx nx ndx _
  exact ⟨x, dx, n, m, d, rfl, upd_same, rfl, q x _ (((((same_new ndx _).upd nx).upd nx).upd nx).upd nx) ⟨⟨dx, upd_same⟩, hm, hd⟩⟩
theorem mk_least {c6 : Cs} : ∀ vs H Q, rLeast c6 vs H Q → ∀ x dx, H x = none → H dx = none → dx ≠ x → sp_init3 c6.least (.ref x :: (vs ++ [])) (upd (upd H dx (.own x)) x (.ins c6.least dx [])) (fun v H2 => v = .non ∧ Q (.ref x) H2) E0 := by
  rintro _ H Q ⟨n, m, d, rfl, hm, hd, q⟩ x dx nx ndx _
  exact ⟨x, dx, n, m, d, rfl, upd_same, rfl, q x _ (((((same_new ndx _).upd nx).upd nx).upd nx).upd nx) ⟨⟨dx, upd_same⟩, hm, hd⟩⟩
/-! ### persons and houses -/
theorem lk_eq {f : Str} {v : V} {r : List (Str × V)} : List.lookup f ((f, v) :: r) = some v := by rw [List.lookup_cons, beq_self_eq_true]
theorem lk_ne {f g : Str} {v : V} {r : List (Str × V)} (h : f ≠ g) : List.lookup f ((g, v) :: r) = List.lookup f r := by rw [List.lookup_cons, beq_eq_false_iff_ne.mpr h]
theorem putN {f : Str} {v : V} : ∀ {fs : List (Str × V)}, (∀ g ∈ fs.map (·.1), g ≠ f) → putF f v fs = fs ++ [(f, v)]
  | [], _ => rfl
  | (g, x) :: r, h => by
    have h1 : ¬ g = f := h g (by simp)
    have ih := putN (f := f) (v := v) (fs := r) fun g hg => h g (by rw [List.map_cons]; exact List.mem_cons_of_mem _ hg)
    show (if g = f then (g, v) :: r else (g, x) :: putF f v r) = _
    rw [if_neg h1, ih]
    rfl
abbrev fP (a b c d e : V) : List (Str × V) := [("name", a), ("skills", b), ("most", c), ("carried", d), ("past", e)]
abbrev fH (a b c d e f g h : V) : List (Str × V) := [("days", a), ("kinds", b), ("needs", c), ("persons", d), ("leave", e), ("wishes", f), ("rules", g), ("pairs", h)]
theorem lP_name (a b c d e : V) : List.lookup ("name" : Str) (fP a b c d e) = some a := lk_eq
theorem lH_persons (a b c d e f g h : V) : List.lookup ("persons" : Str) (fH a b c d e f g h) = some d := by rw [lk_ne (by decide +kernel), lk_ne (by decide +kernel), lk_ne (by decide +kernel), lk_eq]
theorem lH_rules (a b c d e f g h : V) : List.lookup ("rules" : Str) (fH a b c d e f g h) = some g := by rw [lk_ne (by decide +kernel), lk_ne (by decide +kernel), lk_ne (by decide +kernel), lk_ne (by decide +kernel), lk_ne (by decide +kernel), lk_ne (by decide +kernel), lk_eq]
theorem lH_pairs (a b c d e f g h : V) : List.lookup ("pairs" : Str) (fH a b c d e f g h) = some h := by rw [lk_ne (by decide +kernel), lk_ne (by decide +kernel), lk_ne (by decide +kernel), lk_ne (by decide +kernel), lk_ne (by decide +kernel), lk_ne (by decide +kernel), lk_ne (by decide +kernel), lk_eq]
/-- the person at p -/
def PerAt (C : Addr) (H : Hp) (p : Addr) (nm sk : List Nat) (m c : Int) (pa : List Nat) : Prop := ∃ dx, H p = some (.ins C dx (fP (T nm) (T sk) (.int m) (.int c) (T pa)))
theorem PerAt.keeps {C : Addr} {H H' : Hp} {p : Addr} {nm sk pa : List Nat} {m c : Int} (h : PerAt C H p nm sk m c pa) (k : Keeps H H') : PerAt C H' p nm sk m c pa := let ⟨dx, e⟩ := h; ⟨dx, k _ _ e fun zs z => by cases z⟩
/-- the house at p: its lists' places, and what they hold -/
def HouAt (C : Addr) (H : Hp) (p : Addr) (d : Int) (k : List Nat) (a1 a2 a3 a4 a5 a6 : Addr) : Prop := ∃ dx, H p = some (.ins C dx (fH (.int d) (T k) (.ref a1) (.ref a2) (.ref a3) (.ref a4) (.ref a5) (.ref a6)))
theorem HouAt.keeps {C : Addr} {H H' : Hp} {p : Addr} {d : Int} {k : List Nat} {a1 a2 a3 a4 a5 a6 : Addr} (h : HouAt C H p d k a1 a2 a3 a4 a5 a6) (kk : Keeps H H') : HouAt C H' p d k a1 a2 a3 a4 a5 a6 := let ⟨dx, e⟩ := h; ⟨dx, kk _ _ e fun zs z => by cases z⟩
def But (p : Addr) (H H' : Hp) : Prop := ∀ a o, a ≠ p → H a = some o → H' a = some o
theorem But.refl (p : Addr) (H : Hp) : But p H H := fun _ _ _ h => h
theorem But.at {p : Addr} {H H' : Hp} {o : HO} (b : But p H H') : But p H (upd H' p o) := fun a u n e => by rw [upd_ne n]; exact b a u n e
theorem But.new {p l : Addr} {H H' : Hp} {o : HO} (b : But p H H') (hl : H' l = none) : But p H (upd H' l o) := fun a u n e => by
  have := b a u n e
  rw [upd_ne (ne_of_none this hl)]; exact this
def sp_pinit (C : Addr) : Sp := fun vs H Q _ => ∃ p dx a b c d e, vs = [.ref p, a, b, c, d, e] ∧ H p = some (.ins C dx []) ∧ ∀ H', But p H H' → H' p = some (.ins C dx (fP a b c d e)) → Q .non H'
def sp_hinit (C : Addr) : Sp := fun vs H Q _ => ∃ p dx d k b1 b2 b3 b4 b5 b6 x1 x2 x3 x4 x5 x6, vs = [.ref p, d, k, .ref b1, .ref b2, .ref b3, .ref b4, .ref b5, .ref b6] ∧ H p = some (.ins C dx []) ∧
  H b1 = some (.lst x1) ∧ H b2 = some (.lst x2) ∧ H b3 = some (.lst x3) ∧ H b4 = some (.lst x4) ∧ H b5 = some (.lst x5) ∧ H b6 = some (.lst x6) ∧
  ∀ H' a1 a2 a3 a4 a5 a6, But p H H' → H' p = some (.ins C dx (fH d k (.ref a1) (.ref a2) (.ref a3) (.ref a4) (.ref a5) (.ref a6))) → H' a1 = some (.lst x1) → H' a2 = some (.lst x2) → H' a3 = some (.lst x3) → H' a4 = some (.lst x4) → H' a5 = some (.lst x5) → H' a6 = some (.lst x6) →
    H a1 = none → H a2 = none → H a3 = none → H a4 = none → H a5 = none → H a6 = none → Q .non H'
def rPer (C : Addr) : List V → Hp → VK → Prop := fun vs H Q => ∃ nm sk m c pa, vs = [T nm, T sk, .int m, .int c, T pa] ∧ ∀ p H', Same H H' → H p = none → PerAt C H' p nm sk m c pa → Q (.ref p) H'
def rHou (C : Addr) : List V → Hp → VK → Prop := fun vs H Q => ∃ d k b1 b2 b3 b4 b5 b6 x1 x2 x3 x4 x5 x6, vs = [.int d, T k, .ref b1, .ref b2, .ref b3, .ref b4, .ref b5, .ref b6] ∧
  H b1 = some (.lst x1) ∧ H b2 = some (.lst x2) ∧ H b3 = some (.lst x3) ∧ H b4 = some (.lst x4) ∧ H b5 = some (.lst x5) ∧ H b6 = some (.lst x6) ∧
  ∀ p H' a1 a2 a3 a4 a5 a6, Same H H' → HouAt C H' p d k a1 a2 a3 a4 a5 a6 → H' a1 = some (.lst x1) → H' a2 = some (.lst x2) → H' a3 = some (.lst x3) → H' a4 = some (.lst x4) → H' a5 = some (.lst x5) → H' a6 = some (.lst x6) →
    H a1 = none → H a2 = none → H a3 = none → H a4 = none → H a5 = none → H a6 = none → Q (.ref p) H'
theorem made_same {H H' : Hp} {x dx : Addr} {u o : HO} (nx : H x = none) (nd : H dx = none) (b : But x (upd (upd H dx u) x o) H') : Same H H' := fun a v e => by
  have h1 : a ≠ x := ne_of_none e nx
  refine b a v h1 ?_
  rw [upd_ne h1, upd_ne (ne_of_none e nd)]
  exact e
theorem made_free {H : Hp} {x dx a : Addr} {u o : HO} (h : upd (upd H dx u) x o a = none) : H a = none := by
  have h1 : a ≠ x := fun z => by subst z; rw [upd_same] at h; cases h
  rw [upd_ne h1] at h
  have h2 : a ≠ dx := fun z => by subst z; rw [upd_same] at h; cases h
  rw [upd_ne h2] at h
  exact h
theorem made_at {H : Hp} {x dx a : Addr} {u o v : HO} (nx : H x = none) (nd : H dx = none) (e : H a = some v) : upd (upd H dx u) x o a = some v := by
  rw [upd_ne (ne_of_none e nx), upd_ne (ne_of_none e nd)]; exact e
theorem mk_per {C : Addr} : ∀ vs H Q, rPer C vs H Q → ∀ x dx, H x = none → H dx = none → dx ≠ x → sp_pinit C (.ref x :: (vs ++ [])) (upd (upd H dx (.own x)) x (.ins C dx [])) (fun v H2 => v = .non ∧ Q (.ref x) H2) E0 := by
  rintro _ H Q ⟨nm, sk, m, c, pa, rfl, q⟩ x dx nx nd _
  exact ⟨x, dx, _, _, _, _, _, rfl, upd_same, fun H' b e => ⟨rfl, q x H' (made_same nx nd b) nx ⟨dx, e⟩⟩⟩
theorem mk_hou {C : Addr} : ∀ vs H Q, rHou C vs H Q → ∀ x dx, H x = none → H dx = none → dx ≠ x → sp_hinit C (.ref x :: (vs ++ [])) (upd (upd H dx (.own x)) x (.ins C dx [])) (fun v H2 => v = .non ∧ Q (.ref x) H2) E0 := by
  rintro _ H Q ⟨d, k, b1, b2, b3, b4, b5, b6, x1, x2, x3, x4, x5, x6, rfl, h1, h2, h3, h4, h5, h6, q⟩ x dx nx nd _
  exact ⟨x, dx, _, _, b1, b2, b3, b4, b5, b6, x1, x2, x3, x4, x5, x6, rfl, upd_same, made_at nx nd h1, made_at nx nd h2, made_at nx nd h3, made_at nx nd h4, made_at nx nd h5, made_at nx nd h6,
    fun H' a1 a2 a3 a4 a5 a6 b e e1 e2 e3 e4 e5 e6 n1 n2 n3 n4 n5 n6 => ⟨rfl, q x H' a1 a2 a3 a4 a5 a6 (made_same nx nd b) ⟨dx, e⟩ e1 e2 e3 e4 e5 e6 (made_free n1) (made_free n2) (made_free n3) (made_free n4) (made_free n5) (made_free n6)⟩⟩

/-! ### what the laws draw -/
def cellF (ns : List Int) (k : Int) : Int := ns.getD k.toNat 0
def sp_cellx (K : PySem.W.Frag) : Sp := fun vs H Q _ => ∃ (a : Addr) (ns : List Int) (k : Int), vs = [.ref a, .int k] ∧ SqL K H a (ns.map V.int) ∧ 0 ≤ k ∧ Q (.int (cellF ns k)) H
def sp_whole : Sp := fun vs H Q _ => ∃ (n : Int), vs = [.int n] ∧ Q (.bl true) H
abbrev abc : List Nat := [97, 98, 99, 100, 101, 102, 103, 104, 105, 106, 107, 108, 109, 110, 111, 112, 113, 114, 115, 116, 117, 118, 119, 120, 121, 122]
abbrev ABC : List Nat := [65, 66, 67, 68, 69, 70, 71, 72, 73, 74, 75, 76, 77, 78, 79, 80, 81, 82, 83, 84, 85, 86, 87, 88, 89, 90]
def ltr (i : Int) : Nat := 97 + i.toNat
def cap (i : Int) : Nat := 65 + i.toNat
theorem at_abc (i : Int) (h0 : 0 ≤ i) (h1 : i < 26) : atI abc i = some (ltr i) := by
  obtain ⟨c, h2, h3⟩ := at_some abc i h0 (by show i < 26; exact h1)
  have key : ∀ n : Nat, n < 26 → abc[n]? = some (97 + n) := by decide
  rw [h2]
  rw [key i.toNat (by omega)] at h3
  exact h3.symm
theorem at_ABC (i : Int) (h0 : 0 ≤ i) (h1 : i < 26) : atI ABC i = some (cap i) := by
  obtain ⟨c, h2, h3⟩ := at_some ABC i h0 (by show i < 26; exact h1)
  have key : ∀ n : Nat, n < 26 → ABC[n]? = some (65 + n) := by decide
  rw [h2]
  rw [key i.toNat (by omega)] at h3
  exact h3.symm
def bodyF (c : Int) : List Nat := (List.range (c / 3 % 8).toNat).map fun (k : Nat) => ltr (c / (16 + 5 * (0 + (k : Int))) % 26)
theorem bodyF_len (c : Int) : (bodyF c).length ≤ 7 := by
  unfold bodyF
  rw [List.length_map, List.length_range]
  have h1 : c / 3 % 8 < 8 := Int.emod_lt_of_pos _ (by decide)
  omega
def nameF0 (c p : Int) : List Nat := cutN (bodyF c) none (some (c / 7 % ((bodyF c).length + 1))) ++ [ltr ((c + p) % 26)] ++ cutN (bodyF c) (some (c / 7 % ((bodyF c).length + 1))) none
def nameF (c p : Int) : List Nat := if nameF0 c p = [97, 108, 108] then [97, 108, 108, 101] else nameF0 c p
theorem nameF0_len (c p : Int) : (nameF0 c p).length ≤ 15 := by
  unfold nameF0
  have h := bodyF_len c
  have c1 := cut_len (bodyF c) none (some (c / 7 % ((bodyF c).length + 1)))
  have c2 := cut_len (bodyF c) (some (c / 7 % ((bodyF c).length + 1))) none
  simp only [List.length_append, List.length_cons, List.length_nil]
  omega
theorem nameF_len (c p : Int) : (nameF c p).length ≤ 15 := by
  unfold nameF
  split
  · decide
  · exact nameF0_len c p
theorem nameF0_inj {c p q : Int} (hp : 0 ≤ p ∧ p < 26) (hq : 0 ≤ q ∧ q < 26) (h : nameF0 c p = nameF0 c q) : p = q := by
  unfold nameF0 at h
  have h1 := List.append_cancel_right h
  have h2 := List.append_cancel_left h1
  have h3 : ltr ((c + p) % 26) = ltr ((c + q) % 26) := by simpa using h2
  unfold ltr at h3
  have a0 : 0 ≤ (c + p) % 26 := Int.emod_nonneg _ (by decide)
  have b0 : 0 ≤ (c + q) % 26 := Int.emod_nonneg _ (by decide)
  omega
theorem nameF_inj {c p q : Int} (hp : 0 ≤ p ∧ p < 26) (hq : 0 ≤ q ∧ q < 26) (h : nameF c p = nameF c q) : p = q := by
  have hl : ∀ p q : Int, 0 ≤ p → nameF0 c p = [97, 108, 108] → nameF0 c q = [97, 108, 108, 101] → False := fun p q _ e1 e2 => by
    have l1 := congrArg List.length e1
    have l2 := congrArg List.length e2
    unfold nameF0 at l1 l2
    simp only [List.length_append, List.length_cons, List.length_nil] at l1 l2
    omega
  unfold nameF at h
  by_cases h1 : nameF0 c p = [97, 108, 108] <;> by_cases h2 : nameF0 c q = [97, 108, 108]
  · exact nameF0_inj hp hq (h1.trans h2.symm)
  · rw [if_pos h1, if_neg h2] at h
    exact (hl p q hp.1 h1 h.symm).elim
  · rw [if_neg h1, if_pos h2] at h
    exact (hl q p hq.1 h2 h).elim
  · rw [if_neg h1, if_neg h2] at h
    exact nameF0_inj hp hq h
def sp_name : Sp := fun vs H Q _ => ∃ (c p : Int), vs = [.int c, .int p] ∧ ∀ H', Same H H' → Q (T (nameF c p)) H'
def onI (g : Int → Nat) : V → V
  | .int i => T [g i]
  | v => v
theorem rng_ones (n : Nat) (g : Int → Nat) : (((List.range n).map fun (i : Nat) => V.int (0 + (i : Int))).map (onI g)) = (((List.range n).map fun (i : Nat) => g (0 + (i : Int))).map fun c => [c]).map T := by
  simp only [List.map_map]
  rfl
theorem cell_lit {ns : List Int} {k : Int} (h0 : 0 ≤ k) (h : k < ns.length) : atI (ns.map V.int) k = some (.int (cellF ns k)) := by
  obtain ⟨z, h1, h2⟩ := at_int ns k h0 h
  unfold cellF
  rw [h1, List.getD_eq_getElem?_getD, h2]
  rfl
theorem cell_out {ns : List Int} {k : Int} (h : (ns.length : Int) ≤ k) : cellF ns k = 0 := by
  unfold cellF
  rw [List.getD_eq_getElem?_getD, List.getElem?_eq_none (by omega)]
  rfl

/-- a person of which one knows the name -/
def PerN (C : Addr) : List Nat → V → Hp → Prop := fun nm y H => ∃ a sk m c pa, y = .ref a ∧ PerAt C H a nm sk m c pa
theorem PerN.keeps {C : Addr} (nm : List Nat) (y : V) (Ha Hb : Hp) (k : Keeps Ha Hb) (h : PerN C nm y Ha) : PerN C nm y Hb := by
  obtain ⟨a, sk, m, c, pa, e, h⟩ := h
  exact ⟨a, sk, m, c, pa, e, h.keeps k⟩
/-- the house at h with persons of these names -/
def HouN (C1 C2 : Addr) (H : Hp) (h : Addr) (nms : List (List Nat)) : Prop := ∃ d k a1 a2 a3 a4 a5 a6 qs, HouAt C2 H h d k a1 a2 a3 a4 a5 a6 ∧ H a2 = some (.lst qs) ∧ All2 (PerN C1) H nms qs
theorem HouN.same {C1 C2 : Addr} {H H' : Hp} {h : Addr} {nms : List (List Nat)} (x : HouN C1 C2 H h nms) (s : Same H H') : HouN C1 C2 H' h nms := by
  obtain ⟨d, k, a1, a2, a3, a4, a5, a6, qs, h1, h2, h3⟩ := x
  exact ⟨d, k, a1, a2, a3, a4, a5, a6, qs, h1.keeps s.keeps, s _ _ h2, h3.imp fun a y => PerN.keeps a y _ _ s.keeps⟩
section
variable {P : Program} {w : World} {K : PySem.W.Frag} {mg : Str → Option Value} {base : Heap} {C_Never C_Most C_Least C_Person C_House C_RotaError C_NoName C_NoDay C_Faulty C_NoHouse C_NoRow C_NoRule C_TooWide : Addr}

theorem g_Never_init (tx : Tx K mg C_Never C_Most C_Least C_Person C_House C_RotaError C_NoName C_NoDay C_Faulty C_NoHouse C_NoRow C_NoRule C_TooWide) : MtG P w K mg base C_Never "__init__" 1 ["self", "word"] (sp_init C_Never) := by
  refine tx.m_Never_init.g tx.c_Never.cl sc_Never_init (fun _ _ _ _ _ _ us hl => match us, hl with | [_, _], _ => rfl) (fun vs H Q E h => ?_) (fun f cdv A outer s H vs Q E hr h => ?_)
  · obtain ⟨p, dx, w, rfl, _⟩ := h
    rfl
  · obtain ⟨p, dx, w, rfl, hp, q⟩ := h
    refine ⟨_, (pss_one (ps_fld (pv 0) (pv 1) rfl)), ?_⟩
    walk_at "st"
    exact ⟨_, rfl, _, rfl, p, C_Never, dx, [], rfl, hp, tx.c_Never.cl, tx.n_Never_word, by decide, q⟩


theorem g_Never_reach (tx : Tx K mg C_Never C_Most C_Least C_Person C_House C_RotaError C_NoName C_NoDay C_Faulty C_NoHouse C_NoRow C_NoRule C_TooWide) : MtG P w K mg base C_Never "reach" 1 ["self"] (sp_reach C_Never) := by
  refine tx.m_Never_reach.g tx.c_Never.cl sc_Never_reach (fun _ _ _ _ _ _ us hl => match us, hl with | [_], _ => rfl) (fun vs H Q E h => ?_) (fun f cdv A outer s H vs Q E hr h => ?_)
  · obtain ⟨p, w, rfl, _⟩ := h
    rfl
  · obtain ⟨p, w, rfl, ⟨dx, hp⟩, hw, q⟩ := h
    refine ⟨_, (pss_one (ps_ret (pe_callB call_lenS rfl tx.z_len PySem.boot_len (pa_cons (pe_fldK (K := K) rfl (pv 0) rfl) pa_nil)))), ?_⟩
    walk_at "st"
    exact ⟨_, rfl, p, C_Never, dx, _, _, rfl, hp, tx.c_Never.cl, tx.n_Never_word, wl _, w, rfl, small6 hw, q⟩


theorem g_Most_init (tx : Tx K mg C_Never C_Most C_Least C_Person C_House C_RotaError C_NoName C_NoDay C_Faulty C_NoHouse C_NoRow C_NoRule C_TooWide) : MtG P w K mg base C_Most "__init__" 1 ["self", "many", "marks", "days"] (sp_init3 C_Most) := by
  refine tx.m_Most_init.g tx.c_Most.cl sc_Most_init (fun _ _ _ _ _ _ us hl => match us, hl with | [_, _, _, _], _ => rfl) (fun vs H Q E h => ?_) (fun f cdv A outer s H vs Q E hr h => ?_)
  · obtain ⟨p, dx, n, m, d, rfl, _⟩ := h
    rfl
  · obtain ⟨p, dx, n, m, d, rfl, hp, q⟩ := h
    refine ⟨_, (pss_cons (ps_fld (pv 0) (pv 1) rfl)
      (pss_cons (ps_fld (pv 0) (pv 2) rfl)
      (pss_one (ps_fld (pv 0) (pv 3) rfl)))), ?_⟩
    walk_at "st"
    refine ⟨_, rfl, _, rfl, p, C_Most, dx, [], rfl, hp, tx.c_Most.cl, tx.n_Most_many, by decide, ?_⟩
    refine ⟨_, rfl, _, rfl, p, C_Most, dx, _, rfl, upd_same, tx.c_Most.cl, tx.n_Most_marks, by show 1 < 1000; decide, ?_⟩
    refine ⟨_, rfl, _, rfl, p, C_Most, dx, _, rfl, upd_same, tx.c_Most.cl, tx.n_Most_days, ?_, ?_⟩
    · have := length_putF "marks" (T m) (putF "many" (.int n) [])
      have h2 := length_putF "many" (V.int n) []
      have h3 : ([] : List (Str × V)).length = 0 := rfl
      omega
    rw [put3]
    exact q


theorem g_Most_reach (tx : Tx K mg C_Never C_Most C_Least C_Person C_House C_RotaError C_NoName C_NoDay C_Faulty C_NoHouse C_NoRow C_NoRule C_TooWide) : MtG P w K mg base C_Most "reach" 1 ["self"] (sp_reach3 C_Most) := by
  refine tx.m_Most_reach.g tx.c_Most.cl sc_Most_reach (fun _ _ _ _ _ _ us hl => match us, hl with | [_], _ => rfl) (fun vs H Q E h => ?_) (fun f cdv A outer s H vs Q E hr h => ?_)
  · obtain ⟨p, n, m, d, rfl, _⟩ := h
    rfl
  · obtain ⟨p, n, m, d, rfl, ⟨dx, hp⟩, q⟩ := h
    refine ⟨_, (pss_one (ps_ret (pe_fldK (K := K) rfl (pv 0) rfl))), ?_⟩
    walk_at "st"
    exact ⟨_, rfl, p, C_Most, dx, _, _, rfl, hp, tx.c_Most.cl, tx.n_Most_days, lk_days _ _ _, q⟩


theorem g_Least_init (tx : Tx K mg C_Never C_Most C_Least C_Person C_House C_RotaError C_NoName C_NoDay C_Faulty C_NoHouse C_NoRow C_NoRule C_TooWide) : MtG P w K mg base C_Least "__init__" 1 ["self", "many", "marks", "days"] (sp_init3 C_Least) := by
  refine tx.m_Least_init.g tx.c_Least.cl sc_Least_init (fun _ _ _ _ _ _ us hl => match us, hl with | [_, _, _, _], _ => rfl) (fun vs H Q E h => ?_) (fun f cdv A outer s H vs Q E hr h => ?_)
  · obtain ⟨p, dx, n, m, d, rfl, _⟩ := h
    rfl
  · obtain ⟨p, dx, n, m, d, rfl, hp, q⟩ := h
    refine ⟨_, (pss_cons (ps_fld (pv 0) (pv 1) rfl)
      (pss_cons (ps_fld (pv 0) (pv 2) rfl)
      (pss_one (ps_fld (pv 0) (pv 3) rfl)))), ?_⟩
    walk_at "st"
    refine ⟨_, rfl, _, rfl, p, C_Least, dx, [], rfl, hp, tx.c_Least.cl, tx.n_Least_many, by decide, ?_⟩
    refine ⟨_, rfl, _, rfl, p, C_Least, dx, _, rfl, upd_same, tx.c_Least.cl, tx.n_Least_marks, by show 1 < 1000; decide, ?_⟩
    refine ⟨_, rfl, _, rfl, p, C_Least, dx, _, rfl, upd_same, tx.c_Least.cl, tx.n_Least_days, ?_, ?_⟩
    · have := length_putF "marks" (T m) (putF "many" (.int n) [])
      have h2 := length_putF "many" (V.int n) []
      have h3 : ([] : List (Str × V)).length = 0 := rfl
      omega
    rw [put3]
    exact q


theorem g_Least_reach (tx : Tx K mg C_Never C_Most C_Least C_Person C_House C_RotaError C_NoName C_NoDay C_Faulty C_NoHouse C_NoRow C_NoRule C_TooWide) : MtG P w K mg base C_Least "reach" 1 ["self"] (sp_reach3 C_Least) := by
  refine tx.m_Least_reach.g tx.c_Least.cl sc_Least_reach (fun _ _ _ _ _ _ us hl => match us, hl with | [_], _ => rfl) (fun vs H Q E h => ?_) (fun f cdv A outer s H vs Q E hr h => ?_)
  · obtain ⟨p, n, m, d, rfl, _⟩ := h
    rfl
  · obtain ⟨p, n, m, d, rfl, ⟨dx, hp⟩, q⟩ := h
    refine ⟨_, (pss_one (ps_ret (pe_fldK (K := K) rfl (pv 0) rfl))), ?_⟩
    walk_at "st"
    exact ⟨_, rfl, p, C_Least, dx, _, _, rfl, hp, tx.c_Least.cl, tx.n_Least_days, lk_days _ _ _, q⟩


theorem g_Person_init (tx : Tx K mg C_Never C_Most C_Least C_Person C_House C_RotaError C_NoName C_NoDay C_Faulty C_NoHouse C_NoRow C_NoRule C_TooWide) : MtG P w K mg base C_Person "__init__" 1 ["self", "name", "skills", "most", "carried", "past"] (sp_pinit C_Person) := by
  refine tx.m_Person_init.g tx.c_Person.cl sc_Person_init (fun _ _ _ _ _ _ us hl => match us, hl with | [_, _, _, _, _, _], _ => rfl) (fun vs H Q E h => ?_) (fun f cdv A outer s H vs Q E hr h => ?_)
  · obtain ⟨p, dx, a, b, c, d, e, rfl, _⟩ := h
    rfl
  · obtain ⟨p, dx, a, b, c, d, e, rfl, hp, q⟩ := h
    refine ⟨_, (pss_cons (ps_fld (pv 0) (pv 1) rfl)
      (pss_cons (ps_fld (pv 0) (pv 2) rfl)
      (pss_cons (ps_fld (pv 0) (pv 3) rfl)
      (pss_cons (ps_fld (pv 0) (pv 4) rfl)
      (pss_one (ps_fld (pv 0) (pv 5) rfl)))))), ?_⟩
    walk_at "st"
    refine ⟨_, rfl, _, rfl, p, C_Person, dx, [], rfl, hp, tx.c_Person.cl, tx.n_Person_name, (by show 0 < 1000; decide), ?_⟩
    refine ⟨_, rfl, _, rfl, p, C_Person, dx, [("name", a)], rfl, upd_same, tx.c_Person.cl, tx.n_Person_skills, (by show 1 < 1000; decide), ?_⟩
    rw [putN (fs := [("name", a)]) (show ∀ g ∈ [("name" : Str)], g ≠ "skills" from by decide +kernel)]
    refine ⟨_, rfl, _, rfl, p, C_Person, dx, [("name", a), ("skills", b)], rfl, upd_same, tx.c_Person.cl, tx.n_Person_most, (by show 2 < 1000; decide), ?_⟩
    rw [putN (fs := [("name", a), ("skills", b)]) (show ∀ g ∈ [("name" : Str), "skills"], g ≠ "most" from by decide +kernel)]
    refine ⟨_, rfl, _, rfl, p, C_Person, dx, [("name", a), ("skills", b), ("most", c)], rfl, upd_same, tx.c_Person.cl, tx.n_Person_carried, (by show 3 < 1000; decide), ?_⟩
    rw [putN (fs := [("name", a), ("skills", b), ("most", c)]) (show ∀ g ∈ [("name" : Str), "skills", "most"], g ≠ "carried" from by decide +kernel)]
    refine ⟨_, rfl, _, rfl, p, C_Person, dx, [("name", a), ("skills", b), ("most", c), ("carried", d)], rfl, upd_same, tx.c_Person.cl, tx.n_Person_past, (by show 4 < 1000; decide), ?_⟩
    rw [putN (fs := [("name", a), ("skills", b), ("most", c), ("carried", d)]) (show ∀ g ∈ [("name" : Str), "skills", "most", "carried"], g ≠ "past" from by decide +kernel)]
    exact q _ (But.refl p H).at.at.at.at.at upd_same

theorem g_House_init (tx : Tx K mg C_Never C_Most C_Least C_Person C_House C_RotaError C_NoName C_NoDay C_Faulty C_NoHouse C_NoRow C_NoRule C_TooWide) : MtG P w K mg base C_House "__init__" 1 ["self", "days", "kinds", "needs", "persons", "leave", "wishes", "rules", "pairs"] (sp_hinit C_House) := by
  refine tx.m_House_init.g tx.c_House.cl sc_House_init (fun _ _ _ _ _ _ us hl => match us, hl with | [_, _, _, _, _, _, _, _, _], _ => rfl) (fun vs H Q E h => ?_) (fun f cdv A outer s H vs Q E hr h => ?_)
  · obtain ⟨p, dx, d, k, b1, b2, b3, b4, b5, b6, x1, x2, x3, x4, x5, x6, rfl, _⟩ := h
    rfl
  · obtain ⟨p, dx, d, k, b1, b2, b3, b4, b5, b6, x1, x2, x3, x4, x5, x6, rfl, hp, h1, h2, h3, h4, h5, h6, q⟩ := h
    refine ⟨_, (pss_cons (ps_fld (pv 0) (pv 1) rfl)
      (pss_cons (ps_fld (pv 0) (pv 2) rfl)
      (pss_cons (ps_fld (pv 0) (pe_callTy call_list_of rfl tx.z_list bt_ty_list (pa_cons (pv 3) pa_nil)) rfl)
      (pss_cons (ps_fld (pv 0) (pe_callTy call_list_of rfl tx.z_list bt_ty_list (pa_cons (pv 4) pa_nil)) rfl)
      (pss_cons (ps_fld (pv 0) (pe_callTy call_list_of rfl tx.z_list bt_ty_list (pa_cons (pv 5) pa_nil)) rfl)
      (pss_cons (ps_fld (pv 0) (pe_callTy call_list_of rfl tx.z_list bt_ty_list (pa_cons (pv 6) pa_nil)) rfl)
      (pss_cons (ps_fld (pv 0) (pe_callTy call_list_of rfl tx.z_list bt_ty_list (pa_cons (pv 7) pa_nil)) rfl)
      (pss_one (ps_fld (pv 0) (pe_callTy call_list_of rfl tx.z_list bt_ty_list (pa_cons (pv 8) pa_nil)) rfl))))))))), ?_⟩
    walk_at "st"
    have nb : ∀ {b : Addr} {x : List V}, H b = some (.lst x) → b ≠ p := fun e => ne_of e hp (by intro z; cases z)
    refine ⟨_, rfl, _, rfl, p, C_House, dx, [], rfl, hp, tx.c_House.cl, tx.n_House_days, (by show 0 < 1000; decide), ?_⟩
    refine ⟨_, rfl, _, rfl, p, C_House, dx, [("days", d)], rfl, upd_same, tx.c_House.cl, tx.n_House_kinds, (by show 1 < 1000; decide), ?_⟩
    rw [putN (fs := [("days", d)]) (show ∀ g ∈ [("days" : Str)], g ≠ "kinds" from by decide +kernel)]
    have B0 : But p H (upd (upd H p (.ins C_House dx (putF "days" d []))) p (.ins C_House dx ([(("days" : Str), d)] ++ [(("kinds" : Str), k)]))) := (But.refl p H).at.at
    have e0 : upd (upd H p (.ins C_House dx (putF "days" d []))) p (.ins C_House dx ([(("days" : Str), d)] ++ [(("kinds" : Str), k)])) p = some (.ins C_House dx [("days", d), ("kinds", k)]) := upd_same
    generalize upd (upd H p (.ins C_House dx (putF "days" d []))) p (.ins C_House dx ([(("days" : Str), d)] ++ [(("kinds" : Str), k)])) = H0 at B0 e0 ⊢
    -- needs
    refine ⟨_, rfl, b1, x1, rfl, .inl (SqL.of (B0 _ _ (nb h1) h1)), fun a1 n1 => ?_⟩
    refine ⟨_, rfl, p, C_House, dx, [("days", d), ("kinds", k)], rfl, (upd_ne (ne_of_none e0 n1)).trans e0, tx.c_House.cl, tx.n_House_needs, (by show 2 < 1000; decide), ?_⟩
    rw [putN (fs := [("days", d), ("kinds", k)]) (show ∀ g ∈ [("days" : Str), "kinds"], g ≠ "needs" from by decide +kernel)]
    have z1 : a1 ≠ p := (ne_of_none e0 n1).symm
    have B1 : But p H (upd (upd H0 a1 (.lst x1)) p (.ins C_House dx ([(("days" : Str), d), ("kinds", k)] ++ [(("needs" : Str), .ref a1)]))) := (B0.new n1).at
    have e1 : upd (upd H0 a1 (.lst x1)) p (.ins C_House dx ([(("days" : Str), d), ("kinds", k)] ++ [(("needs" : Str), .ref a1)])) p = some (.ins C_House dx [("days", d), ("kinds", k), ("needs", .ref a1)]) := upd_same
    have y1 : upd (upd H0 a1 (.lst x1)) p (.ins C_House dx ([(("days" : Str), d), ("kinds", k)] ++ [(("needs" : Str), .ref a1)])) a1 = some (.lst x1) := by rw [upd_ne z1]; exact upd_same
    have m1 : H a1 = none := by cases hh : H a1 with | none => rfl | some o => rw [B0 _ _ z1 hh] at n1; cases n1
    generalize upd (upd H0 a1 (.lst x1)) p (.ins C_House dx ([(("days" : Str), d), ("kinds", k)] ++ [(("needs" : Str), .ref a1)])) = H1 at B1 e1 y1 ⊢
    -- persons
    refine ⟨_, rfl, b2, x2, rfl, .inl (SqL.of (B1 _ _ (nb h2) h2)), fun a2 n2 => ?_⟩
    refine ⟨_, rfl, p, C_House, dx, [("days", d), ("kinds", k), ("needs", .ref a1)], rfl, (upd_ne (ne_of_none e1 n2)).trans e1, tx.c_House.cl, tx.n_House_persons, (by show 3 < 1000; decide), ?_⟩
    rw [putN (fs := [("days", d), ("kinds", k), ("needs", .ref a1)]) (show ∀ g ∈ [("days" : Str), "kinds", "needs"], g ≠ "persons" from by decide +kernel)]
    have z2 : a2 ≠ p := (ne_of_none e1 n2).symm
    have B2 : But p H (upd (upd H1 a2 (.lst x2)) p (.ins C_House dx ([(("days" : Str), d), ("kinds", k), ("needs", .ref a1)] ++ [(("persons" : Str), .ref a2)]))) := (B1.new n2).at
    have e2 : upd (upd H1 a2 (.lst x2)) p (.ins C_House dx ([(("days" : Str), d), ("kinds", k), ("needs", .ref a1)] ++ [(("persons" : Str), .ref a2)])) p = some (.ins C_House dx [("days", d), ("kinds", k), ("needs", .ref a1), ("persons", .ref a2)]) := upd_same
    have y2 : upd (upd H1 a2 (.lst x2)) p (.ins C_House dx ([(("days" : Str), d), ("kinds", k), ("needs", .ref a1)] ++ [(("persons" : Str), .ref a2)])) a2 = some (.lst x2) := by rw [upd_ne z2]; exact upd_same
    have y12 : upd (upd H1 a2 (.lst x2)) p (.ins C_House dx ([(("days" : Str), d), ("kinds", k), ("needs", .ref a1)] ++ [(("persons" : Str), .ref a2)])) a1 = some (.lst x1) := by rw [upd_ne z1, upd_ne (ne_of_none y1 n2)]; exact y1
    have m2 : H a2 = none := by cases hh : H a2 with | none => rfl | some o => rw [B1 _ _ z2 hh] at n2; cases n2
    generalize upd (upd H1 a2 (.lst x2)) p (.ins C_House dx ([(("days" : Str), d), ("kinds", k), ("needs", .ref a1)] ++ [(("persons" : Str), .ref a2)])) = H2 at B2 e2 y2 y12 ⊢
    -- leave
    refine ⟨_, rfl, b3, x3, rfl, .inl (SqL.of (B2 _ _ (nb h3) h3)), fun a3 n3 => ?_⟩
    refine ⟨_, rfl, p, C_House, dx, [("days", d), ("kinds", k), ("needs", .ref a1), ("persons", .ref a2)], rfl, (upd_ne (ne_of_none e2 n3)).trans e2, tx.c_House.cl, tx.n_House_leave, (by show 4 < 1000; decide), ?_⟩
    rw [putN (fs := [("days", d), ("kinds", k), ("needs", .ref a1), ("persons", .ref a2)]) (show ∀ g ∈ [("days" : Str), "kinds", "needs", "persons"], g ≠ "leave" from by decide +kernel)]
    have z3 : a3 ≠ p := (ne_of_none e2 n3).symm
    have B3 : But p H (upd (upd H2 a3 (.lst x3)) p (.ins C_House dx ([(("days" : Str), d), ("kinds", k), ("needs", .ref a1), ("persons", .ref a2)] ++ [(("leave" : Str), .ref a3)]))) := (B2.new n3).at
    have e3 : upd (upd H2 a3 (.lst x3)) p (.ins C_House dx ([(("days" : Str), d), ("kinds", k), ("needs", .ref a1), ("persons", .ref a2)] ++ [(("leave" : Str), .ref a3)])) p = some (.ins C_House dx [("days", d), ("kinds", k), ("needs", .ref a1), ("persons", .ref a2), ("leave", .ref a3)]) := upd_same
    have y3 : upd (upd H2 a3 (.lst x3)) p (.ins C_House dx ([(("days" : Str), d), ("kinds", k), ("needs", .ref a1), ("persons", .ref a2)] ++ [(("leave" : Str), .ref a3)])) a3 = some (.lst x3) := by rw [upd_ne z3]; exact upd_same
    have y13 : upd (upd H2 a3 (.lst x3)) p (.ins C_House dx ([(("days" : Str), d), ("kinds", k), ("needs", .ref a1), ("persons", .ref a2)] ++ [(("leave" : Str), .ref a3)])) a1 = some (.lst x1) := by rw [upd_ne z1, upd_ne (ne_of_none y12 n3)]; exact y12
    have y23 : upd (upd H2 a3 (.lst x3)) p (.ins C_House dx ([(("days" : Str), d), ("kinds", k), ("needs", .ref a1), ("persons", .ref a2)] ++ [(("leave" : Str), .ref a3)])) a2 = some (.lst x2) := by rw [upd_ne z2, upd_ne (ne_of_none y2 n3)]; exact y2
    have m3 : H a3 = none := by cases hh : H a3 with | none => rfl | some o => rw [B2 _ _ z3 hh] at n3; cases n3
    generalize upd (upd H2 a3 (.lst x3)) p (.ins C_House dx ([(("days" : Str), d), ("kinds", k), ("needs", .ref a1), ("persons", .ref a2)] ++ [(("leave" : Str), .ref a3)])) = H3 at B3 e3 y3 y13 y23 ⊢
    -- wishes
    refine ⟨_, rfl, b4, x4, rfl, .inl (SqL.of (B3 _ _ (nb h4) h4)), fun a4 n4 => ?_⟩
    refine ⟨_, rfl, p, C_House, dx, [("days", d), ("kinds", k), ("needs", .ref a1), ("persons", .ref a2), ("leave", .ref a3)], rfl, (upd_ne (ne_of_none e3 n4)).trans e3, tx.c_House.cl, tx.n_House_wishes, (by show 5 < 1000; decide), ?_⟩
    rw [putN (fs := [("days", d), ("kinds", k), ("needs", .ref a1), ("persons", .ref a2), ("leave", .ref a3)]) (show ∀ g ∈ [("days" : Str), "kinds", "needs", "persons", "leave"], g ≠ "wishes" from by decide +kernel)]
    have z4 : a4 ≠ p := (ne_of_none e3 n4).symm
    have B4 : But p H (upd (upd H3 a4 (.lst x4)) p (.ins C_House dx ([(("days" : Str), d), ("kinds", k), ("needs", .ref a1), ("persons", .ref a2), ("leave", .ref a3)] ++ [(("wishes" : Str), .ref a4)]))) := (B3.new n4).at
    have e4 : upd (upd H3 a4 (.lst x4)) p (.ins C_House dx ([(("days" : Str), d), ("kinds", k), ("needs", .ref a1), ("persons", .ref a2), ("leave", .ref a3)] ++ [(("wishes" : Str), .ref a4)])) p = some (.ins C_House dx [("days", d), ("kinds", k), ("needs", .ref a1), ("persons", .ref a2), ("leave", .ref a3), ("wishes", .ref a4)]) := upd_same
    have y4 : upd (upd H3 a4 (.lst x4)) p (.ins C_House dx ([(("days" : Str), d), ("kinds", k), ("needs", .ref a1), ("persons", .ref a2), ("leave", .ref a3)] ++ [(("wishes" : Str), .ref a4)])) a4 = some (.lst x4) := by rw [upd_ne z4]; exact upd_same
    have y14 : upd (upd H3 a4 (.lst x4)) p (.ins C_House dx ([(("days" : Str), d), ("kinds", k), ("needs", .ref a1), ("persons", .ref a2), ("leave", .ref a3)] ++ [(("wishes" : Str), .ref a4)])) a1 = some (.lst x1) := by rw [upd_ne z1, upd_ne (ne_of_none y13 n4)]; exact y13
    have y24 : upd (upd H3 a4 (.lst x4)) p (.ins C_House dx ([(("days" : Str), d), ("kinds", k), ("needs", .ref a1), ("persons", .ref a2), ("leave", .ref a3)] ++ [(("wishes" : Str), .ref a4)])) a2 = some (.lst x2) := by rw [upd_ne z2, upd_ne (ne_of_none y23 n4)]; exact y23
    have y34 : upd (upd H3 a4 (.lst x4)) p (.ins C_House dx ([(("days" : Str), d), ("kinds", k), ("needs", .ref a1), ("persons", .ref a2), ("leave", .ref a3)] ++ [(("wishes" : Str), .ref a4)])) a3 = some (.lst x3) := by rw [upd_ne z3, upd_ne (ne_of_none y3 n4)]; exact y3
    have m4 : H a4 = none := by cases hh : H a4 with | none => rfl | some o => rw [B3 _ _ z4 hh] at n4; cases n4
    generalize upd (upd H3 a4 (.lst x4)) p (.ins C_House dx ([(("days" : Str), d), ("kinds", k), ("needs", .ref a1), ("persons", .ref a2), ("leave", .ref a3)] ++ [(("wishes" : Str), .ref a4)])) = H4 at B4 e4 y4 y14 y24 y34 ⊢
    -- rules
    refine ⟨_, rfl, b5, x5, rfl, .inl (SqL.of (B4 _ _ (nb h5) h5)), fun a5 n5 => ?_⟩
    refine ⟨_, rfl, p, C_House, dx, [("days", d), ("kinds", k), ("needs", .ref a1), ("persons", .ref a2), ("leave", .ref a3), ("wishes", .ref a4)], rfl, (upd_ne (ne_of_none e4 n5)).trans e4, tx.c_House.cl, tx.n_House_rules, (by show 6 < 1000; decide), ?_⟩
    rw [putN (fs := [("days", d), ("kinds", k), ("needs", .ref a1), ("persons", .ref a2), ("leave", .ref a3), ("wishes", .ref a4)]) (show ∀ g ∈ [("days" : Str), "kinds", "needs", "persons", "leave", "wishes"], g ≠ "rules" from by decide +kernel)]
    have z5 : a5 ≠ p := (ne_of_none e4 n5).symm
    have B5 : But p H (upd (upd H4 a5 (.lst x5)) p (.ins C_House dx ([(("days" : Str), d), ("kinds", k), ("needs", .ref a1), ("persons", .ref a2), ("leave", .ref a3), ("wishes", .ref a4)] ++ [(("rules" : Str), .ref a5)]))) := (B4.new n5).at
    have e5 : upd (upd H4 a5 (.lst x5)) p (.ins C_House dx ([(("days" : Str), d), ("kinds", k), ("needs", .ref a1), ("persons", .ref a2), ("leave", .ref a3), ("wishes", .ref a4)] ++ [(("rules" : Str), .ref a5)])) p = some (.ins C_House dx [("days", d), ("kinds", k), ("needs", .ref a1), ("persons", .ref a2), ("leave", .ref a3), ("wishes", .ref a4), ("rules", .ref a5)]) := upd_same
    have y5 : upd (upd H4 a5 (.lst x5)) p (.ins C_House dx ([(("days" : Str), d), ("kinds", k), ("needs", .ref a1), ("persons", .ref a2), ("leave", .ref a3), ("wishes", .ref a4)] ++ [(("rules" : Str), .ref a5)])) a5 = some (.lst x5) := by rw [upd_ne z5]; exact upd_same
    have y15 : upd (upd H4 a5 (.lst x5)) p (.ins C_House dx ([(("days" : Str), d), ("kinds", k), ("needs", .ref a1), ("persons", .ref a2), ("leave", .ref a3), ("wishes", .ref a4)] ++ [(("rules" : Str), .ref a5)])) a1 = some (.lst x1) := by rw [upd_ne z1, upd_ne (ne_of_none y14 n5)]; exact y14
    have y25 : upd (upd H4 a5 (.lst x5)) p (.ins C_House dx ([(("days" : Str), d), ("kinds", k), ("needs", .ref a1), ("persons", .ref a2), ("leave", .ref a3), ("wishes", .ref a4)] ++ [(("rules" : Str), .ref a5)])) a2 = some (.lst x2) := by rw [upd_ne z2, upd_ne (ne_of_none y24 n5)]; exact y24
    have y35 : upd (upd H4 a5 (.lst x5)) p (.ins C_House dx ([(("days" : Str), d), ("kinds", k), ("needs", .ref a1), ("persons", .ref a2), ("leave", .ref a3), ("wishes", .ref a4)] ++ [(("rules" : Str), .ref a5)])) a3 = some (.lst x3) := by rw [upd_ne z3, upd_ne (ne_of_none y34 n5)]; exact y34
    have y45 : upd (upd H4 a5 (.lst x5)) p (.ins C_House dx ([(("days" : Str), d), ("kinds", k), ("needs", .ref a1), ("persons", .ref a2), ("leave", .ref a3), ("wishes", .ref a4)] ++ [(("rules" : Str), .ref a5)])) a4 = some (.lst x4) := by rw [upd_ne z4, upd_ne (ne_of_none y4 n5)]; exact y4
    have m5 : H a5 = none := by cases hh : H a5 with | none => rfl | some o => rw [B4 _ _ z5 hh] at n5; cases n5
    generalize upd (upd H4 a5 (.lst x5)) p (.ins C_House dx ([(("days" : Str), d), ("kinds", k), ("needs", .ref a1), ("persons", .ref a2), ("leave", .ref a3), ("wishes", .ref a4)] ++ [(("rules" : Str), .ref a5)])) = H5 at B5 e5 y5 y15 y25 y35 y45 ⊢
    -- pairs
    refine ⟨_, rfl, b6, x6, rfl, .inl (SqL.of (B5 _ _ (nb h6) h6)), fun a6 n6 => ?_⟩
    refine ⟨_, rfl, p, C_House, dx, [("days", d), ("kinds", k), ("needs", .ref a1), ("persons", .ref a2), ("leave", .ref a3), ("wishes", .ref a4), ("rules", .ref a5)], rfl, (upd_ne (ne_of_none e5 n6)).trans e5, tx.c_House.cl, tx.n_House_pairs, (by show 7 < 1000; decide), ?_⟩
    rw [putN (fs := [("days", d), ("kinds", k), ("needs", .ref a1), ("persons", .ref a2), ("leave", .ref a3), ("wishes", .ref a4), ("rules", .ref a5)]) (show ∀ g ∈ [("days" : Str), "kinds", "needs", "persons", "leave", "wishes", "rules"], g ≠ "pairs" from by decide +kernel)]
    have z6 : a6 ≠ p := (ne_of_none e5 n6).symm
    have m6 : H a6 = none := by cases hh : H a6 with | none => rfl | some o => rw [B5 _ _ z6 hh] at n6; cases n6
    refine q _ a1 a2 a3 a4 a5 a6 (B5.new n6).at upd_same ?_ ?_ ?_ ?_ ?_ ?_ m1 m2 m3 m4 m5 m6
    · rw [upd_ne z1, upd_ne (ne_of_none y15 n6)]; exact y15
    · rw [upd_ne z2, upd_ne (ne_of_none y25 n6)]; exact y25
    · rw [upd_ne z3, upd_ne (ne_of_none y35 n6)]; exact y35
    · rw [upd_ne z4, upd_ne (ne_of_none y45 n6)]; exact y45
    · rw [upd_ne z5, upd_ne (ne_of_none y5 n6)]; exact y5
    · rw [upd_ne z6]; exact upd_same


theorem g_law_cell_at (tx : Tx K mg C_Never C_Most C_Least C_Person C_House C_RotaError C_NoName C_NoDay C_Faulty C_NoHouse C_NoRow C_NoRule C_TooWide) : FnG P w K mg base "_law_cell_at" 1 ["_law_script", "_law_k"] (sp_cellx K) := by
  refine tx.f_law_cell_at.g sc_law_cell_at (fun _ _ _ _ _ _ us hl => match us, hl with | [_, _], _ => rfl) (fun vs H Q E h => ?_) (fun f cdv A outer s H vs Q E hr h => ?_)
  · obtain ⟨a, ns, k, rfl, _⟩ := h
    rfl
  · obtain ⟨a, ns, k, rfl, hS, h0, q⟩ := h
    refine ⟨_, (pss_cons (ps_if (pt_cmpR op_lt (pv 1) (pe_callB (call_len_seqK (K := K) rfl) rfl tx.z_len PySem.boot_len (pa_cons (pv 0) pa_nil)) (nomark _)) (pss_one (ps_ret (pe_ix (ix_listK (K := K) rfl) (pv 0) (pv 1) (fun _ _ => rfl)))) pss_nil)
      (pss_one (ps_ret pe_int))), ?_⟩
    walk_at "st"
    walk_at "rd"
    refine ite2 (fun c => ?_) (fun c => ?_)
    · have c' : k < ((ns.map V.int).length : Int) := of_decide_eq_true c
      rw [List.length_map] at c'
      have hv := cell_lit h0 c'
      walk_at "rd"
      exact q
    · have c' : ¬ k < ((ns.map V.int).length : Int) := of_decide_eq_false (Bool.eq_false_iff.mpr c)
      rw [List.length_map] at c'
      walk_at "rd"
      rw [cell_out (by omega)] at q
      exact q

theorem g_law_name (tx : Tx K mg C_Never C_Most C_Least C_Person C_House C_RotaError C_NoName C_NoDay C_Faulty C_NoHouse C_NoRow C_NoRule C_TooWide) : FnG P w K mg base "_law_name" 1 ["_law_cell", "_law_p"] sp_name := by
  refine tx.f_law_name.g sc_law_name (fun _ _ _ _ _ _ us hl => match us, hl with | [_, _], _ => rfl) (fun vs H Q E h => ?_) (fun f cdv A outer s H vs Q E hr h => ?_)
  · obtain ⟨c, p, rfl, _⟩ := h
    rfl
  · obtain ⟨c, p, rfl, q⟩ := h
    refine ⟨_, (pss_cons (ps_set (i := 2) sc_law_name.nd rfl (Or.inr rfl) (pe_txt (l := [97, 98, 99, 100, 101, 102, 103, 104, 105, 106, 107, 108, 109, 110, 111, 112, 113, 114, 115, 116, 117, 118, 119, 120, 121, 122]) (by decide +kernel)))
      (pss_cons (ps_set (i := 3) sc_law_name.nd rfl (Or.inl rfl) (pe_joinK (K := K) rfl (pe_txt (l := []) (by decide +kernel)) (pa_cons (pe_comp (osc := defScope s_law_name) (ON := ["_law_cell", "_law_p", "_law_some", "_law_body", "_law_at", "_law_name_here"]) (N := ["_law_k", "_law_some", "_law_cell"]) (js := [none, some 2, some 0]) ⟨rfl, by decide +kernel, by decide +kernel, by decide +kernel, rfl, by decide +kernel⟩ rfl rfl rfl (pi_range1 rfl tx.z_range (pa_cons (pe_op op_mod (pe_op op_fdiv (pv 0) pe_int) pe_int) pa_nil)) (fun _ _ _ _ _ => pg_name (i := 0) (show List.Nodup (["_law_k", "_law_some", "_law_cell"] : List Str) from by decide +kernel) rfl (Or.inl rfl)) (fun _ _ _ _ _ => pifs_nil) (fun _ _ _ _ _ => (pe_ix ix_txt (pv 1) (pe_op op_mod (pe_op op_fdiv (pv 2) (pe_op op_add pe_int (pe_op op_mul pe_int (pv 0)))) pe_int) (fun _ _ => rfl)))) pa_nil)))
      (pss_cons (ps_set (i := 4) sc_law_name.nd rfl (Or.inl rfl) (pe_op op_mod (pe_op op_fdiv (pv 0) pe_int) (pe_op op_add (pe_callB call_lenS rfl tx.z_len PySem.boot_len (pa_cons (pv 3) pa_nil)) pe_int)))
      (pss_cons (ps_set (i := 5) sc_law_name.nd rfl (Or.inl rfl) (pe_op op_catS (pe_op op_catS (pe_slice sl_txt (pv 3) po_none (po_some (pv 4))) (pe_ix ix_txt (pv 2) (pe_op op_mod (pe_op op_add (pv 0) (pv 1)) pe_int) (fun _ _ => rfl))) (pe_slice sl_txt (pv 3) (po_some (pv 4)) po_none)))
      (pss_cons (ps_if (pt_cmpR op_eq (pv 5) (pe_txt (l := [97, 108, 108]) (by decide +kernel)) (nomark _)) (pss_one (ps_ret (pe_txt (l := [97, 108, 108, 101]) (by decide +kernel)))) pss_nil)
      (pss_one (ps_ret (pv 5)))))))), ?_⟩
    walk_at "st"
    have h0 : 0 ≤ c / 3 % 8 := Int.emod_nonneg _ (by decide)
    have h1 : c / 3 % 8 < 8 := Int.emod_lt_of_pos _ (by decide)
    walk_at "rd"
    refine comp_map (onI fun i => ltr (c / (16 + 5 * i) % 26)) (hands_range 0 (c / 3 % 8).toNat) ?_ (fun x hx H' s' R hR => ?_) (fun D H2 hD s2 hDD => ?_)
    · rw [List.length_map, List.length_range]; omega
    · obtain ⟨k, hk, rfl⟩ := List.mem_map.mp hx
      have hk := List.mem_range.mp hk
      have ha := at_abc (c / (16 + 5 * (0 + (k : Int))) % 26) (Int.emod_nonneg _ (by decide)) (Int.emod_lt_of_pos _ (by decide))
      walk_at "rd"
      exact hR H' (Same.refl _)
    rw [rng_ones _ (fun i => ltr (c / (16 + 5 * i) % 26))] at hDD
    refine ⟨[], _, D, rfl, rfl, SqL.of hDD, ?_, ?_⟩
    · rw [sum_ones, List.length_map, List.length_nil, Nat.mul_zero, List.length_range]
      omega
    rw [joinN_nil, flat_ones]
    have hb := bodyF_len c
    have c1 := cut_len (bodyF c) none (some (c / 7 % ((bodyF c).length + 1)))
    have c2 := cut_len (bodyF c) (some (c / 7 % ((bodyF c).length + 1))) none
    have ha := at_abc ((c + p) % 26) (Int.emod_nonneg _ (by decide)) (Int.emod_lt_of_pos _ (by decide))
    have q' := q H2 s2
    clear q h0 h1 hD hDD s2
    show gName _ (T (bodyF c)) _ _ _
    unfold nameF at q'
    unfold nameF0 at q'
    generalize bodyF c = b at hb c1 c2 q' ⊢
    walk_at "rd"
    refine ite2 (fun e => ?_) (fun e => ?_)
    · have e' := T_inj (of_decide_eq_true e)
      rw [if_pos e'] at q'
      walk_at "rd"
      exact q'
    · have e' : ¬ cutN b none (some (c / 7 % ((b.length : Int) + 1))) ++ [ltr ((c + p) % 26)] ++ cutN b (some (c / 7 % ((b.length : Int) + 1))) none = [97, 108, 108] := fun z => e (decide_eq_true (by rw [z]))
      rw [if_neg e'] at q'
      walk_at "rd"
      exact q'


theorem g_law_whole (tx : Tx K mg C_Never C_Most C_Least C_Person C_House C_RotaError C_NoName C_NoDay C_Faulty C_NoHouse C_NoRow C_NoRule C_TooWide) : FnG P w K mg base "_law_whole" 1 ["_law_found"] sp_whole := by
  refine tx.f_law_whole.g sc_law_whole (fun _ _ _ _ _ _ us hl => match us, hl with | [_], _ => rfl) (fun vs H Q E h => ?_) (fun f cdv A outer s H vs Q E hr h => ?_)
  · obtain ⟨n, rfl, _⟩ := h
    rfl
  · obtain ⟨n, rfl, q⟩ := h
    refine ⟨_, (pss_one (ps_ret (pe_and (pe_callB call_isBl rfl tx.z_isinstance bt_isinstance (pa_cons (pv 0) (pa_cons (pe_ty tx.z_int bt_ty_int) pa_nil))) (pe_one (pe_not (pe_callB call_isBl rfl tx.z_isinstance bt_isinstance (pa_cons (pv 0) (pa_cons (pe_ty tx.z_bool bt_ty_bool) pa_nil)))))))), ?_⟩
    walk_at "st"
    walk_at "rd"
    exact q

end
/-! ### k22: rules told as texts -/
abbrev wAll : List Nat := [97, 108, 108]
abbrev c3 (N M L : Addr) : Cs := ⟨N, M, L, N, N, N⟩
def cntT (w : List Nat) (n : Int) (m : List Nat) (d : Int) : List Nat := w ++ [32] ++ [48 + n.toNat] ++ [32, 111, 102, 32] ++ m ++ [32, 105, 110, 32] ++ [48 + d.toNat]
def R.txt : R → List Nat
  | .nev w => [110, 101, 118, 101, 114, 32] ++ w
  | .most n m d => cntT [109, 111, 115, 116] n m d
  | .least n m d => cntT [108, 101, 97, 115, 116] n m d
  | _ => []
def R.flat : R → Prop
  | .nev w => 1 ≤ w.length ∧ w.length ≤ 9
  | .most n m d => (0 ≤ n ∧ n ≤ 9) ∧ (1 ≤ d ∧ d ≤ 9) ∧ m.length ≤ 9
  | .least n m d => (0 ≤ n ∧ n ≤ 9) ∧ (1 ≤ d ∧ d ≤ 9) ∧ m.length ≤ 9
  | _ => False
theorem R.flat.pos : ∀ {r : R}, r.flat → 1 ≤ r.reach
  | .nev w, h => by have := h.1; show (1 : Int) ≤ (w.length : Int); omega
  | .most _ _ _, h => h.2.1.1
  | .least _ _ _, h => h.2.1.1
theorem RuleAt.keeps {c : Cs} {H H' : Hp} (k : Keeps H H') : ∀ {r : R} {p : Addr}, RuleAt c H r p → RuleAt c H' r p
  | .nev _, _, ⟨⟨dx, e⟩, h⟩ => ⟨⟨dx, k _ _ e fun zs z => by cases z⟩, h⟩
  | .most _ _ _, _, ⟨⟨dx, e⟩, h⟩ => ⟨⟨dx, k _ _ e fun zs z => by cases z⟩, h⟩
  | .least _ _ _, _, ⟨⟨dx, e⟩, h⟩ => ⟨⟨dx, k _ _ e fun zs z => by cases z⟩, h⟩
  | .both _ _, _, ⟨dx, a, b, e, h1, h2⟩ => ⟨dx, a, b, k _ _ e (fun zs z => by cases z), RuleAt.keeps k h1, RuleAt.keeps k h2⟩
  | .either _ _, _, ⟨dx, a, b, e, h1, h2⟩ => ⟨dx, a, b, k _ _ e (fun zs z => by cases z), RuleAt.keeps k h1, RuleAt.keeps k h2⟩
  | .neg _, _, ⟨dx, a, e, h1⟩ => ⟨dx, a, k _ _ e (fun zs z => by cases z), RuleAt.keeps k h1⟩
def sp_ctext : Sp := fun vs H Q _ => ∃ w n m d, vs = [T w, .int n, T m, .int d] ∧ 0 ≤ n ∧ n ≤ 9 ∧ 0 ≤ d ∧ d ≤ 9 ∧ w.length ≤ 9 ∧ m.length ≤ 9 ∧ Q (T (cntT w n m d)) H
def sp_ntext (C : Addr) : Sp := fun vs H Q _ => ∃ p w, vs = [.ref p] ∧ NevAt C H p w ∧ w.length ≤ 9 ∧ Q (T ([110, 101, 118, 101, 114, 32] ++ w)) H
def sp_mtext (C : Addr) (wd : List Nat) : Sp := fun vs H Q _ => ∃ p n m d, vs = [.ref p] ∧ CntAt C H p n m d ∧ 0 ≤ n ∧ n ≤ 9 ∧ 0 ≤ d ∧ d ≤ 9 ∧ m.length ≤ 9 ∧ Q (T (cntT wd n m d)) H
def sp_txt (c : Cs) (r : R) : Sp := fun vs H Q _ => ∃ p, vs = [.ref p] ∧ RuleAt c H r p ∧ Q (T r.txt) H
section
variable {P : Program} {w : World} {K : PySem.W.Frag} {mg : Str → Option Value} {base : Heap} {C_Never C_Most C_Least C_Person C_House C_RotaError C_NoName C_NoDay C_Faulty C_NoHouse C_NoRow C_NoRule C_TooWide : Addr}
local macro_rules | `(tactic| walk_at "lk") => `(tactic| first | exact wl _ | exact lk_many _ _ _ | exact lk_marks _ _ _ | exact lk_days _ _ _)

theorem g_count_text (tx : Tx K mg C_Never C_Most C_Least C_Person C_House C_RotaError C_NoName C_NoDay C_Faulty C_NoHouse C_NoRow C_NoRule C_TooWide) : FnG P w K mg base "count_text" 1 ["word", "many", "marks", "days"] sp_ctext := by
  refine tx.f_count_text.g sc_count_text (fun _ _ _ _ _ _ us hl => match us, hl with | [_, _, _, _], _ => rfl) (fun vs H Q E h => ?_) (fun f cdv A outer s H vs Q E hr h => ?_)
  · obtain ⟨w, n, m, d, rfl, _⟩ := h
    rfl
  · obtain ⟨w, n, m, d, rfl, n0, n1, d0, d1, hw, hm, q⟩ := h
    obtain ⟨n, rfl⟩ : ∃ k : Nat, n = (k : Int) := ⟨n.toNat, by omega⟩
    obtain ⟨d, rfl⟩ : ∃ k : Nat, d = (k : Int) := ⟨d.toNat, by omega⟩
    refine ⟨_, (pss_one (ps_ret (pe_fstr (fvs_cons (fv_str (pv 0)) (fvs_cons (fv_txt (l := [32]) (by decide +kernel)) (fvs_cons (fv_int (pv 1)) (fvs_cons (fv_txt (l := [32, 111, 102, 32]) (by decide +kernel)) (fvs_cons (fv_str (pv 2)) (fvs_cons (fv_txt (l := [32, 105, 110, 32]) (by decide +kernel)) (fvs_cons (fv_int (pv 3)) fvs_nil)))))))))), ?_⟩
    walk_at "st"
    have n2 : n ≤ 9 := by omega
    have d2 : d ≤ 9 := by omega
    walk_at "rd"
    exact q

theorem g_Never_text (tx : Tx K mg C_Never C_Most C_Least C_Person C_House C_RotaError C_NoName C_NoDay C_Faulty C_NoHouse C_NoRow C_NoRule C_TooWide) : MtG P w K mg base C_Never "text" 2 ["self"] (sp_ntext C_Never) := by
  refine tx.m_Never_text.g tx.c_Never.cl sc_Never_text (fun _ _ _ _ _ _ us hl => match us, hl with | [_], _ => rfl) (fun vs H Q E h => ?_) (fun f cdv A outer s H vs Q E hr h => ?_)
  · obtain ⟨p, w, rfl, _⟩ := h
    rfl
  · obtain ⟨p, w, rfl, ⟨dx, hp⟩, hw, q⟩ := h
    refine ⟨_, (pss_one (ps_ret (pe_op op_catS (pe_txt (l := [110, 101, 118, 101, 114, 32]) (by decide +kernel)) (pe_fldK (K := K) rfl (pv 0) rfl)))), ?_⟩
    walk_at "st"
    have c1 := tx.c_Never.cl
    have n1 := tx.n_Never_word
    walk_at "rd"
    exact q

theorem g_Most_text (tx : Tx K mg C_Never C_Most C_Least C_Person C_House C_RotaError C_NoName C_NoDay C_Faulty C_NoHouse C_NoRow C_NoRule C_TooWide) : MtG P w K mg base C_Most "text" 2 ["self"] (sp_mtext C_Most [109, 111, 115, 116]) := by
  have G_count_text := g_count_text (P := P) (w := w) (base := base) tx
  refine tx.m_Most_text.g tx.c_Most.cl sc_Most_text (fun _ _ _ _ _ _ us hl => match us, hl with | [_], _ => rfl) (fun vs H Q E h => ?_) (fun f cdv A outer s H vs Q E hr h => ?_)
  · obtain ⟨p, n, m, d, rfl, _⟩ := h
    rfl
  · obtain ⟨p, n, m, d, rfl, ⟨dx, hp⟩, n0, n1, d0, d1, hm, q⟩ := h
    refine ⟨_, (pss_one (ps_ret (pe_fn G_count_text (hr.mono (by decide)) (pa_cons (pe_txt (l := [109, 111, 115, 116]) (by decide +kernel)) (pa_cons (pe_fldK (K := K) rfl (pv 0) rfl) (pa_cons (pe_fldK (K := K) rfl (pv 0) rfl) (pa_cons (pe_fldK (K := K) rfl (pv 0) rfl) pa_nil))))))), ?_⟩
    walk_at "st"
    clear G_count_text
    have c1 := tx.c_Most.cl
    have k1 := tx.n_Most_many
    have k2 := tx.n_Most_marks
    have k3 := tx.n_Most_days
    walk_at "rd"
    exact q

theorem g_Least_text (tx : Tx K mg C_Never C_Most C_Least C_Person C_House C_RotaError C_NoName C_NoDay C_Faulty C_NoHouse C_NoRow C_NoRule C_TooWide) : MtG P w K mg base C_Least "text" 2 ["self"] (sp_mtext C_Least [108, 101, 97, 115, 116]) := by
  have G_count_text := g_count_text (P := P) (w := w) (base := base) tx
  refine tx.m_Least_text.g tx.c_Least.cl sc_Least_text (fun _ _ _ _ _ _ us hl => match us, hl with | [_], _ => rfl) (fun vs H Q E h => ?_) (fun f cdv A outer s H vs Q E hr h => ?_)
  · obtain ⟨p, n, m, d, rfl, _⟩ := h
    rfl
  · obtain ⟨p, n, m, d, rfl, ⟨dx, hp⟩, n0, n1, d0, d1, hm, q⟩ := h
    refine ⟨_, (pss_one (ps_ret (pe_fn G_count_text (hr.mono (by decide)) (pa_cons (pe_txt (l := [108, 101, 97, 115, 116]) (by decide +kernel)) (pa_cons (pe_fldK (K := K) rfl (pv 0) rfl) (pa_cons (pe_fldK (K := K) rfl (pv 0) rfl) (pa_cons (pe_fldK (K := K) rfl (pv 0) rfl) pa_nil))))))), ?_⟩
    walk_at "st"
    clear G_count_text
    have c1 := tx.c_Least.cl
    have k1 := tx.n_Least_many
    have k2 := tx.n_Least_marks
    have k3 := tx.n_Least_days
    walk_at "rd"
    exact q
theorem g_txt (tx : Tx K mg C_Never C_Most C_Least C_Person C_House C_RotaError C_NoName C_NoDay C_Faulty C_NoHouse C_NoRow C_NoRule C_TooWide) : ∀ r : R, r.flat → MtG P w K mg base (r.cls (c3 C_Never C_Most C_Least)) "text" 2 ["self"] (sp_txt (c3 C_Never C_Most C_Least) r)
  | .nev w, hf => (g_Never_text tx).imp fun vs H Q E ⟨p, e, h, q⟩ => ⟨p, w, e, h.1, hf.2, q⟩
  | .most n m d, hf => (g_Most_text tx).imp fun vs H Q E ⟨p, e, h, q⟩ => ⟨p, n, m, d, e, h.1, hf.1.1, hf.1.2, by have := hf.2.1.1; omega, hf.2.1.2, hf.2.2, q⟩
  | .least n m d, hf => (g_Least_text tx).imp fun vs H Q E ⟨p, e, h, q⟩ => ⟨p, n, m, d, e, h.1, hf.1.1, hf.1.2, by have := hf.2.1.1; omega, hf.2.1.2, hf.2.2, q⟩
theorem g_far3 (tx : Tx K mg C_Never C_Most C_Least C_Person C_House C_RotaError C_NoName C_NoDay C_Faulty C_NoHouse C_NoRow C_NoRule C_TooWide) : ∀ r : R, r.flat → MtG P w K mg base (r.cls (c3 C_Never C_Most C_Least)) "reach" 1 ["self"] (sp_far (c3 C_Never C_Most C_Least) r)
  | .nev w, hf => (g_Never_reach tx).imp fun vs H Q E ⟨p, e, h, q⟩ => ⟨p, w, e, h.1, h.2, q⟩
  | .most n m d, hf => (g_Most_reach tx).imp fun vs H Q E ⟨p, e, h, q⟩ => ⟨p, n, m, d, e, h.1, q⟩
  | .least n m d, hf => (g_Least_reach tx).imp fun vs H Q E ⟨p, e, h, q⟩ => ⟨p, n, m, d, e, h.1, q⟩
end

/-! ### k22: the house -/
theorem op_inK {X : Cx} {K : PySem.W.Frag} (h : X.K = K) : OpR X (compareOp .In) (rIn K false) := h ▸ op_in_seq
theorem newl {H : Hp} {l : Addr} {xs : List V} (h : H l = none) : ∃ H', H' = upd H l (.lst xs) ∧ H' l = some (.lst xs) ∧ Same H H' := ⟨_, rfl, upd_same, same_new h _⟩
theorem newt {H : Hp} {l : Addr} {xs : List V} (h : H l = none) : ∃ H', H' = upd H l (.tup xs) ∧ H' l = some (.tup xs) ∧ Same H H' := ⟨_, rfl, upd_same, same_new h _⟩
theorem lH_m {m : Str} (a b c d e f g h : V) (h1 : m ≠ "days") (h2 : m ≠ "kinds") (h3 : m ≠ "needs") (h4 : m ≠ "persons") (h5 : m ≠ "leave") (h6 : m ≠ "wishes") (h7 : m ≠ "rules") (h8 : m ≠ "pairs") : List.lookup m (fH a b c d e f g h) = none := by
  rw [lk_ne h1, lk_ne h2, lk_ne h3, lk_ne h4, lk_ne h5, lk_ne h6, lk_ne h7, lk_ne h8]
  rfl
theorem lH_place_of (a b c d e f g h : V) : List.lookup ("place_of" : Str) (fH a b c d e f g h) = none := lH_m _ _ _ _ _ _ _ _ (by decide +kernel) (by decide +kernel) (by decide +kernel) (by decide +kernel) (by decide +kernel) (by decide +kernel) (by decide +kernel) (by decide +kernel)
theorem lH_rules_for (a b c d e f g h : V) : List.lookup ("rules_for" : Str) (fH a b c d e f g h) = none := lH_m _ _ _ _ _ _ _ _ (by decide +kernel) (by decide +kernel) (by decide +kernel) (by decide +kernel) (by decide +kernel) (by decide +kernel) (by decide +kernel) (by decide +kernel)
theorem lH_reach_of (a b c d e f g h : V) : List.lookup ("reach_of" : Str) (fH a b c d e f g h) = none := lH_m _ _ _ _ _ _ _ _ (by decide +kernel) (by decide +kernel) (by decide +kernel) (by decide +kernel) (by decide +kernel) (by decide +kernel) (by decide +kernel) (by decide +kernel)
theorem lH_plain (a b c d e f g h : V) : List.lookup ("plain" : Str) (fH a b c d e f g h) = none := lH_m _ _ _ _ _ _ _ _ (by decide +kernel) (by decide +kernel) (by decide +kernel) (by decide +kernel) (by decide +kernel) (by decide +kernel) (by decide +kernel) (by decide +kernel)
def RlT (c : Cs) : List Nat × R → V → Hp → Prop := fun a y H => ∃ t p, y = .ref t ∧ H t = some (.tup [T a.1, .ref p]) ∧ RuleAt c H a.2 p
theorem RlT.keeps {c : Cs} (a : List Nat × R) (y : V) (Ha Hb : Hp) (k : Keeps Ha Hb) (h : RlT c a y Ha) : RlT c a y Hb := let ⟨t, p, e, h1, h2⟩ := h; ⟨t, p, e, k _ _ h1 (fun zs z => by cases z), h2.keeps k⟩
def dfR : List Nat × R := ([], .nev [])
def rAt (rs : List (List Nat × R)) (i : Nat) : List Nat × R := rs.getD i dfR
theorem rAt_of {rs : List (List Nat × R)} {i : Nat} {a : List Nat × R} (h : rs[i]? = some a) : rAt rs i = a := by
  unfold rAt
  rw [List.getD_eq_getElem?_getD, h]
  rfl
def FdT (c : Cs) (rs : List (List Nat × R)) : Nat → V → Hp → Prop := fun i y H => ∃ t p, y = .ref t ∧ H t = some (.tup [.int i, .ref p]) ∧ RuleAt c H (rAt rs i).2 p ∧ i < rs.length
theorem FdT.keeps {c : Cs} {rs : List (List Nat × R)} (a : Nat) (y : V) (Ha Hb : Hp) (k : Keeps Ha Hb) (h : FdT c rs a y Ha) : FdT c rs a y Hb := let ⟨t, p, e, h1, h2, h3⟩ := h; ⟨t, p, e, k _ _ h1 (fun zs z => by cases z), h2.keeps k, h3⟩
def BdT (rs : List (List Nat × R)) : Nat → V → Hp → Prop := fun i y H => ∃ t, y = .ref t ∧ H t = some (.tup [.int i, T (rAt rs i).2.txt, .int (rAt rs i).2.reach])
theorem BdT.keeps {rs : List (List Nat × R)} (a : Nat) (y : V) (Ha Hb : Hp) (k : Keeps Ha Hb) (h : BdT rs a y Ha) : BdT rs a y Hb := let ⟨t, e, h1⟩ := h; ⟨t, e, k _ _ h1 (fun zs z => by cases z)⟩
def mineB (rs : List (List Nat × R)) (nm : List Nat) (i : Nat) : Bool := decide ((rAt rs i).1 ∈ [wAll, nm])
def mineL (rs : List (List Nat × R)) (nm : List Nat) : List Nat := (List.range rs.length).filter (mineB rs nm)
theorem mineL_lt {rs : List (List Nat × R)} {nm : List Nat} {i : Nat} (h : i ∈ mineL rs nm) : i < rs.length := List.mem_range.mp (List.mem_filter.mp h).1
theorem mineL_len (rs : List (List Nat × R)) (nm : List Nat) : (mineL rs nm).length ≤ rs.length := Nat.le_trans (List.length_filter_le _ _) (by rw [List.length_range]; exact Nat.le_refl _)
theorem eqV_T (a b : List Nat) : eqV (T a) (T b) = decide (a = b) := by
  by_cases h : a = b
  · subst h
    rw [decide_eq_true rfl]
    exact decide_eq_true rfl
  · rw [decide_eq_false h]
    exact decide_eq_false fun z => h (T_inj (congrArg V.str z))
theorem inV_T (nm : List Nat) : ∀ nms : List (List Nat), inV (T nm) (nms.map T) = decide (nm ∈ nms)
  | [] => rfl
  | n :: r => by
    have ih := inV_T nm r
    unfold inV at ih ⊢
    rw [List.map_cons, List.any_cons, ih, eqV_T]
    have h : decide (n = nm) = decide (nm = n) := by
      by_cases z : n = nm
      · subst z; rfl
      · rw [decide_eq_false z, decide_eq_false fun y => z y.symm]
    rw [h]
    simp [List.mem_cons, Bool.decide_or]
theorem range_at {n i a : Nat} (h : (List.range n)[i]? = some a) : a = i ∧ i < n := by
  have hi := (List.getElem?_eq_some_iff.mp h).1
  rw [List.length_range] at hi
  rw [List.getElem?_range hi] at h
  exact ⟨(Option.some.inj h).symm, hi⟩
structure HouX (C1 C2 : Addr) (H : Hp) (h : Addr) (d : Int) (k : List Nat) (nms : List (List Nat)) (x1 qs x3 x4 x5 x6 : List V) : Prop where
  ex : ∃ a1 a2 a3 a4 a5 a6, HouAt C2 H h d k a1 a2 a3 a4 a5 a6 ∧ H a1 = some (.lst x1) ∧ H a2 = some (.lst qs) ∧ H a3 = some (.lst x3) ∧ H a4 = some (.lst x4) ∧ H a5 = some (.lst x5) ∧ H a6 = some (.lst x6)
  ps : All2 (PerN C1) H nms qs
theorem HouX.same {C1 C2 : Addr} {H H' : Hp} {h : Addr} {d : Int} {k : List Nat} {nms : List (List Nat)} {x1 qs x3 x4 x5 x6 : List V} (x : HouX C1 C2 H h d k nms x1 qs x3 x4 x5 x6) (s : Same H H') : HouX C1 C2 H' h d k nms x1 qs x3 x4 x5 x6 := by
  obtain ⟨⟨a1, a2, a3, a4, a5, a6, h0, h1, h2, h3, h4, h5, h6⟩, p⟩ := x
  exact ⟨⟨a1, a2, a3, a4, a5, a6, h0.keeps s.keeps, s _ _ h1, s _ _ h2, s _ _ h3, s _ _ h4, s _ _ h5, s _ _ h6⟩, p.imp fun a y => PerN.keeps a y _ _ s.keeps⟩
theorem HouX.n {C1 C2 : Addr} {H : Hp} {h : Addr} {d : Int} {k : List Nat} {nms : List (List Nat)} {x1 qs x3 x4 x5 x6 : List V} (x : HouX C1 C2 H h d k nms x1 qs x3 x4 x5 x6) : HouN C1 C2 H h nms := by
  obtain ⟨⟨a1, a2, a3, a4, a5, a6, h0, h1, h2, _⟩, p⟩ := x
  exact ⟨d, k, a1, a2, a3, a4, a5, a6, qs, h0, h2, p⟩
structure Ho (C1 C2 : Addr) (c : Cs) (H : Hp) (h : Addr) (nms : List (List Nat)) (rs : List (List Nat × R)) (n6 : Nat) : Prop where
  ex : ∃ d k x1 qs x3 x4 x5 x6, HouX C1 C2 H h d k nms x1 qs x3 x4 x5 x6 ∧ All2 (RlT c) H rs x5 ∧ x6.length = n6
theorem Ho.same {C1 C2 : Addr} {c : Cs} {H H' : Hp} {h : Addr} {nms : List (List Nat)} {rs : List (List Nat × R)} {n6 : Nat} (x : Ho C1 C2 c H h nms rs n6) (s : Same H H') : Ho C1 C2 c H' h nms rs n6 := by
  obtain ⟨d, k, x1, qs, x3, x4, x5, x6, h1, h2, h3⟩ := x.ex
  exact ⟨d, k, x1, qs, x3, x4, x5, x6, h1.same s, h2.imp fun a y => RlT.keeps a y _ _ s.keeps, h3⟩
theorem Ho.n {C1 C2 : Addr} {c : Cs} {H : Hp} {h : Addr} {nms : List (List Nat)} {rs : List (List Nat × R)} {n6 : Nat} (x : Ho C1 C2 c H h nms rs n6) : HouN C1 C2 H h nms := by
  obtain ⟨d, k, x1, qs, x3, x4, x5, x6, h1, h2, h3⟩ := x.ex
  exact h1.n
theorem Ho.at {C1 C2 : Addr} {c : Cs} {H : Hp} {h : Addr} {nms : List (List Nat)} {rs : List (List Nat × R)} {n6 : Nat} (x : Ho C1 C2 c H h nms rs n6) : ∃ dx fs, H h = some (.ins C2 dx fs) ∧ List.lookup ("place_of" : Str) fs = none ∧ List.lookup ("rules_for" : Str) fs = none ∧ List.lookup ("reach_of" : Str) fs = none ∧ List.lookup ("plain" : Str) fs = none := by
  obtain ⟨d, k, x1, qs, x3, x4, x5, x6, ⟨⟨a1, a2, a3, a4, a5, a6, ⟨dx, h0⟩, _⟩, _⟩, _⟩ := x.ex
  exact ⟨dx, _, h0, lH_place_of _ _ _ _ _ _ _ _, lH_rules_for _ _ _ _ _ _ _ _, lH_reach_of _ _ _ _ _ _ _ _, lH_plain _ _ _ _ _ _ _ _⟩
def flats (rs : List (List Nat × R)) : Prop := rs.length ≤ 8 ∧ ∀ r ∈ rs, r.2.flat
theorem flats.at {rs : List (List Nat × R)} (h : flats rs) {i : Nat} (hi : i < rs.length) : (rAt rs i).2.flat := by
  rw [rAt_of (List.getElem?_eq_getElem hi)]
  exact h.2 _ (List.getElem_mem _)
def sp_pl (C1 C2 CN : Addr) : Sp := fun vs H Q E => ∃ (h : Addr) (nm : List Nat) (nms : List (List Nat)), vs = [.ref h, T nm] ∧ HouN C1 C2 H h nms ∧ (∀ (k : Nat) (H' : Hp), nms[k]? = some nm → Same H H' → Q (.int k) H') ∧ (¬ nm ∈ nms → ∀ H', Same H H' → E (.ref CN) none H')
def sp_rfor2 (C1 C2 : Addr) (c : Cs) : Sp := fun vs H Q _ => ∃ (h : Addr) (p : Nat) (nm : List Nat) (nms : List (List Nat)) (rs : List (List Nat × R)) (n6 : Nat), vs = [.ref h, .int p] ∧ Ho C1 C2 c H h nms rs n6 ∧ nms[p]? = some nm ∧ rs.length ≤ 8 ∧
  ∀ D H' ys, H D = none → Same H H' → All2 (FdT c rs) H' (mineL rs nm) ys → H' D = some (.lst ys) → Q (.ref D) H'
def fars (rs : List (List Nat × R)) (nm : List Nat) : List Int := (mineL rs nm).map fun i => (rAt rs i).2.reach
def sp_rof (C1 C2 : Addr) (c : Cs) : Sp := fun vs H Q _ => ∃ (h : Addr) (p : Nat) (nm : List Nat) (nms : List (List Nat)) (rs : List (List Nat × R)) (n6 : Nat), vs = [.ref h, .int p] ∧ Ho C1 C2 c H h nms rs n6 ∧ nms[p]? = some nm ∧ flats rs ∧
  ∀ M H', Same H H' → M ∈ (1 : Int) :: fars rs nm → (∀ a ∈ (1 : Int) :: fars rs nm, a ≤ M) → Q (.int M) H'
def sp_plainH (C1 C2 : Addr) (c : Cs) : Sp := fun vs H Q _ => ∃ (h : Addr) (nms : List (List Nat)) (rs : List (List Nat × R)) (n6 : Nat), vs = [.ref h] ∧ Ho C1 C2 c H h nms rs n6 ∧ Q (.bl (decide (rs.length = 0) && decide (n6 = 0))) H
section
variable {P : Program} {w : World} {K : PySem.W.Frag} {mg : Str → Option Value} {base : Heap} {C_Never C_Most C_Least C_Person C_House C_RotaError C_NoName C_NoDay C_Faulty C_NoHouse C_NoRow C_NoRule C_TooWide : Addr}
local macro_rules | `(tactic| walk_at "lk") => `(tactic| first | exact lP_name _ _ _ _ _ | exact lH_persons _ _ _ _ _ _ _ _ | exact lH_rules _ _ _ _ _ _ _ _ | exact lH_pairs _ _ _ _ _ _ _ _ | exact lH_place_of _ _ _ _ _ _ _ _ | exact lH_rules_for _ _ _ _ _ _ _ _)

theorem g_place_of (tx : Tx K mg C_Never C_Most C_Least C_Person C_House C_RotaError C_NoName C_NoDay C_Faulty C_NoHouse C_NoRow C_NoRule C_TooWide) : MtX P w K mg base C_House "place_of" 1 ["self", "name"] (sp_pl C_Person C_House C_NoName) := by
  refine tx.m_House_place_of.x tx.c_House.cl sc_House_place_of (fun _ _ _ _ _ _ us hl => match us, hl with | [_, _], _ => rfl) (fun vs H Q E h => ?_) (fun f cdv A outer s H vs Q E hr h => ?_)
  · obtain ⟨h, nm, nms, rfl, _⟩ := h
    rfl
  · obtain ⟨h, nm, nms, rfl, hC, qy, qn⟩ := h
    refine ⟨_, (pss_cons (ps_for rs_of.own rfl (pi_enumLK (K := K) rfl rfl tx.z_enumerate (pa_cons (pe_fldK (K := K) rfl (pv 0) rfl) pa_nil)) (pg_tup rfl (pgs_cons (pg_name (i := 2) sc_House_place_of.nd rfl (Or.inl rfl)) (pgs_cons (pg_name (i := 3) sc_House_place_of.nd rfl (Or.inl rfl)) pgs_nil))) (pss_one (ps_if (pt_cmpR op_eq (pe_fldK (K := K) rfl (pv 3) rfl) (pv 1) (nomark _)) (pss_one (ps_ret (pv 2))) pss_nil)))
      (pss_one (ps_raise rs_of tx.xc_NoName tx.b_NoName (pa_cons (pe_txt (l := [110, 111, 32, 112, 101, 114, 115, 111, 110, 32, 111, 102, 32, 116, 104, 101, 32, 104, 111, 117, 115, 101, 32, 105, 115, 32, 99, 97, 108, 108, 101, 100, 32, 115, 111]) (by decide +kernel)) pa_nil)))), ?_⟩
    walk_at "st"
    obtain ⟨d, kk, a1, a2, a3, a4, a5, a6, qs, ⟨dx, h1⟩, h2, h3⟩ := hC
    have cH := tx.c_House.cl
    have nH := tx.n_House_persons
    have cP := tx.c_Person.cl
    have nP := tx.n_Person_name
    walk_at "rd"
    refine for_enumL (K := K) (xs := qs) (fun i σ H2 => Here (∃ v1 v2, σ = [some (.ref h), some (T nm), v1, v2] ∧ (∀ j < i, ¬ nms[j]? = some nm) ∧ Same H H2)) (Here.mk ⟨none, none, rfl, fun j z => absurd z (Nat.not_lt_zero _), Same.refl _⟩) (fun i σ H2 _ hv => by obtain ⟨_, _, _, _, s2⟩ := hv.out; exact SqL.of (s2 _ _ h2)) ?_ ?_
    · rintro i x p σ H2 hx hp hv
      obtain ⟨v1, v2, rfl, hi, s2⟩ := hv.out
      obtain ⟨n2, hn2, p1, sk, m, c, pa, rfl, dx2, hp2⟩ := h3.back hx
      have s3 : Same H2 (upd H2 p (.tup [.int i, .ref p1])) := same_new hp _
      have hp3 := s3 _ _ (s2 _ _ hp2)
      walk_at "rd"
      refine ite2 (fun e => ?_) (fun e => ?_)
      · have e' : n2 = nm := T_inj (of_decide_eq_true e)
        subst e'
        walk_at "rd"
        exact qy i _ hn2 (s2.trans s3)
      · have e' : ¬ n2 = nm := fun z => e (decide_eq_true (by rw [z]))
        refine Here.mk ⟨_, _, rfl, fun j hj z => ?_, s2.trans s3⟩
        rcases Nat.lt_or_ge j i with y | y
        · exact hi j y z
        · have : j = i := by omega
          subst this
          rw [z] at hn2
          exact e' (Option.some.inj hn2).symm
    · rintro σ H2 hv
      obtain ⟨v1, v2, rfl, hi, s2⟩ := hv.out
      have hl := h3.len
      refine ⟨by show 1 ≤ sizeLine; decide, qn (fun z => ?_) H2 s2⟩
      obtain ⟨j, hj⟩ := List.getElem?_of_mem z
      exact hi j (by have := (List.getElem?_eq_some_iff.mp hj).1; omega) hj

theorem g_rules_for (tx : Tx K mg C_Never C_Most C_Least C_Person C_House C_RotaError C_NoName C_NoDay C_Faulty C_NoHouse C_NoRow C_NoRule C_TooWide) : MtG P w K mg base C_House "rules_for" 1 ["self", "p"] (sp_rfor2 C_Person C_House (c3 C_Never C_Most C_Least)) := by
  refine tx.m_House_rules_for.g tx.c_House.cl sc_House_rules_for (fun _ _ _ _ _ _ us hl => match us, hl with | [_, _], _ => rfl) (fun vs H Q E h => ?_) (fun f cdv A outer s H vs Q E hr h => ?_)
  · obtain ⟨h, p, nm, nms, rs, n6, rfl, _⟩ := h
    rfl
  · obtain ⟨h, p, nm, nms, rs, n6, rfl, hO, hp, hrs, q⟩ := h
    refine ⟨_, (pss_cons (ps_set (i := 2) sc_House_rules_for.nd rfl (Or.inr rfl) (pe_tup (pa_cons (pe_txt (l := [97, 108, 108]) (by decide +kernel)) (pa_cons (pe_fldK (K := K) rfl (pe_ix (ix_listK (K := K) rfl) (pe_fldK (K := K) rfl (pv 0) rfl) (pv 1) (fun _ _ => rfl)) rfl) pa_nil))))
      (pss_one (ps_ret (pe_comp (osc := defScope s_House_rules_for) (ON := ["self", "p", "names"]) (N := ["number", "told", "names"]) (js := [none, none, some 2]) ⟨rfl, by decide +kernel, by decide +kernel, by decide +kernel, rfl, by decide +kernel⟩ rfl rfl rfl (pi_enumLK (K := K) rfl rfl tx.z_enumerate (pa_cons (pe_fldK (K := K) rfl (pv 0) rfl) pa_nil)) (fun _ _ _ _ _ => pg_two (K := K) (i := 0) (j := 1) rfl rfl (show List.Nodup (["number", "told", "names"] : List Str) from by decide +kernel) rfl rfl (Or.inl rfl) (Or.inl rfl)) (fun _ _ _ _ _ => pifs_one (pt_cmpR (op_inK (K := K) rfl) (pe_ix (ix_tupK (K := K) rfl) (pv 1) pe_int (fun _ _ => rfl)) (pv 2) rfl)) (fun _ _ _ _ _ => (pe_tup (pa_cons (pv 0) (pa_cons (pe_ix (ix_tupK (K := K) rfl) (pv 1) pe_int (fun _ _ => rfl)) pa_nil)))))))), ?_⟩
    walk_at "st"
    obtain ⟨d, k, x1, qs, x3, x4, x5, x6, ⟨⟨a1, a2, a3, a4, a5, a6, ⟨dx, h0⟩, y1, y2, y3, y4, y5, y6⟩, hP⟩, hR, _⟩ := hO.ex
    have cH := tx.c_House.cl
    have nH1 := tx.n_House_persons
    have nH2 := tx.n_House_rules
    have cP := tx.c_Person.cl
    have nP := tx.n_Person_name
    obtain ⟨y, hy, pa, sk, m, c, pst, rfl, dxp, hpp⟩ := hP.get hp
    have hix : atI qs (p : Int) = some (.ref pa) := atI_nat hy
    walk_at "rd"
    intro t ht
    obtain ⟨H1, e1, ht1, s1⟩ := newt (xs := [T wAll, T nm]) ht
    rw [← e1]
    have h01 := s1 _ _ h0
    have y51 := s1 _ _ y5
    clear e1
    walk_at "rd"
    refine comp_enumG (List.range rs.length) (mineB rs nm) (FdT (c3 C_Never C_Most C_Least) rs) (fun σ => ∃ v1 v2, σ = [v1, v2, some (.ref t)]) (SqL.of y51) (by rw [List.length_range]; exact hR.len) (by rw [List.length_range]; omega) ⟨_, _, rfl⟩ FdT.keeps (fun i a v qq σ H' ha hv hσ s' hq Rf Rt hf hT => ?_) (fun D H' ys hD s' hys hDD => q D H' ys (s1.free hD) (s1.trans s') hys hDD)
    obtain ⟨w1, w2, rfl⟩ := hσ
    obtain ⟨rfl, hil⟩ := range_at ha
    obtain ⟨r0, hr0, tt, pp, rfl, htt, hru⟩ := hR.back hv
    have sA : Same H H' := s1.trans s'
    have sQ : Same H' (upd H' qq (.tup [.int (a : Nat), .ref tt])) := same_new hq _
    have htt2 := (sA.trans sQ) _ _ htt
    have ht2 := (s'.trans sQ) _ _ ht1
    have eB : mineB rs nm a = inV (T r0.1) [T wAll, T nm] := by
      unfold mineB
      rw [rAt_of hr0]
      exact (inV_T r0.1 [wAll, nm]).symm
    have f1 : flatV (T r0.1) = true := rfl
    have f2 : [T wAll, T nm].all flatV = true := rfl
    have e0 : atI [T r0.1, V.ref pp] 0 = some (T r0.1) := by simp [atI, ixN]
    have e1 : atI [T r0.1, V.ref pp] 1 = some (.ref pp) := by simp [atI, ixN]
    have hI2 : SqL K (upd H' qq (.tup [.int (a : Nat), .ref tt])) t [T wAll, T nm] ∨ SqT K (upd H' qq (.tup [.int (a : Nat), .ref tt])) t [T wAll, T nm] := .inr (SqT.of ht2)
    walk_at "rd"
    refine ite2 (fun e => ?_) (fun e => ?_)
    · have e' : mineB rs nm a = true := eB.trans e
      walk_at "rd"
      intro t2 ht2'
      exact hT _ _ _ e' ⟨_, _, rfl⟩ (sQ.trans (same_new ht2' _)) ⟨t2, pp, rfl, upd_same, by rw [rAt_of hr0]; exact hru.same ((sA.trans sQ).trans (same_new ht2' _)), hil⟩
    · have e' : mineB rs nm a = false := Bool.eq_false_iff.mpr fun z => e (eB.symm.trans z)
      exact hf _ _ e' ⟨_, _, rfl⟩ sQ

theorem g_reach_of (tx : Tx K mg C_Never C_Most C_Least C_Person C_House C_RotaError C_NoName C_NoDay C_Faulty C_NoHouse C_NoRow C_NoRule C_TooWide) : MtG P w K mg base C_House "reach_of" 3 ["self", "p"] (sp_rof C_Person C_House (c3 C_Never C_Most C_Least)) := by
  have G_rules_for := g_rules_for (P := P) (w := w) (base := base) tx
  have GF := g_far3 (P := P) (w := w) (base := base) tx
  refine tx.m_House_reach_of.g tx.c_House.cl sc_House_reach_of (fun _ _ _ _ _ _ us hl => match us, hl with | [_, _], _ => rfl) (fun vs H Q E h => ?_) (fun f cdv A outer s H vs Q E hr h => ?_)
  · obtain ⟨h, p, nm, nms, rs, n6, rfl, _⟩ := h
    rfl
  · obtain ⟨h, p, nm, nms, rs, n6, rfl, hO, hp, hfl, q⟩ := h
    refine ⟨_, (pss_one (ps_ret (pe_callBk (call_maxD (K := K) rfl rfl) rfl tx.z_max bt_max (pa_cons (pe_comp (osc := defScope s_House_reach_of) (ON := ["self", "p"]) (N := ["number", "rule"]) (js := [none, none]) ⟨rfl, by decide +kernel, by decide +kernel, by decide +kernel, rfl, by decide +kernel⟩ rfl rfl rfl (pi_listK (K := K) rfl (pe_mt G_rules_for (hr.mono (by decide)) (pv 0) (pa_cons (pv 1) pa_nil))) (fun _ _ _ _ _ => pg_two (K := K) (i := 0) (j := 1) rfl rfl (show List.Nodup (["number", "rule"] : List Str) from by decide +kernel) rfl rfl (Or.inl rfl) (Or.inl rfl)) (fun _ _ _ _ _ => pifs_nil) (fun _ _ _ _ _ => (pe_mt0D (P := P) (w := w) (K := K) (mg := mg) (base := base) hr (pv 1) rfl rfl rfl rfl rfl))) pa_nil) (pk_cons pe_int pk_nil)))), ?_⟩
    walk_at "st"
    clear G_rules_for
    have hrs := hfl.1
    obtain ⟨dxh, fsh, h0, _, l2, _, _⟩ := hO.at
    walk_at "rd"
    intro D H1 ys nD s1 hys hD
    have hml := mineL_len rs nm
    refine ⟨D, rfl, ⟨_, SqL.of hD⟩, ?_⟩
    refine comp_hands (mineL rs nm) (fun _ => true) (fun i y _ => y = .int (rAt rs i).2.reach) (fun σ => ∃ v1 v2, σ = [v1, v2]) (hands_list (SqL.of hD)) hys.len (by omega) ⟨_, _, rfl⟩ (fun _ _ _ _ _ z => z) (fun i a v σ H' ha hv hσ s' Rf Rt _ hT => ?_) (fun D2 H2 zs nD2 s2 hzs hD2 => ?_)
    · obtain ⟨w1, w2, rfl⟩ := hσ
      obtain ⟨a', ha', t, pp, rfl, ht, hru, hlt⟩ := hys.back hv
      rw [ha] at ha'
      cases ha'
      have ht2 := s' _ _ ht
      have hru2 := hru.same s'
      obtain ⟨dx, fs, o, _, n2, _⟩ := hru2.obj
      have Fa := GF _ (hfl.at hlt)
      clear GF
      walk_at "rd"
      exact hT _ _ _ rfl ⟨_, _, rfl⟩ (Same.refl _) rfl
    rw [List.filter_eq_self.mpr fun _ _ => rfl] at hzs
    have ez : zs = (fars rs nm).map V.int := by
      unfold fars
      rw [List.map_map]
      refine List.ext_getElem? fun j => ?_
      rw [List.getElem?_map]
      cases hj : (mineL rs nm)[j]? with
      | none =>
        have := hzs.len
        exact List.getElem?_eq_none (by have := List.getElem?_eq_none_iff.mp hj; omega)
      | some a =>
        obtain ⟨y, hy, e⟩ := hzs.get hj
        rw [hy, e]
        rfl
    rw [ez] at hD2
    have hpos : ∀ a ∈ fars rs nm, 1 ≤ a := fun a ha => by
      obtain ⟨i, hi, rfl⟩ := List.mem_map.mp ha
      exact (hfl.at (mineL_lt hi)).pos
    walk_at "rd"
    refine ⟨fun e0 => ?_, fun M m1 m2 => ?_⟩
    · exact q 1 H2 (s1.trans s2) List.mem_cons_self fun a ha => by rw [e0] at ha; rw [List.mem_singleton.mp ha]; exact Int.le_refl _
    · refine q M H2 (s1.trans s2) (List.mem_cons_of_mem _ m1) fun a ha => ?_
      rcases List.mem_cons.mp ha with rfl | ha
      · exact hpos M m1
      · exact m2 a ha

theorem g_plainH (tx : Tx K mg C_Never C_Most C_Least C_Person C_House C_RotaError C_NoName C_NoDay C_Faulty C_NoHouse C_NoRow C_NoRule C_TooWide) : MtG P w K mg base C_House "plain" 1 ["self"] (sp_plainH C_Person C_House (c3 C_Never C_Most C_Least)) := by
  refine tx.m_House_plain.g tx.c_House.cl sc_House_plain (fun _ _ _ _ _ _ us hl => match us, hl with | [_], _ => rfl) (fun vs H Q E h => ?_) (fun f cdv A outer s H vs Q E hr h => ?_)
  · obtain ⟨h, nms, rs, n6, rfl, _⟩ := h
    rfl
  · obtain ⟨h, nms, rs, n6, rfl, hO, q⟩ := h
    refine ⟨_, (pss_one (ps_ret (pe_and (pe_cmpR op_eq (pe_callB (call_len_seqK (K := K) rfl) rfl tx.z_len PySem.boot_len (pa_cons (pe_fldK (K := K) rfl (pv 0) rfl) pa_nil)) pe_int (nomark _)) (pe_one (pe_cmpR op_eq (pe_callB (call_len_seqK (K := K) rfl) rfl tx.z_len PySem.boot_len (pa_cons (pe_fldK (K := K) rfl (pv 0) rfl) pa_nil)) pe_int (nomark _)))))), ?_⟩
    walk_at "st"
    obtain ⟨d, k, x1, qs, x3, x4, x5, x6, ⟨⟨a1, a2, a3, a4, a5, a6, ⟨dx, h0⟩, y1, y2, y3, y4, y5, y6⟩, hP⟩, hR, h6⟩ := hO.ex
    have cH := tx.c_House.cl
    have nH1 := tx.n_House_rules
    have nH2 := tx.n_House_pairs
    have hl := hR.len
    have e1 : decide (V.int ((x5.length : Nat) : Int) = V.int 0) = decide (rs.length = 0) := decide_eq_decide.mpr ⟨fun z => by have := V.int.inj z; omega, fun z => by rw [hl, z]; rfl⟩
    have e2 : decide (V.int ((x6.length : Nat) : Int) = V.int 0) = decide (n6 = 0) := decide_eq_decide.mpr ⟨fun z => by have := V.int.inj z; omega, fun z => by rw [h6, z]; rfl⟩
    walk_at "rd"
    rw [e1]
    refine ite2 (fun e => ?_) (fun e => ?_)
    · rw [e, Bool.true_and] at q
      walk_at "rd"
      rw [e2]
      exact q
    · rw [Bool.eq_false_iff.mpr e, Bool.false_and] at q
      exact q
end

/-! ### k22: the law -/
theorem cutVm (ns : List Int) (lo hi : Option Int) : cutV (ns.map V.int) lo hi = (cutN ns lo hi).map V.int := by
  unfold cutV cutN
  rw [List.length_map, List.map_take, List.map_drop]
theorem cut_span' {α : Type} (l : List α) (a b : Nat) : (cutN l (some (a : Int)) (some (b : Int))).length ≤ b - a := by
  unfold cutN
  have e1 : HT.sIx l.length 0 (some (a : Int)) = min a l.length := by
    show (if (a : Int) < 0 then ((a : Int) + (l.length : Int)).toNat else min (a : Int).toNat l.length) = _
    rw [if_neg (by omega), Int.toNat_natCast]
  have e2 : HT.sIx l.length l.length (some (b : Int)) = min b l.length := by
    show (if (b : Int) < 0 then ((b : Int) + (l.length : Int)).toNat else min (b : Int).toNat l.length) = _
    rw [if_neg (by omega), Int.toNat_natCast]
  rw [e1, e2, List.length_take, List.length_drop]
  omega
theorem nameF0_size (c p q : Int) : (nameF0 c p).length = (nameF0 c q).length := by
  unfold nameF0
  simp only [List.length_append, List.length_singleton]
theorem zed (c p : Int) : ¬ nameF c p = nameF c 0 ++ [122] := fun h => by
  have hs := nameF0_size c p 0
  unfold nameF at h
  by_cases h1 : nameF0 c p = [97, 108, 108]
  · rw [if_pos h1] at h
    have := congrArg List.getLast? h
    rw [List.getLast?_concat] at this
    exact absurd this (by decide)
  · rw [if_neg h1] at h
    by_cases h2 : nameF0 c 0 = [97, 108, 108]
    · rw [if_pos h2] at h
      rw [h, h2] at hs
      exact absurd hs (by decide)
    · rw [if_neg h2] at h
      rw [h, List.length_append] at hs
      simp at hs
def sp_lrule (c : Cs) : Sp := fun vs H Q _ => ∃ n : Int, vs = [.int n] ∧ ∀ (t p : Addr) (r : R) (H' : Hp), Same H H' → H' t = some (.tup [.ref p, T r.txt, .int r.reach]) → RuleAt c H' r p → r.flat → Q (.ref t) H'
def sp_refused (C1 C2 : Addr) : Sp := fun vs H Q _ => ∃ (h : Addr) (nm : List Nat) (nms : List (List Nat)), vs = [.ref h, T nm] ∧ HouN C1 C2 H h nms ∧ ¬ nm ∈ nms ∧ ∀ H', Same H H' → Q (.bl true) H'
def sp_person (C1 C2 : Addr) (c : Cs) : Sp := fun vs H Q _ => ∃ (h : Addr) (p : Nat) (bd : Addr) (nm : List Nat) (nms : List (List Nat)) (rs : List (List Nat × R)) (n6 : Nat) (zs : List V), vs = [.ref h, .int p, .ref bd] ∧ Ho C1 C2 c H h nms rs n6 ∧ nms[p]? = some nm ∧ flats rs ∧ H bd = some (.lst zs) ∧ All2 (BdT rs) H (mineL rs nm) zs ∧ ∀ H', Same H H' → Q (.bl true) H'
theorem HouN.at {C1 C2 : Addr} {H : Hp} {h : Addr} {nms : List (List Nat)} (x : HouN C1 C2 H h nms) : ∃ dx fs, H h = some (.ins C2 dx fs) ∧ List.lookup ("place_of" : Str) fs = none := by
  obtain ⟨d, k, a1, a2, a3, a4, a5, a6, qs, ⟨dx, h0⟩, _⟩ := x
  exact ⟨dx, _, h0, lH_place_of _ _ _ _ _ _ _ _⟩
section
variable {P : Program} {w : World} {K : PySem.W.Frag} {mg : Str → Option Value} {base : Heap} {C_Never C_Most C_Least C_Person C_House C_RotaError C_NoName C_NoDay C_Faulty C_NoHouse C_NoRow C_NoRule C_TooWide : Addr}

theorem g_law_rule (tx : Tx K mg C_Never C_Most C_Least C_Person C_House C_RotaError C_NoName C_NoDay C_Faulty C_NoHouse C_NoRow C_NoRule C_TooWide) : FnG P w K mg base "_law_rule" 3 ["_law_cell"] (sp_lrule (c3 C_Never C_Most C_Least)) := by
  have G_Never := tx.c_Never.g (g_Never_init (P := P) (w := w) (base := base) tx)
  have G_Most := tx.c_Most.g (g_Most_init (P := P) (w := w) (base := base) tx)
  have G_Least := tx.c_Least.g (g_Least_init (P := P) (w := w) (base := base) tx)
  refine tx.f_law_rule.g sc_law_rule (fun _ _ _ _ _ _ us hl => match us, hl with | [_], _ => rfl) (fun vs H Q E h => ?_) (fun f cdv A outer s H vs Q E hr h => ?_)
  · obtain ⟨n, rfl, _⟩ := h
    rfl
  · obtain ⟨n, rfl, q⟩ := h
    refine ⟨_, (pss_cons (ps_set (i := 1) sc_law_rule.nd rfl (Or.inl rfl) (pe_ix ix_txt (pe_txt (l := [65, 66, 67, 68, 69, 70, 71, 72, 73, 74, 75, 76, 77, 78, 79, 80, 81, 82, 83, 84, 85, 86, 87, 88, 89, 90]) (by decide +kernel)) (pe_op op_mod (pe_op op_fdiv (pv 0) pe_int) pe_int) (fun _ _ => rfl)))
      (pss_cons (ps_set (i := 2) sc_law_rule.nd rfl (Or.inl rfl) (pe_op op_add pe_int (pe_op op_mod (pe_op op_fdiv (pv 0) pe_int) pe_int)))
      (pss_cons (ps_if (pt_cmpR op_eq (pe_op op_mod (pv 0) pe_int) pe_int (nomark _)) (pss_one (ps_ret (pe_tup (pa_cons (pe_mkI (r := rNev (c3 C_Never C_Most C_Least)) G_Never (hr.mono (by decide)) (mk_nev (c6 := c3 C_Never C_Most C_Least)) (pa_cons (pe_op op_mulS9 (pv 1) (pv 2)) pa_nil)) (pa_cons (pe_op op_catS (pe_txt (l := [110, 101, 118, 101, 114, 32]) (by decide +kernel)) (pe_op op_mulS9 (pv 1) (pv 2))) (pa_cons (pv 2) pa_nil)))))) pss_nil)
      (pss_cons (ps_set (i := 3) sc_law_rule.nd rfl (Or.inl rfl) (pe_op op_mod (pe_op op_fdiv (pv 0) pe_int) pe_int))
      (pss_cons (ps_set (i := 4) sc_law_rule.nd rfl (Or.inl rfl) (pe_op op_catS (pe_op op_catS (pe_op op_catS (pe_op op_catS (pe_callTy call_str_fig rfl tx.z_str bt_ty_str (pa_cons (pv 3) pa_nil)) (pe_txt (l := [32, 111, 102, 32]) (by decide +kernel))) (pv 1)) (pe_txt (l := [32, 105, 110, 32]) (by decide +kernel))) (pe_callTy call_str_fig rfl tx.z_str bt_ty_str (pa_cons (pv 2) pa_nil))))
      (pss_cons (ps_if (pt_cmpR op_eq (pe_op op_mod (pv 0) pe_int) pe_int (nomark _)) (pss_one (ps_ret (pe_tup (pa_cons (pe_mkI (r := rMost (c3 C_Never C_Most C_Least)) G_Most (hr.mono (by decide)) (mk_most (c6 := c3 C_Never C_Most C_Least)) (pa_cons (pv 3) (pa_cons (pv 1) (pa_cons (pv 2) pa_nil)))) (pa_cons (pe_op op_catS (pe_txt (l := [109, 111, 115, 116, 32]) (by decide +kernel)) (pv 4)) (pa_cons (pv 2) pa_nil)))))) pss_nil)
      (pss_one (ps_ret (pe_tup (pa_cons (pe_mkI (r := rLeast (c3 C_Never C_Most C_Least)) G_Least (hr.mono (by decide)) (mk_least (c6 := c3 C_Never C_Most C_Least)) (pa_cons (pv 3) (pa_cons (pv 1) (pa_cons (pv 2) pa_nil)))) (pa_cons (pe_op op_catS (pe_txt (l := [108, 101, 97, 115, 116, 32]) (by decide +kernel)) (pv 4)) (pa_cons (pv 2) pa_nil)))))))))))), ?_⟩
    walk_at "st"
    clear G_Never G_Most G_Least
    have hl := at_ABC (n / 21 % 26) (Int.emod_nonneg _ (by decide)) (Int.emod_lt_of_pos _ (by decide))
    have m0 : 0 ≤ n / 3 % 7 := Int.emod_nonneg _ (by decide)
    have m1 : n / 3 % 7 < 7 := Int.emod_lt_of_pos _ (by decide)
    have k0 : 0 ≤ n / 546 % 8 := Int.emod_nonneg _ (by decide)
    have k1 : n / 546 % 8 < 8 := Int.emod_lt_of_pos _ (by decide)
    generalize cap (n / 21 % 26) = l at hl
    walk_at "rd"
    refine ite2 (fun _ => ?_) (fun _ => ?_)
    · have hrl : (List.replicate (1 + n / 3 % 7).toNat l).length = (1 + n / 3 % 7).toNat := List.length_replicate
      walk_at "rd"
      intro p H1 s1 h1
      walk_at "rd"
      intro t nt
      refine q t p (.nev (List.replicate (1 + n / 3 % 7).toNat l)) _ (s1.trans (same_new nt _)) ?_ (h1.same (same_new nt _)) ⟨by omega, by omega⟩
      rw [upd_same]
      have er : (R.nev (List.replicate (1 + n / 3 % 7).toNat l)).reach = 1 + n / 3 % 7 := by show ((List.replicate _ l).length : Int) = _; rw [hrl]; omega
      rw [er]
      rfl
    · walk_at "rd"
      have et : ∀ w : List Nat, w ++ [32] ++ ([48 + (n / 546 % 8).toNat] ++ [32, 111, 102, 32] ++ [l] ++ [32, 105, 110, 32] ++ [48 + (1 + n / 3 % 7).toNat]) = cntT w (n / 546 % 8) [l] (1 + n / 3 % 7) := fun w => by simp [cntT]
      refine ite2 (fun _ => ?_) (fun _ => ?_)
      · walk_at "rd"
        intro p H1 s1 h1
        walk_at "rd"
        intro t nt
        refine q t p (.most (n / 546 % 8) [l] (1 + n / 3 % 7)) _ (s1.trans (same_new nt _)) ?_ (h1.same (same_new nt _)) ⟨⟨k0, by omega⟩, ⟨by omega, by omega⟩, by simp⟩
        rw [upd_same]
        show _ = some (HO.tup [.ref p, T (cntT [109, 111, 115, 116] (n / 546 % 8) [l] (1 + n / 3 % 7)), .int (1 + n / 3 % 7)])
        rw [← et]
        rfl
      · walk_at "rd"
        intro p H1 s1 h1
        walk_at "rd"
        intro t nt
        refine q t p (.least (n / 546 % 8) [l] (1 + n / 3 % 7)) _ (s1.trans (same_new nt _)) ?_ (h1.same (same_new nt _)) ⟨⟨k0, by omega⟩, ⟨by omega, by omega⟩, by simp⟩
        rw [upd_same]
        show _ = some (HO.tup [.ref p, T (cntT [108, 101, 97, 115, 116] (n / 546 % 8) [l] (1 + n / 3 % 7)), .int (1 + n / 3 % 7)])
        rw [← et]
        rfl

theorem g_law_refused (tx : Tx K mg C_Never C_Most C_Least C_Person C_House C_RotaError C_NoName C_NoDay C_Faulty C_NoHouse C_NoRow C_NoRule C_TooWide) : FnG P w K mg base "_law_refused" 4 ["_law_house", "_law_name_here"] (sp_refused C_Person C_House) := by
  have G_place_of := g_place_of (P := P) (w := w) (base := base) tx
  refine tx.f_law_refused.g sc_law_refused (fun _ _ _ _ _ _ us hl => match us, hl with | [_, _], _ => rfl) (fun vs H Q E h => ?_) (fun f cdv A outer s H vs Q E hr h => ?_)
  · obtain ⟨h, nm, nms, rfl, _⟩ := h
    rfl
  · obtain ⟨h, nm, nms, rfl, hN, hn, q⟩ := h
    refine ⟨_, (pss_cons (ps_set (i := 2) sc_law_refused.nd rfl (Or.inl rfl) pe_non)
      (pss_cons (ps_tryX (i := 3) (CB := C_RotaError) rfl rfl sc_law_refused.nd rfl rfl tx.b_RotaError (pbx_expr (pex_mt G_place_of (hr.mono (by decide)) (pv 0) (pa_cons (pv 1) pa_nil))) (fun _ => (pss_one (ps_set (i := 2) sc_law_refused.nd rfl (Or.inl rfl) (pv 3)))))
      (pss_cons (ps_if (pt_val (pe_callB (call_isExcT (K := K) rfl) rfl tx.z_isinstance bt_isinstance (pa_cons (pv 2) (pa_cons (pe_tup (pa_cons (pe_glob (v := .ref C_Faulty) rfl tx.b_Faulty rfl) (pa_cons (pe_glob (v := .ref C_NoDay) rfl tx.b_NoDay rfl) (pa_cons (pe_glob (v := .ref C_NoHouse) rfl tx.b_NoHouse rfl) (pa_cons (pe_glob (v := .ref C_NoRow) rfl tx.b_NoRow rfl) (pa_cons (pe_glob (v := .ref C_NoRule) rfl tx.b_NoRule rfl) (pa_cons (pe_glob (v := .ref C_TooWide) rfl tx.b_TooWide rfl) pa_nil))))))) pa_nil)))) (pss_one (ps_ret pe_bl)) pss_nil)
      (pss_one (ps_ret (pe_and (pe_callB (call_isExc (K := K) rfl) rfl tx.z_isinstance bt_isinstance (pa_cons (pv 2) (pa_cons (pe_glob (v := .ref C_NoName) rfl tx.b_NoName rfl) pa_nil))) (pe_one (pe_callB (call_isExc (K := K) rfl) rfl tx.z_isinstance bt_isinstance (pa_cons (pv 2) (pa_cons (pe_ty tx.z_ValueError bt_ty_ValueError) pa_nil)))))))))), ?_⟩
    walk_at "st"
    clear G_place_of
    obtain ⟨dx, fs, h0, l1⟩ := hN.at
    walk_at "rd"
    refine ⟨fun k H' e _ => absurd (List.mem_of_getElem? e) hn, fun _ H2 s2 => ?_⟩
    refine ⟨C_NoName, rfl, tx.xm_NoName_RotaError, fun e he => ?_⟩
    obtain ⟨H3, e3, y3, s3⟩ : ∃ H3, H3 = upd H2 e (XO e C_NoName) ∧ H3 e = some (XO e C_NoName) ∧ Same H2 H3 := ⟨_, rfl, upd_same, same_new he _⟩
    rw [← e3]
    have xi := tx.xi_NoName
    have xt := tx.xt_NoName_0
    have xv := tx.xk_NoName_ValueError
    have xn := tx.xk_NoName_NoName
    walk_at "rd"
    intro tp f4
    have s4 : Same H3 (upd H3 tp (.tup [.ref C_Faulty, .ref C_NoDay, .ref C_NoHouse, .ref C_NoRow, .ref C_NoRule, .ref C_TooWide])) := same_new f4 _
    have y4 := s4 _ _ y3
    refine ⟨e, C_NoName, tp, [C_Faulty, C_NoDay, C_NoHouse, C_NoRow, C_NoRule, C_TooWide], false, rfl, y4, xi, upd_same, xt, false, rfl, ?_⟩
    refine iteF ?_
    refine ⟨.ref e, rfl, e, C_NoName, .ref C_NoName, .ref C_NoName, true, rfl, y4, xi, .inl ⟨_, rfl, rfl⟩, xn, ?_⟩
    refine ⟨true, rfl, ?_⟩
    refine iteT ?_
    refine ⟨.ref e, rfl, e, C_NoName, .ty "ValueError", .type "ValueError", true, rfl, y4, xi, .inr ⟨_, rfl, rfl⟩, xv, ?_⟩
    exact q _ ((s2.trans s3).trans s4)

theorem g_law_person (tx : Tx K mg C_Never C_Most C_Least C_Person C_House C_RotaError C_NoName C_NoDay C_Faulty C_NoHouse C_NoRow C_NoRule C_TooWide) : FnG P w K mg base "_law_person" 6 ["_law_house", "_law_p", "_law_bound"] (sp_person C_Person C_House (c3 C_Never C_Most C_Least)) := by
  have G_rules_for := g_rules_for (P := P) (w := w) (base := base) tx
  have G_reach_of := g_reach_of (P := P) (w := w) (base := base) tx
  have G_law_whole := g_law_whole (P := P) (w := w) (base := base) tx
  have GT := g_txt (P := P) (w := w) (base := base) tx
  refine tx.f_law_person.g sc_law_person (fun _ _ _ _ _ _ us hl => match us, hl with | [_, _, _], _ => rfl) (fun vs H Q E h => ?_) (fun f cdv A outer s H vs Q E hr h => ?_)
  · obtain ⟨h, p, bd, nm, nms, rs, n6, zs, rfl, _⟩ := h
    rfl
  · obtain ⟨h, p, bd, nm, nms, rs, n6, zs, rfl, hO, hp, hfl, hbd, hZ, q⟩ := h
    refine ⟨_, (pss_cons (ps_set (i := 3) sc_law_person.nd rfl (Or.inl rfl) (pe_mt G_rules_for (hr.mono (by decide)) (pv 0) (pa_cons (pv 1) pa_nil)))
      (pss_cons (ps_if (PW.pt (pw_or (pt_not (pt_val (pe_callB call_isBl rfl tx.z_isinstance bt_isinstance (pa_cons (pv 3) (pa_cons (pe_ty tx.z_list bt_ty_list) pa_nil))))) (pw_or1 (pt_cmpR op_ne (pe_callB (call_len_seqK (K := K) rfl) rfl tx.z_len PySem.boot_len (pa_cons (pv 3) pa_nil)) (pe_callB (call_len_seqK (K := K) rfl) rfl tx.z_len PySem.boot_len (pa_cons (pv 2) pa_nil)) (nomark _))))) (pss_one (ps_ret pe_bl)) pss_nil)
      (pss_cons (ps_for PassesOwn.never rfl (pi_zipLK (K := K) rfl rfl tx.z_zip (pa_cons (pv 3) (pa_cons (pv 2) pa_nil))) (pg_tup rfl (pgs_cons (pg_name (i := 4) sc_law_person.nd rfl (Or.inl rfl)) (pgs_cons (pg_name (i := 5) sc_law_person.nd rfl (Or.inl rfl)) pgs_nil))) (pss_cons (ps_if (PW.pt (pw_or (pt_not (pt_val (pe_callB call_isTup rfl tx.z_isinstance bt_isinstance (pa_cons (pv 4) (pa_cons (pe_ty tx.z_tuple bt_ty_tuple) pa_nil))))) (pw_or (pt_cmpR op_ne (pe_callB (call_len_seqK (K := K) rfl) rfl tx.z_len PySem.boot_len (pa_cons (pv 4) pa_nil)) pe_int (nomark _)) (pw_or1 (pt_not (pt_val (pe_fn G_law_whole (hr.mono (by decide)) (pa_cons (pe_ix (ix_tupK (K := K) rfl) (pv 4) pe_int (fun _ _ => rfl)) pa_nil)))))))) (pss_one (ps_ret pe_bl)) pss_nil)
      (pss_one (ps_if (PW.pt (pw_or (pt_cmpR op_ne (pe_ix (ix_tupK (K := K) rfl) (pv 4) pe_int (fun _ _ => rfl)) (pe_ix (ix_tupK (K := K) rfl) (pv 5) pe_int (fun _ _ => rfl)) (nomark _)) (pw_or1 (pt_cmpR op_ne (pe_mt0D (P := P) (w := w) (K := K) (mg := mg) (base := base) hr (pe_ix (ix_tupK (K := K) rfl) (pv 4) pe_int (fun _ _ => rfl)) rfl rfl rfl rfl rfl) (pe_ix (ix_tupK (K := K) rfl) (pv 5) pe_int (fun _ _ => rfl)) (nomark _))))) (pss_one (ps_ret pe_bl)) pss_nil))))
      (pss_cons (ps_set (i := 6) sc_law_person.nd rfl (Or.inl rfl) (pe_mt G_reach_of (hr.mono (by decide)) (pv 0) (pa_cons (pv 1) pa_nil)))
      (pss_one (ps_ret (pe_and (pe_fn G_law_whole (hr.mono (by decide)) (pa_cons (pv 6) pa_nil)) (pe_one (pe_cmpR op_eq (pv 6) (pe_callB (call_maxL (K := K) rfl rfl) rfl tx.z_max bt_max (pa_cons (pe_op op_cat (pe_lst (pa_cons pe_int pa_nil)) (pe_comp (osc := defScope s_law_person) (ON := ["_law_house", "_law_p", "_law_bound", "_law_found", "_law_one", "_law_due", "_law_reach"]) (N := ["_law_due"]) (js := [none]) ⟨rfl, by decide +kernel, by decide +kernel, by decide +kernel, rfl, by decide +kernel⟩ rfl rfl rfl (pi_listK (K := K) rfl (pv 2)) (fun _ _ _ _ _ => pg_name (i := 0) (show List.Nodup (["_law_due"] : List Str) from by decide +kernel) rfl (Or.inl rfl)) (fun _ _ _ _ _ => pifs_nil) (fun _ _ _ _ _ => (pe_ix (ix_tupK (K := K) rfl) (pv 0) pe_int (fun _ _ => rfl))))) pa_nil)) (nomark _)))))))))), ?_⟩
    walk_at "st"
    clear G_rules_for G_reach_of G_law_whole
    have hrs := hfl.1
    obtain ⟨dxh, fsh, h0, _, l2, l3, _⟩ := hO.at
    walk_at "rd"
    intro D H1 ys nD s1 hys hD
    have hbd1 := s1 _ _ hbd
    have hZ1 := hZ.imp fun a y => BdT.keeps a y _ _ s1.keeps
    have hO1 := hO.same s1
    have hyl := hys.len
    have hzl := hZ.len
    have hle : decide (V.int ((ys.length : Nat) : Int) = V.int ((zs.length : Nat) : Int)) = true := decide_eq_true (by rw [hyl, hzl])
    walk_at "rd"
    rw [hle]
    walk_at "rd"
    refine for_zipL (K := K) (xs := ys) (ys := zs) (fun i σ H2 => Here (∃ v4 v5, σ = [some (.ref h), some (.int p), some (.ref bd), some (.ref D), v4, v5, none] ∧ Same H1 H2)) (Here.mk ⟨_, _, rfl, Same.refl _⟩) (fun i σ H2 _ _ hv => by obtain ⟨_, _, _, s2⟩ := hv.out; exact ⟨SqL.of (s2 _ _ hD), SqL.of (s2 _ _ hbd1)⟩) ?_ ?_
    · rintro i x y qq σ H2 hx hy hq hv
      obtain ⟨v4, v5, rfl, s2⟩ := hv.out
      obtain ⟨a, ha, t, pp, rfl, ht, hru, hlt⟩ := hys.back hx
      obtain ⟨a', ha', tb, rfl, htb⟩ := hZ1.back hy
      rw [ha] at ha'
      cases ha'
      have sQ : Same H2 (upd H2 qq (.tup [.ref t, .ref tb])) := same_new hq _
      have S3 := s2.trans sQ
      have ht3 := S3 _ _ ht
      have htb3 := S3 _ _ htb
      have hru3 := hru.same S3
      obtain ⟨dx, fs, o, _, _, n3⟩ := hru3.obj
      have Ta := GT _ (hfl.at hlt)
      generalize (rAt rs a).2 = r0 at htb3 hru3 o n3 Ta
      clear GT
      have hI2 : SqL K (upd H2 qq (.tup [.ref t, .ref tb])) t [.int (a : Nat), .ref pp] ∨ SqT K (upd H2 qq (.tup [.ref t, .ref tb])) t [.int (a : Nat), .ref pp] := .inr (SqT.of ht3)
      have b0 : atI [V.int (a : Nat), V.ref pp] 0 = some (.int (a : Nat)) := by simp [atI, ixN]
      have b1 : atI [V.int (a : Nat), V.ref pp] 1 = some (.ref pp) := by simp [atI, ixN]
      have d0 : atI [V.int (a : Nat), T r0.txt, .int r0.reach] 0 = some (.int (a : Nat)) := by simp [atI, ixN]
      have d1 : atI [V.int (a : Nat), T r0.txt, .int r0.reach] 1 = some (T r0.txt) := by simp [atI, ixN]
      have dd : decide (V.int ((a : Nat) : Int) = V.int ((a : Nat) : Int)) = true := decide_eq_true rfl
      have dt : decide (T r0.txt = T r0.txt) = true := decide_eq_true rfl
      walk_at "rd"
      rw [dd]
      walk_at "rd"
      rw [dt]
      walk_at "rd"
      exact Here.mk ⟨_, _, rfl, S3⟩
    rintro i σ H2 _ hv
    obtain ⟨v4, v5, rfl, s2⟩ := hv.out
    have hO2 := hO1.same s2
    have h02 := (s1.trans s2) _ _ h0
    have hbd2 := s2 _ _ hbd1
    have hZ2 := hZ1.imp fun a y => BdT.keeps a y _ _ s2.keeps
    clear GT
    walk_at "rd"
    intro M H3 s3 m1 m2
    have hbd3 := s3 _ _ hbd2
    have hZ3 := hZ2.imp fun a y => BdT.keeps a y _ _ s3.keeps
    walk_at "rd"
    intro l1 fl1
    obtain ⟨H4, e4, yl1, s4⟩ := newl (xs := [V.int 1]) fl1
    rw [← e4]
    have hbd4 := s4 _ _ hbd3
    have hZ4 := hZ3.imp fun a y => BdT.keeps a y _ _ s4.keeps
    have hml := mineL_len rs nm
    walk_at "rd"
    refine comp_hands (mineL rs nm) (fun _ => true) (fun i y _ => y = .int (rAt rs i).2.reach) (fun σ => ∃ v1, σ = [v1]) (hands_list (SqL.of hbd4)) hZ4.len (by omega) ⟨_, rfl⟩ (fun _ _ _ _ _ z => z) (fun i a v σ H' ha hv hσ s' Rf Rt _ hT => ?_) (fun D2 H5 us nD2 s5 hus hD2 => ?_)
    · obtain ⟨w1, rfl⟩ := hσ
      obtain ⟨a', ha', t, rfl, ht⟩ := hZ4.back hv
      rw [ha] at ha'
      cases ha'
      have ht2 := s' _ _ ht
      have b2 : atI [V.int (a : Nat), T (rAt rs a).2.txt, .int (rAt rs a).2.reach] 2 = some (.int (rAt rs a).2.reach) := by simp [atI, ixN]
      walk_at "rd"
      exact hT _ _ _ rfl ⟨_, rfl⟩ (Same.refl _) rfl
    rw [List.filter_eq_self.mpr fun _ _ => rfl] at hus
    have ez : us = (fars rs nm).map V.int := by
      unfold fars
      rw [List.map_map]
      exact hus.eqmap fun a y h => h
    rw [ez] at hD2
    have yl5 := s5 _ _ yl1
    have hfl5 : (fars rs nm).length ≤ 8 := by unfold fars; rw [List.length_map]; omega
    have hcl : [V.int 1].length + ((fars rs nm).map V.int).length ≤ 1000 := by rw [List.length_map]; show 1 + _ ≤ _; omega
    walk_at "rd"
    intro l2 fl2
    obtain ⟨H6, e6, yl2, s6⟩ := newl (xs := ((1 : Int) :: fars rs nm).map V.int) fl2
    have e6' : H6 = upd H5 l2 (.lst ([V.int 1] ++ (fars rs nm).map V.int)) := e6
    rw [← e6']
    have hq6 : SqL K H6 l2 (((1 : Int) :: fars rs nm).map V.int) := SqL.of yl2
    have hl6 : 0 < ((1 : Int) :: fars rs nm).length := Nat.succ_pos _
    walk_at "rd"
    intro M' k1 k2
    obtain rfl : M' = M := Int.le_antisymm (m2 M' k1) (k2 M m1)
    have dd : decide (V.int M' = V.int M') = true := decide_eq_true rfl
    walk_at "rd"
    rw [dd]
    exact q H6 (((((s1.trans s2).trans s3).trans s4).trans s5).trans s6)
end

def TdT : List Nat × R → V → Hp → Prop := fun a y H => ∃ t, y = .ref t ∧ H t = some (.tup [T a.1, T a.2.txt, .int a.2.reach])
theorem TdT.keeps (a : List Nat × R) (y : V) (Ha Hb : Hp) (k : Keeps Ha Hb) (h : TdT a y Ha) : TdT a y Hb := let ⟨t, e, h1⟩ := h; ⟨t, e, k _ _ h1 (fun zs z => by cases z)⟩
def nmsF (c : Int) (n : Nat) : List (List Nat) := (List.range n).map fun (i : Nat) => nameF c (0 + (i : Int))
theorem nmsF_at {c : Int} {n i : Nat} (h : i < n) : (nmsF c n)[i]? = some (nameF c (0 + (i : Int))) := by
  unfold nmsF
  rw [List.getElem?_map, List.getElem?_range h]
  rfl
theorem nmsF_len (c : Int) (n : Nat) : (nmsF c n).length = n := by
  unfold nmsF
  rw [List.length_map, List.length_range]
theorem nmsF_uniq {c : Int} {n i k : Nat} (hn : n ≤ 8) (hi : i < n) (hk : (nmsF c n)[k]? = some (nameF c (0 + (i : Int)))) : k = i := by
  have h := (List.getElem?_eq_some_iff.mp hk).1
  rw [nmsF_len] at h
  rw [nmsF_at h] at hk
  have := nameF_inj (c := c) (p := 0 + (k : Int)) (q := 0 + (i : Int)) ⟨by omega, by omega⟩ ⟨by omega, by omega⟩ (Option.some.inj hk)
  omega
theorem nmsF_zed (c : Int) (n : Nat) : ¬ (nameF c (0 + ((0 : Nat) : Int)) ++ [122]) ∈ nmsF c n := fun h => by
  obtain ⟨i, _, e⟩ := List.mem_map.mp h
  exact zed c _ e
section
variable {P : Program} {w : World} {K : PySem.W.Frag} {mg : Str → Option Value} {base : Heap} {C_Never C_Most C_Least C_Person C_House C_RotaError C_NoName C_NoDay C_Faulty C_NoHouse C_NoRow C_NoRule C_TooWide : Addr}

theorem law_ok {f : Addr} {fd : FuncData} (tx : Tx K mg C_Never C_Most C_Least C_Person C_House C_RotaError C_NoName C_NoDay C_Faulty C_NoHouse C_NoRow C_NoRule C_TooWide) (F : Fun K "law" "law" s_law f fd) : FnOk P w K mg base CX0 14 f fd ["_law_script"] (sp_law K) := by
  have G_law_cell_at := g_law_cell_at (P := P) (w := w) (base := base) tx
  have G_law_name := g_law_name (P := P) (w := w) (base := base) tx
  have G_law_rule := g_law_rule (P := P) (w := w) (base := base) tx
  have G_law_person := g_law_person (P := P) (w := w) (base := base) tx
  have G_law_refused := g_law_refused (P := P) (w := w) (base := base) tx
  have G_place_of := g_place_of (P := P) (w := w) (base := base) tx
  have G_rules_for := g_rules_for (P := P) (w := w) (base := base) tx
  have G_plainH := g_plainH (P := P) (w := w) (base := base) tx
  have G_Person := tx.c_Person.g (g_Person_init (P := P) (w := w) (base := base) tx)
  have G_House := tx.c_House.g (g_House_init (P := P) (w := w) (base := base) tx)
  refine F.ok sc_law (fun vs H Q E h => ?_) (fun cdv A outer s H vs Q E hr h => ?_)
  · obtain ⟨a, ns, rfl, _⟩ := h
    rfl
  · obtain ⟨sc, ns, rfl, hS, hns, q⟩ := h
    refine ⟨_, (pss_cons (ps_set (i := 1) sc_law.nd rfl (Or.inl rfl) (pe_op op_mod (pe_fn G_law_cell_at (hr.mono (by decide)) (pa_cons (pv 0) (pa_cons pe_int pa_nil))) pe_int))
      (pss_cons (ps_setC (k := 2) (osc := defScope s_law) (ON := ["_law_script", "_law_many", "_law_names", "_law_rules", "_law_told", "_law_cell", "_law_rule_here", "_law_words", "_law_reach", "_law_name_here", "_law_pairs", "_law_plain", "_law_persons", "_law_house", "_law_p", "_law_mine", "_law_bound", "_law_found"]) (N := ["_law_p", "_law_script"]) (js := [none, some 0]) sc_law.nd rfl (Or.inl rfl) ⟨rfl, by decide +kernel, by decide +kernel, by decide +kernel, rfl, by decide +kernel⟩ rfl rfl rfl (pi_range1 rfl tx.z_range (pa_cons (pv 1) pa_nil)) (fun _ _ _ _ _ => pg_name (i := 0) (show List.Nodup (["_law_p", "_law_script"] : List Str) from by decide +kernel) rfl (Or.inl rfl)) (fun _ _ _ _ _ => pifs_nil) (fun _ _ _ _ _ => (pe_fn G_law_name (hr.mono (by decide)) (pa_cons (pe_fn G_law_cell_at (hr.mono (by decide)) (pa_cons (pv 1) (pa_cons pe_int pa_nil))) (pa_cons (pv 0) pa_nil)))))
      (pss_cons (ps_set (i := 3) sc_law.nd rfl (Or.inl rfl) (pe_lst pa_nil))
      (pss_cons (ps_set (i := 4) sc_law.nd rfl (Or.inr rfl) (pe_lst pa_nil))
      (pss_cons (ps_for PassesOwn.never rfl (pi_listK (K := K) rfl (pe_slice (sl_listK (K := K) rfl) (pv 0) (po_some pe_int) (po_some pe_int))) (pg_name (i := 5) sc_law.nd rfl (Or.inl rfl)) (pss_cons (ps_asg (pe_fn G_law_rule (hr.mono (by decide)) (pa_cons (pe_op op_fdiv (pv 5) pe_int) pa_nil)) (pg_tupK (K := K) (n := 3) rfl rfl (pgs_cons (pg_name (i := 6) sc_law.nd rfl (Or.inl rfl)) (pgs_cons (pg_name (i := 7) sc_law.nd rfl (Or.inl rfl)) (pgs_cons (pg_name (i := 8) sc_law.nd rfl (Or.inl rfl)) pgs_nil)))))
      (pss_cons (ps_set (i := 9) sc_law.nd rfl (Or.inl rfl) (pe_txt (l := [97, 108, 108]) (by decide +kernel)))
      (pss_cons (ps_cut (ps_if (PW.pt (pw_and (pt_cmpR op_gt (pv 1) pe_int (nomark _)) (pw_and1 (pt_cmpR op_gt (pe_op op_mod (pv 5) pe_int) pe_int (nomark _))))) (pss_one (ps_set (i := 9) sc_law.nd rfl (Or.inl rfl) (pe_ix (ix_listK (K := K) rfl) (pv 2) (pe_op op_mod (pe_op op_fdiv (pv 5) pe_int) (pv 1)) (fun _ _ => rfl)))) pss_nil))
      (pss_cons (ps_expr (pe_bm PySem.F.plainAttrs_list PySem.F.slot_list_append PySem.F.type_list_append mt_append (pv 3) (pa_cons (pe_tup (pa_cons (pv 9) (pa_cons (pv 6) pa_nil))) pa_nil)))
      (pss_one (ps_expr (pe_bm PySem.F.plainAttrs_list PySem.F.slot_list_append PySem.F.type_list_append mt_append (pv 4) (pa_cons (pe_tup (pa_cons (pv 9) (pa_cons (pv 7) (pa_cons (pv 8) pa_nil)))) pa_nil)))))))))
      (pss_cons (ps_set (i := 10) sc_law.nd rfl (Or.inl rfl) (pe_lst pa_nil))
      (pss_cons (ps_cut (ps_if (PW.pt (pw_and (pt_cmpR op_gt (pv 1) pe_int (nomark _)) (pw_and1 (pt_cmpR op_eq (pe_op op_mod (pe_op op_fdiv (pe_fn G_law_cell_at (hr.mono (by decide)) (pa_cons (pv 0) (pa_cons pe_int pa_nil))) pe_int) pe_int) pe_int (nomark _))))) (pss_one (ps_set (i := 10) sc_law.nd rfl (Or.inl rfl) (pe_lst (pa_cons (pe_tup (pa_cons (pe_txt (l := [97, 112, 97, 114, 116]) (by decide +kernel)) (pa_cons (pe_ix (ix_listK (K := K) rfl) (pv 2) pe_int (fun _ _ => rfl)) (pa_cons (pe_ix (ix_listK (K := K) rfl) (pv 2) (pe_op op_sub (pv 1) pe_int) (fun _ _ => rfl)) pa_nil)))) pa_nil)))) pss_nil))
      (pss_cons (ps_cut (ps_set (i := 11) sc_law.nd rfl (Or.inl rfl) (pe_and (pe_cmpR (op_eqE (K := K) rfl hr.units0) (pv 3) (pe_lst pa_nil) (nomark _)) (pe_one (pe_cmpR (op_eqE (K := K) rfl hr.units0) (pv 10) (pe_lst pa_nil) (nomark _))))))
      (pss_cons (ps_setC (k := 12) (osc := defScope s_law) (ON := ["_law_script", "_law_many", "_law_names", "_law_rules", "_law_told", "_law_cell", "_law_rule_here", "_law_words", "_law_reach", "_law_name_here", "_law_pairs", "_law_plain", "_law_persons", "_law_house", "_law_p", "_law_mine", "_law_bound", "_law_found"]) (N := ["_law_name_here"]) (js := [none]) sc_law.nd rfl (Or.inl rfl) ⟨rfl, by decide +kernel, by decide +kernel, by decide +kernel, rfl, by decide +kernel⟩ rfl rfl rfl (pi_listK (K := K) rfl (pv 2)) (fun _ _ _ _ _ => pg_name (i := 0) (show List.Nodup (["_law_name_here"] : List Str) from by decide +kernel) rfl (Or.inl rfl)) (fun _ _ _ _ _ => pifs_nil) (fun _ _ _ _ _ => (pe_mkI (r := rPer C_Person) G_Person (hr.mono (by decide)) mk_per (pa_cons (pv 0) (pa_cons (pe_txt (l := []) (by decide +kernel)) (pa_cons pe_int (pa_cons pe_int (pa_cons (pe_txt (l := []) (by decide +kernel)) pa_nil))))))))
      (pss_cons (ps_set (i := 13) sc_law.nd rfl (Or.inl rfl) (pe_mkI (r := rHou C_House) G_House (hr.mono (by decide)) mk_hou (pa_cons pe_int (pa_cons (pe_txt (l := [68]) (by decide +kernel)) (pa_cons (pe_lst pa_nil) (pa_cons (pv 12) (pa_cons (pe_lst pa_nil) (pa_cons (pe_lst pa_nil) (pa_cons (pv 3) (pa_cons (pv 10) pa_nil))))))))))
      (pss_cons (ps_expr (pe_bm0 PySem.F.plainAttrs_list PySem.F.slot_list_clear PySem.F.type_list_clear mt_clear (pv 3)))
      (pss_cons (ps_expr (pe_bm0 PySem.F.plainAttrs_list PySem.F.slot_list_clear PySem.F.type_list_clear mt_clear (pv 12)))
      (pss_cons (ps_expr (pe_bm0 PySem.F.plainAttrs_list PySem.F.slot_list_clear PySem.F.type_list_clear mt_clear (pv 10)))
      (pss_cons (ps_for PassesOwn.never rfl (pi_range1 rfl tx.z_range (pa_cons (pv 1) pa_nil)) (pg_name (i := 14) sc_law.nd rfl (Or.inl rfl)) (pss_cons (ps_set (i := 15) sc_law.nd rfl (Or.inr rfl) (pe_tup (pa_cons (pe_txt (l := [97, 108, 108]) (by decide +kernel)) (pa_cons (pe_ix (ix_listK (K := K) rfl) (pv 2) (pv 14) (fun _ _ => rfl)) pa_nil))))
      (pss_cons (ps_setC (k := 16) (osc := defScope s_law) (ON := ["_law_script", "_law_many", "_law_names", "_law_rules", "_law_told", "_law_cell", "_law_rule_here", "_law_words", "_law_reach", "_law_name_here", "_law_pairs", "_law_plain", "_law_persons", "_law_house", "_law_p", "_law_mine", "_law_bound", "_law_found"]) (N := ["_law_k", "_law_told", "_law_mine"]) (js := [none, some 4, some 15]) sc_law.nd rfl (Or.inl rfl) ⟨rfl, by decide +kernel, by decide +kernel, by decide +kernel, rfl, by decide +kernel⟩ rfl rfl rfl (pi_range1 rfl tx.z_range (pa_cons (pe_callB (call_len_seqK (K := K) rfl) rfl tx.z_len PySem.boot_len (pa_cons (pv 4) pa_nil)) pa_nil)) (fun _ _ _ _ _ => pg_name (i := 0) (show List.Nodup (["_law_k", "_law_told", "_law_mine"] : List Str) from by decide +kernel) rfl (Or.inl rfl)) (fun _ _ _ _ _ => pifs_one (pt_cmpR (op_inK (K := K) rfl) (pe_ix (ix_tupK (K := K) rfl) (pe_ix (ix_listK (K := K) rfl) (pv 1) (pv 0) (fun _ _ => rfl)) pe_int (fun _ _ => rfl)) (pv 2) rfl)) (fun _ _ _ _ _ => (pe_tup (pa_cons (pv 0) (pa_cons (pe_ix (ix_tupK (K := K) rfl) (pe_ix (ix_listK (K := K) rfl) (pv 1) (pv 0) (fun _ _ => rfl)) pe_int (fun _ _ => rfl)) (pa_cons (pe_ix (ix_tupK (K := K) rfl) (pe_ix (ix_listK (K := K) rfl) (pv 1) (pv 0) (fun _ _ => rfl)) pe_int (fun _ _ => rfl)) pa_nil))))))
      (pss_cons (ps_if (PW.pt (pw_or (pt_not (pt_val (pe_fn G_law_person (hr.mono (by decide)) (pa_cons (pv 13) (pa_cons (pv 14) (pa_cons (pv 16) pa_nil)))))) (pw_or1 (pt_cmpR op_ne (pe_mtX G_place_of (hr.mono (by decide)) pass0X (pv 13) (pa_cons (pe_ix (ix_listK (K := K) rfl) (pv 2) (pv 14) (fun _ _ => rfl)) pa_nil)) (pv 14) (nomark _))))) (pss_one (ps_ret pe_bl)) pss_nil)
      (pss_cons (ps_expr (pe_bm0 PySem.F.plainAttrs_list PySem.F.slot_list_clear PySem.F.type_list_clear mt_clear (pe_mt G_rules_for (hr.mono (by decide)) (pv 13) (pa_cons (pv 14) pa_nil))))
      (pss_one (ps_if (pt_not (pt_val (pe_fn G_law_person (hr.mono (by decide)) (pa_cons (pv 13) (pa_cons (pv 14) (pa_cons (pv 16) pa_nil)))))) (pss_one (ps_ret pe_bl)) pss_nil)))))))
      (pss_cons (ps_set (i := 17) sc_law.nd rfl (Or.inl rfl) (pe_mt0 G_plainH (hr.mono (by decide)) (pv 13)))
      (pss_cons (ps_if (PW.pt (pw_or (pt_not (pt_val (pe_callB call_isBl rfl tx.z_isinstance bt_isinstance (pa_cons (pv 17) (pa_cons (pe_ty tx.z_bool bt_ty_bool) pa_nil))))) (pw_or1 (pt_cmpR op_ne (pv 17) (pv 11) (nomark _))))) (pss_one (ps_ret pe_bl)) pss_nil)
      (pss_one (ps_ret (pe_fn G_law_refused (hr.mono (by decide)) (pa_cons (pv 13) (pa_cons (pe_op op_catS (pe_ix (ix_listK (K := K) rfl) (pe_op op_cat (pv 2) (pe_lst (pa_cons (pe_txt (l := [97]) (by decide +kernel)) pa_nil))) pe_int (fun _ _ => rfl)) (pe_txt (l := [122]) (by decide +kernel))) pa_nil))))))))))))))))))))), ?_⟩
    walk_at "st"
    clear G_law_cell_at G_law_name G_law_rule G_law_person G_law_refused G_place_of G_rules_for G_plainH G_Person G_House
    have m0 : 0 ≤ cellF ns 0 % 9 := Int.emod_nonneg _ (by decide)
    have m1 : cellF ns 0 % 9 < 9 := Int.emod_lt_of_pos _ (by decide)
    walk_at "rd"
    generalize hM : cellF ns 0 % 9 = many at m0 m1 ⊢
    obtain ⟨n, rfl⟩ : ∃ n : Nat, many = (n : Int) := ⟨many.toNat, by omega⟩
    have hn : n ≤ 8 := by omega
    have tn : ((n : Int)).toNat = n := Int.toNat_natCast n
    clear hM
    walk_at "rd"
    rw [tn]
    -- the names
    refine comp_hands (List.range n) (fun _ => true) (fun (i : Nat) y _ => y = T (nameF (cellF ns 1) (0 + (i : Int)))) (fun σ => ∃ v, σ = [v, some (.ref sc)]) (hands_range 0 n) (by rw [List.length_map]) (by rw [List.length_range]; omega) ⟨_, rfl⟩ (fun _ _ _ _ _ z => z) (fun i a v σ H' ha hv hσ s' Rf Rt _ hR => ?_) (fun nl H1 ys nnl s1 hys hnl => ?_)
    · obtain ⟨w1, rfl⟩ := hσ
      rw [List.getElem?_map, ha] at hv
      cases hv
      have hS' := s'.seq hS
      walk_at "rd"
      exact fun H2 s2 => hR _ _ _ rfl ⟨_, rfl⟩ s2 rfl
    rw [List.filter_eq_self.mpr fun _ _ => rfl] at hys
    have ey : ys = (nmsF (cellF ns 1) n).map T := by
      unfold nmsF
      rw [List.map_map]
      exact hys.eqmap fun a y h => h
    rw [ey] at hnl
    have hS1 := s1.seq hS
    clear hys ey hS s1
    have hnm := nmsF_len (cellF ns 1) n
    have hAt : ∀ i : Nat, i < n → atI ((nmsF (cellF ns 1) n).map T) (i : Int) = some (T (nameF (cellF ns 1) (0 + (i : Int)))) := fun i hi => atI_nat (by rw [List.getElem?_map, nmsF_at hi]; rfl)
    have hUq : ∀ i k : Nat, i < n → (nmsF (cellF ns 1) n)[k]? = some (nameF (cellF ns 1) (0 + (i : Int))) → k = i := fun i k hi hk => nmsF_uniq hn hi hk
    have hGet : ∀ i : Nat, i < n → (nmsF (cellF ns 1) n)[i]? = some (nameF (cellF ns 1) (0 + (i : Int))) := fun i hi => nmsF_at hi
    have hZd := nmsF_zed (cellF ns 1) n
    have hNl : ∀ i : Nat, (nameF (cellF ns 1) (0 + (i : Int))).length ≤ 15 := fun i => nameF_len _ _
    generalize nmsF (cellF ns 1) n = nms at hnl hnm hAt hUq hGet hZd
    generalize cellF ns 1 = cc at hAt hUq hGet hZd hNl
    walk_at "rd"
    intro rl frl
    obtain ⟨H2, e2, yrl, s2⟩ := newl (xs := []) frl
    rw [← e2]
    walk_at "rd"
    intro tl ftl
    obtain ⟨H3, e3, ytl, s3⟩ := newl (xs := []) ftl
    rw [← e3]
    have yrl3 := s3 _ _ yrl
    have hS3 := (s2.trans s3).seq hS1
    have hnl3 := (s2.trans s3) _ _ hnl
    have nrt : rl ≠ tl := ne_of_none yrl ftl
    have nln : nl ≠ rl := ne_of_none hnl frl
    have ftl1 := s2.free ftl
    have hS13 := s2.trans s3
    clear e2 e3 yrl s2 s3 ftl
    walk_at "rd"
    intro cl fcl
    rw [cutVm]
    have hcl := cut_span' ns 2 10
    rw [show ((2 : Nat) : Int) = 2 from rfl, show ((10 : Nat) : Int) = 10 from rfl] at hcl
    generalize cutN ns (some 2) (some 10) = cs at hcl ⊢
    obtain ⟨H4, e4, ycl, s4⟩ := newl (xs := cs.map V.int) fcl
    rw [← e4]
    refine ⟨cl, rfl, ⟨_, SqL.of ycl⟩, ?_⟩
    have nrc : rl ≠ cl := ne_of_none yrl3 fcl
    have ntc : tl ≠ cl := ne_of_none ytl fcl
    have S4 := hS13.trans s4
    have ncl1 : H1 cl = none := hS13.free fcl
    refine for_list (K := K) (xs := cs.map V.int) (fun i σ H5 => Here (∃ v5 v6 v7 v8 v9 rs xs ys, σ = [some (.ref sc), some (.int n), some (.ref nl), some (.ref rl), some (.ref tl), v5, v6, v7, v8, v9, none, none, none, none, none, none, none, none] ∧ Same H1 H5 ∧ H5 cl = some (.lst (cs.map V.int)) ∧ H5 rl = some (.lst xs) ∧ H5 tl = some (.lst ys) ∧ All2 (RlT (c3 C_Never C_Most C_Least)) H5 rs xs ∧ All2 TdT H5 rs ys ∧ rs.length ≤ i ∧ ∀ r ∈ rs, r.2.flat)) (Here.mk ⟨none, none, none, none, none, [], [], [], rfl, S4, ycl, s4 _ _ yrl3, s4 _ _ ytl, trivial, trivial, Nat.le_refl _, fun r h => by cases h⟩) (fun i σ H5 _ hv => by obtain ⟨_, _, _, _, _, _, _, _, _, _, h, _⟩ := hv.out; exact SqL.of h) ?_ ?_
    · rintro i x σ H5 hx hv
      obtain ⟨v5, v6, v7, v8, v9, rs, xs, ys, rfl, s5, ycl5, yr5, yt5, aR, aT, hlen, hfl⟩ := hv.out
      obtain ⟨z, rfl⟩ : ∃ z, x = .int z := by
        obtain ⟨z, _, e⟩ := List.mem_map.mp (List.mem_of_getElem? hx)
        exact ⟨z, e.symm⟩
      have hi : i < cs.length := by have := (List.getElem?_eq_some_iff.mp hx).1; rwa [List.length_map] at this
      walk_at "rd"
      intro t p r H6 s6 ht hr6 hf6
      have S6 := s5.trans s6
      have hnl6 := S6 _ _ hnl
      walk_at "rd"
      refine tCut.mk (fun σ' H' => Here (∃ nm : List Nat, σ' = [some (.ref sc), some (.int n), some (.ref nl), some (.ref rl), some (.ref tl), some (.int z), some (.ref p), some (T r.txt), some (.int r.reach), some (T nm), none, none, none, none, none, none, none, none] ∧ H' = H6)) ?_ ?_
      · walk_at "rd"
        refine ite2 (fun c1 => ?_) (fun c1 => ?_)
        · have c1' : (0 : Int) < (n : Int) := of_decide_eq_true c1
          have k0 := Int.emod_nonneg (z / 10) (show (n : Int) ≠ 0 by omega)
          have k1 := Int.emod_lt_of_pos (z / 10) c1'
          obtain ⟨k, hk⟩ : ∃ k : Nat, z / 10 % (n : Int) = (k : Int) := ⟨(z / 10 % (n : Int)).toNat, by omega⟩
          have hA := hAt k (by omega)
          rw [← hk] at hA
          walk_at "rd"
          refine ite2 (fun c2 => ?_) (fun c2 => ?_)
          · walk_at "rd"
            exact Here.mk ⟨_, rfl, rfl⟩
          · exact Here.mk ⟨_, rfl, rfl⟩
        · exact Here.mk ⟨_, rfl, rfl⟩
      rintro σ' H' hv'
      obtain ⟨nm, rfl, eH⟩ := hv'.out
      rw [eH]
      have yr6 := s6 _ _ yr5
      have yt6 := s6 _ _ yt5
      have ycl6 := s6 _ _ ycl5
      have aR6 := aR.imp fun a y => RlT.keeps a y _ _ s6.keeps
      have aT6 := aT.imp fun a y => TdT.keeps a y _ _ s6.keeps
      have lx := aR.len
      have ly := aT.len
      clear hv hv' eH H' s6 yr5 yt5 ycl5 aR aT ht hnl6
      walk_at "rd"
      intro t1 ft1
      obtain ⟨H7, e7, yt1, s7⟩ := newt (xs := [T nm, .ref p]) ft1
      rw [← e7]
      have yr7 := s7 _ _ yr6
      have k78 : Keeps H7 (upd H7 rl (.lst (xs ++ [.ref t1]))) := keeps_lst yr7
      have S8 : Same H1 (upd H7 rl (.lst (xs ++ [.ref t1]))) := (S6.trans s7).upd frl
      have kk := s7.keeps.trans k78
      have aR8 : All2 (RlT (c3 C_Never C_Most C_Least)) (upd H7 rl (.lst (xs ++ [.ref t1]))) (rs ++ [(nm, r)]) (xs ++ [.ref t1]) := (aR6.imp fun a y => RlT.keeps a y _ _ kk).snoc ⟨t1, p, rfl, k78 _ _ yt1 (fun zs z => by cases z), hr6.keeps kk⟩
      have aT8 := aT6.imp fun a y => TdT.keeps a y _ _ kk
      have yt8 : upd H7 rl (.lst (xs ++ [.ref t1])) tl = some (.lst ys) := by rw [upd_ne nrt.symm]; exact s7 _ _ yt6
      have yr8 : upd H7 rl (.lst (xs ++ [.ref t1])) rl = some (.lst (xs ++ [.ref t1])) := upd_same
      have ycl8 : upd H7 rl (.lst (xs ++ [.ref t1])) cl = some (.lst (cs.map V.int)) := by rw [upd_ne nrc.symm]; exact s7 _ _ ycl6
      walk_at "rd"
      intro t2 ft2
      generalize hG : upd H7 rl (.lst (xs ++ [.ref t1])) = H8 at *
      obtain ⟨H9, e9, yt2, s9⟩ := newt (xs := [T nm, T r.txt, .int r.reach]) ft2
      rw [← e9]
      have yt9 := s9 _ _ yt8
      have k9 : Keeps H9 (upd H9 tl (.lst (ys ++ [.ref t2]))) := keeps_lst yt9
      have kk9 := s9.keeps.trans k9
      walk_at "rd"
      refine Here.mk ⟨_, _, _, _, _, rs ++ [(nm, r)], xs ++ [.ref t1], ys ++ [.ref t2], rfl, (S8.trans s9).upd ftl1, ?_, ?_, upd_same, aR8.imp fun a y => RlT.keeps a y _ _ kk9, (aT8.imp fun a y => TdT.keeps a y _ _ kk9).snoc ⟨t2, rfl, k9 _ _ yt2 (fun zs z => by cases z)⟩, by rw [List.length_append, List.length_singleton]; omega, fun r' hr' => ?_⟩
      · rw [upd_ne ntc.symm]; exact s9 _ _ ycl8
      · rw [upd_ne nrt]; exact s9 _ _ yr8
      · rcases List.mem_append.mp hr' with hr' | hr'
        · exact hfl r' hr'
        · rw [List.mem_singleton.mp hr']; exact hf6
    rintro σ H5 hv
    obtain ⟨v5, v6, v7, v8, v9, rs, xs, ys, rfl, s5, ycl5, yr5, yt5, aR, aT, hlen, hfl⟩ := hv.out
    rw [List.length_map] at hlen
    have hFl : flats rs := ⟨by omega, hfl⟩
    have lx := aR.len
    have ly := aT.len
    have hnl5 := s5 _ _ hnl
    have hS5 := s5.seq hS1
    have nlr : nl ≠ rl := ne_of_none hnl frl
    clear hv ycl5 ycl e4 s4 S4 fcl ncl1 nrc ntc hS13 hS3 hnl3 yrl3 ytl s5 hnl hS1 hlen hfl frl ftl1 nln
    walk_at "rd"
    intro pr0 fpr0
    obtain ⟨H6, e6, ypr, s6⟩ := newl (xs := []) fpr0
    rw [← e6]
    have nrp : rl ≠ pr0 := ne_of_none yr5 fpr0
    refine tCut.mk (fun σ' H' => Here (∃ pr x6, σ' = [some (.ref sc), some (.int n), some (.ref nl), some (.ref rl), some (.ref tl), v5, v6, v7, v8, v9, some (.ref pr), none, none, none, none, none, none, none] ∧ Same H5 H' ∧ H' pr = some (.lst x6) ∧ H5 pr = none ∧ x6.length ≤ 1)) ?_ ?_
    · have hS6 := s6.seq hS5
      have hnl6 := s6 _ _ hnl5
      walk_at "rd"
      refine ite2 (fun c1 => ?_) (fun c1 => ?_)
      · have c1' : (1 : Int) < (n : Int) := of_decide_eq_true c1
        have hA0 := hAt 0 (by omega)
        have hA1 := hAt (n - 1) (by omega)
        rw [show (((n - 1 : Nat)) : Int) = (n : Int) - 1 by omega] at hA1
        rw [show ((0 : Nat) : Int) = 0 from rfl] at hA0
        walk_at "rd"
        refine ite2 (fun c2 => ?_) (fun c2 => ?_)
        · walk_at "rd"
          intro tp ftp
          have ky := fun (u : HO) => same_new ftp u
          generalize hh : upd H6 tp _ = H7
          have s7 : Same H6 H7 := hh ▸ ky _
          clear hh ky
          walk_at "rd"
          intro pr fpr
          exact Here.mk ⟨pr, [.ref tp], rfl, (s6.trans s7).trans (same_new fpr _), upd_same, (s6.trans s7).free fpr, Nat.le_refl 1⟩
        · exact Here.mk ⟨pr0, [], rfl, s6, ypr, fpr0, Nat.zero_le _⟩
      · exact Here.mk ⟨pr0, [], rfl, s6, ypr, fpr0, Nat.zero_le _⟩
    clear nrp ypr s6 e6 fpr0
    clear H6
    rintro σ' H6 hv'
    obtain ⟨pr, x6, rfl, s6, ypr, fpr, h6⟩ := hv'.out
    have hS6 := s6.seq hS5
    have hnl6 := s6 _ _ hnl5
    have yr6 := s6 _ _ yr5
    have yt6 := s6 _ _ yt5
    have aR6 := aR.imp fun a y => RlT.keeps a y _ _ s6.keeps
    have aT6 := aT.imp fun a y => TdT.keeps a y _ _ s6.keeps
    have nrp : rl ≠ pr := ne_of_none yr5 fpr
    have ntp : tl ≠ pr := ne_of_none yt5 fpr
    have nlp : nl ≠ pr := ne_of_none hnl5 fpr
    clear hv' hS5 hnl5 yr5 yt5 aR aT s6 fpr
    clear H5
    -- plain
    refine tCut.mk (fun σ' H' => Here (σ' = [some (.ref sc), some (.int n), some (.ref nl), some (.ref rl), some (.ref tl), v5, v6, v7, v8, v9, some (.ref pr), some (.bl (xs.isEmpty && x6.isEmpty)), none, none, none, none, none, none] ∧ Same H6 H')) ?_ ?_
    · walk_at "rd"
      intro l1 fl1
      obtain ⟨H7, e7, yl1, s7⟩ := newl (xs := []) fl1
      rw [← e7]
      have yr7 := s7 _ _ yr6
      have yp7 := s7 _ _ ypr
      walk_at "rd"
      refine ite2 (fun c1 => ?_) (fun c1 => ?_)
      · have c1' : xs.isEmpty = true := c1
        walk_at "rd"
        intro l2 fl2
        obtain ⟨H8, e8, yl2, s8⟩ := newl (xs := []) fl2
        rw [← e8]
        have yp8 := s8 _ _ yp7
        walk_at "rd"
        refine Here.mk ⟨?_, s7.trans s8⟩
        rw [c1', Bool.true_and]
        rfl
      · have c1' : xs.isEmpty = false := Bool.eq_false_iff.mpr c1
        refine Here.mk ⟨?_, s7⟩
        rw [c1', Bool.false_and]
        rfl
    rintro σ' H7 hv'
    obtain ⟨rfl, s7⟩ := hv'.out
    have hS7 := s7.seq hS6
    have hnl7 := s7 _ _ hnl6
    have yr7 := s7 _ _ yr6
    have yt7 := s7 _ _ yt6
    have yp7 := s7 _ _ ypr
    have aR7 := aR6.imp fun a y => RlT.keeps a y _ _ s7.keeps
    have aT7 := aT6.imp fun a y => TdT.keeps a y _ _ s7.keeps
    clear hv' hS6 hnl6 yr6 yt6 ypr aR6 aT6 s7
    clear H6
    -- the persons
    walk_at "rd"
    refine comp_hands nms (fun _ => true) (PerN C_Person) (fun σ => ∃ v, σ = [v]) (hands_list (SqL.of hnl7)) (by rw [List.length_map]) (by omega) ⟨_, rfl⟩ PerN.keeps (fun i a v σ H' ha hv hσ s' Rf Rt _ hR => ?_) (fun pl H8 qs npl s8 hqs hpl => ?_)
    · obtain ⟨w1, rfl⟩ := hσ
      rw [List.getElem?_map, ha] at hv
      cases hv
      walk_at "rd"
      intro pp H3 s3 npp hper
      exact hR _ _ _ rfl ⟨_, rfl⟩ s3 ⟨pp, _, _, _, _, rfl, hper⟩
    rw [List.filter_eq_self.mpr fun _ _ => rfl] at hqs
    have hS8 := s8.seq hS7
    have hnl8 := s8 _ _ hnl7
    have yr8 := s8 _ _ yr7
    have yt8 := s8 _ _ yt7
    have yp8 := s8 _ _ yp7
    have aR8 := aR7.imp fun a y => RlT.keeps a y _ _ s8.keeps
    have aT8 := aT7.imp fun a y => TdT.keeps a y _ _ s8.keeps
    have nrl : rl ≠ pl := ne_of_none yr7 npl
    have ntl : tl ≠ pl := ne_of_none yt7 npl
    have nnl : nl ≠ pl := ne_of_none hnl7 npl
    have npp : pr ≠ pl := ne_of_none yp7 npl
    clear hS7 hnl7 yr7 yt7 yp7 aR7 aT7 s8 npl
    clear H7
    -- the house
    walk_at "rd"
    intro l1 fl1
    obtain ⟨H9, e9, yl1, s9⟩ := newl (xs := []) fl1
    rw [← e9]
    walk_at "rd"
    intro l2 fl2
    obtain ⟨Ha, ea, yl2, sa⟩ := newl (xs := []) fl2
    rw [← ea]
    walk_at "rd"
    intro l3 fl3
    obtain ⟨Hb, eb, yl3, sb⟩ := newl (xs := []) fl3
    rw [← eb]
    have SB := (s9.trans sa).trans sb
    have yl1b := (sa.trans sb) _ _ yl1
    have yl2b := sb _ _ yl2
    have yrb := SB _ _ yr8
    have ypb := SB _ _ yp8
    have yplb := SB _ _ hpl
    have ytb := SB _ _ yt8
    have hnlb := SB _ _ hnl8
    walk_at "rd"
    intro ho Hc a1 a2 a3 a4 a5 a6 sc' hHo y1 y2 y3 y4 y5 y6 o1 o2 o3 o4 o5 o6
    have SC := SB.trans sc'
    have hSc := SC.seq hS8
    have yrc := SC _ _ yr8
    have ypc := SC _ _ yp8
    have yplc := SC _ _ hpl
    have ytc := SC _ _ yt8
    have hnlc := SC _ _ hnl8
    have hqc := hqs.imp fun a y => PerN.keeps a y _ _ SC.keeps
    have aRc := aR8.imp fun a y => RlT.keeps a y _ _ SC.keeps
    have aTc := aT8.imp fun a y => TdT.keeps a y _ _ SC.keeps
    -- the lists that were handed are cleared
    have kd := keeps_lst (ys := []) yrc
    have ypd : upd Hc rl (.lst []) pl = some (.lst qs) := by rw [upd_ne nrl.symm]; exact yplc
    have ke := kd.trans (keeps_lst (ys := []) ypd)
    have ype : upd (upd Hc rl (.lst [])) pl (.lst []) pr = some (.lst x6) := by rw [upd_ne npp, upd_ne nrp.symm]; exact ypc
    have kf := ke.trans (keeps_lst (ys := []) ype)
    have oth : ∀ (b : Addr) (x : List V), b ≠ rl → b ≠ pl → b ≠ pr → Hc b = some (.lst x) → upd (upd (upd Hc rl (.lst [])) pl (.lst [])) pr (.lst []) b = some (.lst x) := fun b x n1 n2 n3 e => by rw [upd_ne n3, upd_ne n2, upd_ne n1]; exact e
    have own : ∀ (b : Addr) (x : List V), Hb b = none → Hc b = some (.lst x) → upd (upd (upd Hc rl (.lst [])) pl (.lst [])) pr (.lst []) b = some (.lst x) := fun b x n e => oth b x (ne_of_none yrb n).symm (ne_of_none yplb n).symm (ne_of_none ypb n).symm e
    walk_at "rd"
    have hO : Ho C_Person C_House (c3 C_Never C_Most C_Least) (upd (upd (upd Hc rl (.lst [])) pl (.lst [])) pr (.lst [])) ho nms rs x6.length := ⟨2, [68], [], qs, [], [], xs, x6, ⟨⟨a1, a2, a3, a4, a5, a6, hHo.keeps kf, own _ _ o1 y1, own _ _ o2 y2, own _ _ o3 y3, own _ _ o4 y4, own _ _ o5 y5, own _ _ o6 y6⟩, hqc.imp fun a y => PerN.keeps a y _ _ kf⟩, aRc.imp fun a y => RlT.keeps a y _ _ kf, rfl⟩
    have hnld := oth nl _ nlr nnl nlp hnlc
    have ytd := oth tl _ nrt.symm ntl ntp ytc
    have aTd := aTc.imp fun a y => TdT.keeps a y _ _ kf
    clear own oth kf ype ke ypd kd aTc aRc hqc hnlc ytc yplc ypc yrc hSc SC hHo y1 y2 y3 y4 y5 y6 o1 o2 o3 o4 o5 o6 sc' hnlb ytb yplb ypb yrb yl2b yl1b SB yl3 sb eb yl2 sa ea yl1 s9 e9 fl1 fl2 fl3 hpl hqs aT8 aR8 yp8 yt8 yr8 hnl8 hS8
    generalize upd (upd (upd Hc rl (.lst [])) pl (.lst [])) pr (.lst []) = Hd at hO hnld ytd aTd ⊢
    clear Hc Hb Ha H9 H8
    rw [tn]
    refine for_range (n := n) (fun i σ H' => Here (∃ v14 v15 v16, σ = [some (.ref sc), some (.int n), some (.ref nl), some (.ref rl), some (.ref tl), v5, v6, v7, v8, v9, some (.ref pr), some (.bl (xs.isEmpty && x6.isEmpty)), some (.ref pl), some (.ref ho), v14, v15, v16, none] ∧ Same Hd H')) (Here.mk ⟨none, none, none, rfl, Same.refl _⟩) ?_ ?_
    · rintro i σ H' hi hv
      obtain ⟨v14, v15, v16, rfl, s1⟩ := hv.out
      rw [Int.zero_add]
      have hA := hAt i hi
      have hG := hGet i hi
      have hU := fun k => hUq i k hi
      generalize nameF cc (0 + (i : Int)) = nm at hA hG hU
      have hnl1 := s1 _ _ hnld
      have ytl1 := s1 _ _ ytd
      walk_at "rd"
      intro tm ftm
      obtain ⟨H2, e2, ytm, s2⟩ := newt (xs := [T wAll, T nm]) ftm
      rw [← e2]
      have S2 := s1.trans s2
      have ytl2 := s2 _ _ ytl1
      have tt : (((ys.length : Nat) : Int)).toNat = rs.length := by rw [Int.toNat_natCast, ly]
      have hys8 : ys.length ≤ 8 := by have := hFl.1; omega
      walk_at "rd"
      rw [tt]
      refine comp_hands (List.range rs.length) (mineB rs nm) (BdT rs) (fun σ => ∃ v, σ = [v, some (.ref tl), some (.ref tm)]) (hands_range 0 rs.length) (by rw [List.length_map]) (by rw [List.length_range]; have := hFl.1; omega) ⟨_, rfl⟩ BdT.keeps (fun j a v σ H' ha hv hσ s' Rf Rt hf hR => ?_) (fun bd H3 zs nbd s3 hzs hbd => ?_)
      · obtain ⟨w1, rfl⟩ := hσ
        rw [List.getElem?_map, ha] at hv
        cases hv
        obtain ⟨_, ha'⟩ := range_at ha
        have hal : a < rs.length := by have := (range_at ha).1; omega
        show gName 0 (V.int (0 + ((a : Nat) : Int))) [w1, some (.ref tl), some (.ref tm)] H' _
        rw [Int.zero_add]
        obtain ⟨y, hy, t, rfl, ht⟩ := aTd.get (List.getElem?_eq_getElem hal)
        have er : rAt rs a = rs[a] := rAt_of (List.getElem?_eq_getElem hal)
        rw [← er] at ht
        have eB : mineB rs nm a = inV (T (rAt rs a).1) [T wAll, T nm] := (inV_T (rAt rs a).1 [wAll, nm]).symm
        have hbd0 : ∀ (t2 : Addr) (H4 : Hp), H4 t2 = some (.tup [.int (a : Nat), T (rAt rs a).2.txt, .int (rAt rs a).2.reach]) → BdT rs a (.ref t2) H4 := fun t2 H4 e => ⟨t2, rfl, e⟩
        generalize rAt rs a = r0 at ht eB hbd0
        have ei : atI ys (a : Int) = some (.ref t) := atI_nat hy
        have ht2 := (S2.trans s') _ _ ht
        have ytl3 := s' _ _ ytl2
        have ytm3 := s' _ _ ytm
        have hI2 : SqL K H' tm [T wAll, T nm] ∨ SqT K H' tm [T wAll, T nm] := .inr (SqT.of ytm3)
        have f1 : flatV (T r0.1) = true := rfl
        have f2 : [T wAll, T nm].all flatV = true := rfl
        have b0 : atI [T r0.1, T r0.2.txt, .int r0.2.reach] 0 = some (T r0.1) := by simp [atI, ixN]
        have b1 : atI [T r0.1, T r0.2.txt, .int r0.2.reach] 1 = some (T r0.2.txt) := by simp [atI, ixN]
        have b2 : atI [T r0.1, T r0.2.txt, .int r0.2.reach] 2 = some (.int r0.2.reach) := by simp [atI, ixN]
        walk_at "rd"
        refine ite2 (fun e => ?_) (fun e => ?_)
        · walk_at "rd"
          intro t2 ft2
          exact hR _ _ _ (eB.trans e) ⟨_, rfl⟩ (same_new ft2 _) (hbd0 t2 _ upd_same)
        · exact hf _ _ (Bool.eq_false_iff.mpr fun z => e (eB.symm.trans z)) ⟨_, rfl⟩ (Same.refl _)
      have hzs' : All2 (BdT rs) H3 (mineL rs nm) zs := hzs
      have S3 := S2.trans s3
      have hO3 := hO.same S3
      have hnl3 := S3 _ _ hnld
      clear hzs
      walk_at "rd"
      intro H4 s4
      have S4 := S3.trans s4
      have hO4 := hO.same S4
      have hN4 := hO4.n
      obtain ⟨dxh, fsh, h04, l1, l2, l3, l4⟩ := hO4.at
      have hnl4 := S4 _ _ hnld
      walk_at "rd"
      refine ⟨fun k H5 hk s5 => ?_, fun hno => absurd (List.mem_of_getElem? hG) hno⟩
      rw [hU k hk]
      have dd : decide (V.int ((i : Nat) : Int) = V.int ((i : Nat) : Int)) = true := decide_eq_true rfl
      have S5 := S4.trans s5
      have hO5 := hO.same S5
      have h05 := s5 _ _ h04
      have hrs8 := hFl.1
      walk_at "rd"
      rw [dd]
      walk_at "rd"
      intro D H6 es nD s6 hes hD
      have hbd5 := (s4.trans s5) _ _ hbd
      have hzs5 := hzs'.imp fun a y => BdT.keeps a y _ _ (s4.trans s5).keeps
      have s67 : Same H5 (upd H6 D (.lst [])) := s6.upd nD
      have hO7 := hO5.same s67
      have hbd7 := s67 _ _ hbd5
      have hzs7 := hzs5.imp fun a y => BdT.keeps a y _ _ s67.keeps
      walk_at "rd"
      intro H8 s8
      walk_at "rd"
      exact Here.mk ⟨_, _, _, rfl, (S5.trans s67).trans s8⟩
    · rintro σ H' hv
      obtain ⟨v14, v15, v16, rfl, s1⟩ := hv.out
      have hO1 := hO.same s1
      have hN1 := hO1.n
      obtain ⟨dxh, fsh, h01, l1, l2, l3, l4⟩ := hO1.at
      have hnl1 := s1 _ _ hnld
      have eP : (decide (rs.length = 0) && decide (x6.length = 0)) = (xs.isEmpty && x6.isEmpty) := by
        rw [← lx]
        cases xs <;> cases x6 <;> rfl
      have dd : decide (V.bl (xs.isEmpty && x6.isEmpty) = V.bl (xs.isEmpty && x6.isEmpty)) = true := decide_eq_true rfl
      walk_at "rd"
      rw [eP]
      walk_at "rd"
      rw [dd]
      walk_at "rd"
      intro la fla
      obtain ⟨H2, e2, yla, s2⟩ := newl (xs := [T [97]]) fla
      rw [← e2]
      have hnl2 := s2 _ _ hnl1
      walk_at "rd"
      intro lb flb
      obtain ⟨H3, e3, ylb, s3⟩ := newl (xs := nms.map T ++ [T [97]]) flb
      rw [← e3]
      have hN3 := hN1.same (s2.trans s3)
      have key : ∃ n0 : List Nat, atI (nms.map T ++ [T [97]]) 0 = some (T n0) ∧ n0.length ≤ 15 ∧ ¬ (n0 ++ [122]) ∈ nms := by
        by_cases hz : n = 0
        · have : nms = [] := List.eq_nil_of_length_eq_zero (by omega)
          subst this
          exact ⟨[97], rfl, by decide, fun h => by cases h⟩
        · refine ⟨nameF cc (0 + ((0 : Nat) : Int)), ?_, hNl 0, hZd⟩
          have h0 := hGet 0 (by omega)
          show atI _ ((0 : Nat) : Int) = _
          refine atI_nat ?_
          rw [List.getElem?_append_left (by rw [List.length_map]; omega), List.getElem?_map, h0]
          rfl
      obtain ⟨n0, hn0, hn15, hnz⟩ := key
      walk_at "rd"
      exact fun H4 _ => q H4
end

theorem all_mk {l : PySem.W.OpenLaw} {w : World} {K : PySem.W.Frag} {h : Heap} {mg : Str → Option Value} {fa C_Never C_Most C_Least C_Person C_House C_RotaError C_NoName C_NoDay C_Faulty C_NoHouse C_NoRow C_NoRule C_TooWide q1 q2 q3 q4 q5 q6 q7 q8 q9 q10 q11 q12 q13 q14 q15 q16 q17 q18 q19 q20 q21 q22 q23 : Addr} (X : K.In h) (G : h.Ns mainGlobals mg) (hfa : mg "law" = some (.ref fa))
    {od1 an1 od2 an2 od3 an3 od4 an4 od5 an5 od6 an6 od7 an7 od8 an8 od9 an9 od10 an10 od11 an11 od12 an12 od13 an13 od14 an14 od15 an15 od16 an16 od17 an17 od18 an18 od19 an19 od20 an20 od21 an21 od22 an22 od23 an23 : Option Addr} {sl1 sl2 sl3 sl4 sl5 sl6 sl7 sl8 sl9 sl10 sl11 sl12 sl13 sl14 sl15 sl16 sl17 sl18 sl19 sl20 sl21 sl22 sl23 : Array (Option Value)} {oc1 kV1 dc1 pm1 cd1 ct1 oc2 kV2 dc2 pm2 cd2 ct2 oc3 kV3 dc3 pm3 cd3 ct3 oc4 kV4 dc4 pm4 cd4 ct4 oc5 kV5 dc5 pm5 cd5 ct5 oc6 kV6 dc6 pm6 cd6 ct6 oc7 kV7 dc7 pm7 cd7 ct7 oc8 kV8 dc8 pm8 cd8 ct8 oc9 kV9 dc9 pm9 cd9 ct9 oc10 kV10 dc10 pm10 cd10 ct10 oc11 kV11 dc11 pm11 cd11 ct11 oc12 kV12 dc12 pm12 cd12 ct12 oc13 kV13 dc13 pm13 cd13 ct13 oc14 kV14 dc14 pm14 cd14 ct14 oc15 kV15 dc15 pm15 cd15 ct15 oc16 kV16 dc16 pm16 cd16 ct16 oc17 kV17 dc17 pm17 cd17 ct17 oc18 kV18 dc18 pm18 cd18 ct18 oc19 kV19 dc19 pm19 cd19 ct19 oc20 kV20 dc20 pm20 cd20 ct20 oc21 kV21 dc21 pm21 cd21 ct21 oc22 kV22 dc22 pm22 cd22 ct22 oc23 kV23 dc23 pm23 cd23 ct23 : Value}
    (g_Never : PySem.W.nsIn K mainGlobals "Never" = some (some (.ref C_Never)))
    (g_Most : PySem.W.nsIn K mainGlobals "Most" = some (some (.ref C_Most)))
    (g_Least : PySem.W.nsIn K mainGlobals "Least" = some (some (.ref C_Least)))
    (g_Person : PySem.W.nsIn K mainGlobals "Person" = some (some (.ref C_Person)))
    (g_House : PySem.W.nsIn K mainGlobals "House" = some (some (.ref C_House)))
    (g_RotaError : PySem.W.nsIn K mainGlobals "RotaError" = some (some (.ref C_RotaError)))
    (g_NoName : PySem.W.nsIn K mainGlobals "NoName" = some (some (.ref C_NoName)))
    (g_NoDay : PySem.W.nsIn K mainGlobals "NoDay" = some (some (.ref C_NoDay)))
    (g_Faulty : PySem.W.nsIn K mainGlobals "Faulty" = some (some (.ref C_Faulty)))
    (g_NoHouse : PySem.W.nsIn K mainGlobals "NoHouse" = some (some (.ref C_NoHouse)))
    (g_NoRow : PySem.W.nsIn K mainGlobals "NoRow" = some (some (.ref C_NoRow)))
    (g_NoRule : PySem.W.nsIn K mainGlobals "NoRule" = some (some (.ref C_NoRule)))
    (g_TooWide : PySem.W.nsIn K mainGlobals "TooWide" = some (some (.ref C_TooWide)))
    (a1 : PySem.W.findIn K (.ref C_Never) "__init__" = some (some (.ref q1)))
    (i1 : PySem.W.isFn K (.ref q1) = true)
    (l1 : K.lookup q1 = some ⟨oc1, od1, .func (PySem.W.fnOf "__init__" "Never.__init__" (defArgs s_Never_init) (defBody s_Never_init) (defScope s_Never_init) .none kV1 dc1 pm1 an1 cd1 ct1), sl1⟩)
    (c1 : PySem.W.codeIn K cd1 "Never.__init__" = true)
    (k1 : PySem.W.keepIn K (.ref q1) = true)
    (a2 : PySem.W.findIn K (.ref C_Never) "reach" = some (some (.ref q2)))
    (i2 : PySem.W.isFn K (.ref q2) = true)
    (l2 : K.lookup q2 = some ⟨oc2, od2, .func (PySem.W.fnOf "reach" "Never.reach" (defArgs s_Never_reach) (defBody s_Never_reach) (defScope s_Never_reach) .none kV2 dc2 pm2 an2 cd2 ct2), sl2⟩)
    (c2 : PySem.W.codeIn K cd2 "Never.reach" = true)
    (k2 : PySem.W.keepIn K (.ref q2) = true)
    (a3 : PySem.W.findIn K (.ref C_Most) "__init__" = some (some (.ref q3)))
    (i3 : PySem.W.isFn K (.ref q3) = true)
    (l3 : K.lookup q3 = some ⟨oc3, od3, .func (PySem.W.fnOf "__init__" "Most.__init__" (defArgs s_Most_init) (defBody s_Most_init) (defScope s_Most_init) .none kV3 dc3 pm3 an3 cd3 ct3), sl3⟩)
    (c3 : PySem.W.codeIn K cd3 "Most.__init__" = true)
    (k3 : PySem.W.keepIn K (.ref q3) = true)
    (a4 : PySem.W.findIn K (.ref C_Most) "reach" = some (some (.ref q4)))
    (i4 : PySem.W.isFn K (.ref q4) = true)
    (l4 : K.lookup q4 = some ⟨oc4, od4, .func (PySem.W.fnOf "reach" "Most.reach" (defArgs s_Most_reach) (defBody s_Most_reach) (defScope s_Most_reach) .none kV4 dc4 pm4 an4 cd4 ct4), sl4⟩)
    (c4 : PySem.W.codeIn K cd4 "Most.reach" = true)
    (k4 : PySem.W.keepIn K (.ref q4) = true)
    (a5 : PySem.W.findIn K (.ref C_Least) "__init__" = some (some (.ref q5)))
    (i5 : PySem.W.isFn K (.ref q5) = true)
    (l5 : K.lookup q5 = some ⟨oc5, od5, .func (PySem.W.fnOf "__init__" "Least.__init__" (defArgs s_Least_init) (defBody s_Least_init) (defScope s_Least_init) .none kV5 dc5 pm5 an5 cd5 ct5), sl5⟩)
    (c5 : PySem.W.codeIn K cd5 "Least.__init__" = true)
    (k5 : PySem.W.keepIn K (.ref q5) = true)
    (a6 : PySem.W.findIn K (.ref C_Least) "reach" = some (some (.ref q6)))
    (i6 : PySem.W.isFn K (.ref q6) = true)
    (l6 : K.lookup q6 = some ⟨oc6, od6, .func (PySem.W.fnOf "reach" "Least.reach" (defArgs s_Least_reach) (defBody s_Least_reach) (defScope s_Least_reach) .none kV6 dc6 pm6 an6 cd6 ct6), sl6⟩)
    (c6 : PySem.W.codeIn K cd6 "Least.reach" = true)
    (k6 : PySem.W.keepIn K (.ref q6) = true)
    (a7 : PySem.W.findIn K (.ref C_Person) "__init__" = some (some (.ref q7)))
    (i7 : PySem.W.isFn K (.ref q7) = true)
    (l7 : K.lookup q7 = some ⟨oc7, od7, .func (PySem.W.fnOf "__init__" "Person.__init__" (defArgs s_Person_init) (defBody s_Person_init) (defScope s_Person_init) .none kV7 dc7 pm7 an7 cd7 ct7), sl7⟩)
    (c7 : PySem.W.codeIn K cd7 "Person.__init__" = true)
    (k7 : PySem.W.keepIn K (.ref q7) = true)
    (a8 : PySem.W.findIn K (.ref C_House) "__init__" = some (some (.ref q8)))
    (i8 : PySem.W.isFn K (.ref q8) = true)
    (l8 : K.lookup q8 = some ⟨oc8, od8, .func (PySem.W.fnOf "__init__" "House.__init__" (defArgs s_House_init) (defBody s_House_init) (defScope s_House_init) .none kV8 dc8 pm8 an8 cd8 ct8), sl8⟩)
    (c8 : PySem.W.codeIn K cd8 "House.__init__" = true)
    (k8 : PySem.W.keepIn K (.ref q8) = true)
    (a9 : PySem.W.nsIn K mainGlobals "_law_cell_at" = some (some (.ref q9)))
    (l9 : K.lookup q9 = some ⟨oc9, od9, .func (PySem.W.fnOf "_law_cell_at" "_law_cell_at" (defArgs s_law_cell_at) (defBody s_law_cell_at) (defScope s_law_cell_at) .none kV9 dc9 pm9 an9 cd9 ct9), sl9⟩)
    (c9 : PySem.W.codeIn K cd9 "_law_cell_at" = true)
    (k9 : PySem.W.keepIn K (.ref q9) = true)
    (a10 : PySem.W.nsIn K mainGlobals "_law_name" = some (some (.ref q10)))
    (l10 : K.lookup q10 = some ⟨oc10, od10, .func (PySem.W.fnOf "_law_name" "_law_name" (defArgs s_law_name) (defBody s_law_name) (defScope s_law_name) .none kV10 dc10 pm10 an10 cd10 ct10), sl10⟩)
    (c10 : PySem.W.codeIn K cd10 "_law_name" = true)
    (k10 : PySem.W.keepIn K (.ref q10) = true)
    (a11 : PySem.W.nsIn K mainGlobals "_law_whole" = some (some (.ref q11)))
    (l11 : K.lookup q11 = some ⟨oc11, od11, .func (PySem.W.fnOf "_law_whole" "_law_whole" (defArgs s_law_whole) (defBody s_law_whole) (defScope s_law_whole) .none kV11 dc11 pm11 an11 cd11 ct11), sl11⟩)
    (c11 : PySem.W.codeIn K cd11 "_law_whole" = true)
    (k11 : PySem.W.keepIn K (.ref q11) = true)
    (a12 : PySem.W.nsIn K mainGlobals "count_text" = some (some (.ref q12)))
    (l12 : K.lookup q12 = some ⟨oc12, od12, .func (PySem.W.fnOf "count_text" "count_text" (defArgs s_count_text) (defBody s_count_text) (defScope s_count_text) .none kV12 dc12 pm12 an12 cd12 ct12), sl12⟩)
    (c12 : PySem.W.codeIn K cd12 "count_text" = true)
    (k12 : PySem.W.keepIn K (.ref q12) = true)
    (a13 : PySem.W.findIn K (.ref C_Never) "text" = some (some (.ref q13)))
    (i13 : PySem.W.isFn K (.ref q13) = true)
    (l13 : K.lookup q13 = some ⟨oc13, od13, .func (PySem.W.fnOf "text" "Never.text" (defArgs s_Never_text) (defBody s_Never_text) (defScope s_Never_text) .none kV13 dc13 pm13 an13 cd13 ct13), sl13⟩)
    (c13 : PySem.W.codeIn K cd13 "Never.text" = true)
    (k13 : PySem.W.keepIn K (.ref q13) = true)
    (a14 : PySem.W.findIn K (.ref C_Most) "text" = some (some (.ref q14)))
    (i14 : PySem.W.isFn K (.ref q14) = true)
    (l14 : K.lookup q14 = some ⟨oc14, od14, .func (PySem.W.fnOf "text" "Most.text" (defArgs s_Most_text) (defBody s_Most_text) (defScope s_Most_text) .none kV14 dc14 pm14 an14 cd14 ct14), sl14⟩)
    (c14 : PySem.W.codeIn K cd14 "Most.text" = true)
    (k14 : PySem.W.keepIn K (.ref q14) = true)
    (a15 : PySem.W.findIn K (.ref C_Least) "text" = some (some (.ref q15)))
    (i15 : PySem.W.isFn K (.ref q15) = true)
    (l15 : K.lookup q15 = some ⟨oc15, od15, .func (PySem.W.fnOf "text" "Least.text" (defArgs s_Least_text) (defBody s_Least_text) (defScope s_Least_text) .none kV15 dc15 pm15 an15 cd15 ct15), sl15⟩)
    (c15 : PySem.W.codeIn K cd15 "Least.text" = true)
    (k15 : PySem.W.keepIn K (.ref q15) = true)
    (a16 : PySem.W.findIn K (.ref C_House) "place_of" = some (some (.ref q16)))
    (i16 : PySem.W.isFn K (.ref q16) = true)
    (l16 : K.lookup q16 = some ⟨oc16, od16, .func (PySem.W.fnOf "place_of" "House.place_of" (defArgs s_House_place_of) (defBody s_House_place_of) (defScope s_House_place_of) .none kV16 dc16 pm16 an16 cd16 ct16), sl16⟩)
    (c16 : PySem.W.codeIn K cd16 "House.place_of" = true)
    (k16 : PySem.W.keepIn K (.ref q16) = true)
    (a17 : PySem.W.findIn K (.ref C_House) "rules_for" = some (some (.ref q17)))
    (i17 : PySem.W.isFn K (.ref q17) = true)
    (l17 : K.lookup q17 = some ⟨oc17, od17, .func (PySem.W.fnOf "rules_for" "House.rules_for" (defArgs s_House_rules_for) (defBody s_House_rules_for) (defScope s_House_rules_for) .none kV17 dc17 pm17 an17 cd17 ct17), sl17⟩)
    (c17 : PySem.W.codeIn K cd17 "House.rules_for" = true)
    (k17 : PySem.W.keepIn K (.ref q17) = true)
    (a18 : PySem.W.findIn K (.ref C_House) "reach_of" = some (some (.ref q18)))
    (i18 : PySem.W.isFn K (.ref q18) = true)
    (l18 : K.lookup q18 = some ⟨oc18, od18, .func (PySem.W.fnOf "reach_of" "House.reach_of" (defArgs s_House_reach_of) (defBody s_House_reach_of) (defScope s_House_reach_of) .none kV18 dc18 pm18 an18 cd18 ct18), sl18⟩)
    (c18 : PySem.W.codeIn K cd18 "House.reach_of" = true)
    (k18 : PySem.W.keepIn K (.ref q18) = true)
    (a19 : PySem.W.findIn K (.ref C_House) "plain" = some (some (.ref q19)))
    (i19 : PySem.W.isFn K (.ref q19) = true)
    (l19 : K.lookup q19 = some ⟨oc19, od19, .func (PySem.W.fnOf "plain" "House.plain" (defArgs s_House_plain) (defBody s_House_plain) (defScope s_House_plain) .none kV19 dc19 pm19 an19 cd19 ct19), sl19⟩)
    (c19 : PySem.W.codeIn K cd19 "House.plain" = true)
    (k19 : PySem.W.keepIn K (.ref q19) = true)
    (a20 : PySem.W.nsIn K mainGlobals "_law_rule" = some (some (.ref q20)))
    (l20 : K.lookup q20 = some ⟨oc20, od20, .func (PySem.W.fnOf "_law_rule" "_law_rule" (defArgs s_law_rule) (defBody s_law_rule) (defScope s_law_rule) .none kV20 dc20 pm20 an20 cd20 ct20), sl20⟩)
    (c20 : PySem.W.codeIn K cd20 "_law_rule" = true)
    (k20 : PySem.W.keepIn K (.ref q20) = true)
    (a21 : PySem.W.nsIn K mainGlobals "_law_refused" = some (some (.ref q21)))
    (l21 : K.lookup q21 = some ⟨oc21, od21, .func (PySem.W.fnOf "_law_refused" "_law_refused" (defArgs s_law_refused) (defBody s_law_refused) (defScope s_law_refused) .none kV21 dc21 pm21 an21 cd21 ct21), sl21⟩)
    (c21 : PySem.W.codeIn K cd21 "_law_refused" = true)
    (k21 : PySem.W.keepIn K (.ref q21) = true)
    (a22 : PySem.W.nsIn K mainGlobals "_law_person" = some (some (.ref q22)))
    (l22 : K.lookup q22 = some ⟨oc22, od22, .func (PySem.W.fnOf "_law_person" "_law_person" (defArgs s_law_person) (defBody s_law_person) (defScope s_law_person) .none kV22 dc22 pm22 an22 cd22 ct22), sl22⟩)
    (c22 : PySem.W.codeIn K cd22 "_law_person" = true)
    (k22 : PySem.W.keepIn K (.ref q22) = true)
    (a23 : PySem.W.nsIn K mainGlobals "law" = some (some (.ref q23)))
    (l23 : K.lookup q23 = some ⟨oc23, od23, .func (PySem.W.fnOf "law" "law" (defArgs s_law) (defBody s_law) (defScope s_law) .none kV23 dc23 pm23 an23 cd23 ct23), sl23⟩)
    (c23 : PySem.W.codeIn K cd23 "law" = true)
    (k23 : PySem.W.keepIn K (.ref q23) = true)
    (pg_Never : PySem.W.plainGet K C_Never Str.empty = true)
    (hd_Never : PySem.W.hasDictIn K C_Never = true)
    (po_Never : PySem.W.plainOver K C_Never = true)
    (sa_Never : PySem.W.findIn K (.ref C_Never) "__setattr__" = some (some (.builtin "object.__setattr__")))
    (mk_Never : PySem.W.makesIn K C_Never = true)
    (kc_Never : PySem.W.keepIn K (.ref C_Never) = true)
    (pg_Most : PySem.W.plainGet K C_Most Str.empty = true)
    (hd_Most : PySem.W.hasDictIn K C_Most = true)
    (po_Most : PySem.W.plainOver K C_Most = true)
    (sa_Most : PySem.W.findIn K (.ref C_Most) "__setattr__" = some (some (.builtin "object.__setattr__")))
    (mk_Most : PySem.W.makesIn K C_Most = true)
    (kc_Most : PySem.W.keepIn K (.ref C_Most) = true)
    (pg_Least : PySem.W.plainGet K C_Least Str.empty = true)
    (hd_Least : PySem.W.hasDictIn K C_Least = true)
    (po_Least : PySem.W.plainOver K C_Least = true)
    (sa_Least : PySem.W.findIn K (.ref C_Least) "__setattr__" = some (some (.builtin "object.__setattr__")))
    (mk_Least : PySem.W.makesIn K C_Least = true)
    (kc_Least : PySem.W.keepIn K (.ref C_Least) = true)
    (pg_Person : PySem.W.plainGet K C_Person Str.empty = true)
    (hd_Person : PySem.W.hasDictIn K C_Person = true)
    (po_Person : PySem.W.plainOver K C_Person = true)
    (sa_Person : PySem.W.findIn K (.ref C_Person) "__setattr__" = some (some (.builtin "object.__setattr__")))
    (mk_Person : PySem.W.makesIn K C_Person = true)
    (kc_Person : PySem.W.keepIn K (.ref C_Person) = true)
    (pg_House : PySem.W.plainGet K C_House Str.empty = true)
    (hd_House : PySem.W.hasDictIn K C_House = true)
    (po_House : PySem.W.plainOver K C_House = true)
    (sa_House : PySem.W.findIn K (.ref C_House) "__setattr__" = some (some (.builtin "object.__setattr__")))
    (mk_House : PySem.W.makesIn K C_House = true)
    (kc_House : PySem.W.keepIn K (.ref C_House) = true)
    (xc_NoName : PySem.W.excIn K C_NoName veTail "ValueError.__new__" = true)
    (xa_NoName : PySem.W.findIn K (.ref C_NoName) "__getattribute__" = some (some (.builtin "BaseException.__getattribute__")))
    (xb_NoName : PySem.W.findIn K (.ref C_NoName) "__getattr__" = some none)
    (xd_NoName : PySem.W.findIn K (.ref C_NoName) "__class__" = some (some (.builtin "object.__class__")))
    (xo_NoName : PySem.W.mroIn K C_NoName (.type "object") = some true)
    (xe_NoName : PySem.W.mroIn K C_NoName (.type "BaseException") = some true)
    (xm_NoName_RotaError : PySem.W.exmOne K (.ref C_NoName) (.ref C_RotaError) = some true)
    (xk_NoName_ValueError : PySem.W.kitOne K (.ref C_NoName) (.type "ValueError") = some true)
    (xk_NoName_NoName : PySem.W.kitOne K (.ref C_NoName) (.ref C_NoName) = some true)
    (xt_NoName_0 : PySem.W.kitAny K (.ref C_NoName) [.ref C_Faulty, .ref C_NoDay, .ref C_NoHouse, .ref C_NoRow, .ref C_NoRule, .ref C_TooWide] = some false)
    (n_Never_word : PySem.W.findIn K (.ref C_Never) "word" = some none)
    (n_Most_many : PySem.W.findIn K (.ref C_Most) "many" = some none)
    (n_Most_marks : PySem.W.findIn K (.ref C_Most) "marks" = some none)
    (n_Most_days : PySem.W.findIn K (.ref C_Most) "days" = some none)
    (n_Least_many : PySem.W.findIn K (.ref C_Least) "many" = some none)
    (n_Least_marks : PySem.W.findIn K (.ref C_Least) "marks" = some none)
    (n_Least_days : PySem.W.findIn K (.ref C_Least) "days" = some none)
    (n_Person_name : PySem.W.findIn K (.ref C_Person) "name" = some none)
    (n_Person_skills : PySem.W.findIn K (.ref C_Person) "skills" = some none)
    (n_Person_most : PySem.W.findIn K (.ref C_Person) "most" = some none)
    (n_Person_carried : PySem.W.findIn K (.ref C_Person) "carried" = some none)
    (n_Person_past : PySem.W.findIn K (.ref C_Person) "past" = some none)
    (n_House_days : PySem.W.findIn K (.ref C_House) "days" = some none)
    (n_House_kinds : PySem.W.findIn K (.ref C_House) "kinds" = some none)
    (n_House_needs : PySem.W.findIn K (.ref C_House) "needs" = some none)
    (n_House_persons : PySem.W.findIn K (.ref C_House) "persons" = some none)
    (n_House_leave : PySem.W.findIn K (.ref C_House) "leave" = some none)
    (n_House_wishes : PySem.W.findIn K (.ref C_House) "wishes" = some none)
    (n_House_rules : PySem.W.findIn K (.ref C_House) "rules" = some none)
    (n_House_pairs : PySem.W.findIn K (.ref C_House) "pairs" = some none)
    (z_ValueError : PySem.W.nsIn K mainGlobals "ValueError" = some none)
    (z_bool : PySem.W.nsIn K mainGlobals "bool" = some none)
    (z_enumerate : PySem.W.nsIn K mainGlobals "enumerate" = some none)
    (z_int : PySem.W.nsIn K mainGlobals "int" = some none)
    (z_isinstance : PySem.W.nsIn K mainGlobals "isinstance" = some none)
    (z_len : PySem.W.nsIn K mainGlobals "len" = some none)
    (z_list : PySem.W.nsIn K mainGlobals "list" = some none)
    (z_max : PySem.W.nsIn K mainGlobals "max" = some none)
    (z_range : PySem.W.nsIn K mainGlobals "range" = some none)
    (z_str : PySem.W.nsIn K mainGlobals "str" = some none)
    (z_tuple : PySem.W.nsIn K mainGlobals "tuple" = some none)
    (z_zip : PySem.W.nsIn K mainGlobals "zip" = some none)
    : ∃ fd : FuncData, (∀ (s : Shared) (v : Value), BindsTo s fd ⟨[v], []⟩ [("_law_script", v)]) ∧ ∀ base : Heap, K.In base → base.Ns mainGlobals mg → FnOk l.prog w K mg base CX0 14 fa fd ["_law_script"] (sp_law K) := by
  have e := hfa.symm.trans (PySem.W.mg_of X G a23)
  cases e
  have T : Tx K mg C_Never C_Most C_Least C_Person C_House C_RotaError C_NoName C_NoDay C_Faulty C_NoHouse C_NoRow C_NoRule C_TooWide := ⟨⟨_, _, fun_mk (st := s_Never_init) l1 c1 k1, ⟨a1, i1, k1⟩⟩,
    ⟨_, _, fun_mk (st := s_Never_reach) l2 c2 k2, ⟨a2, i2, k2⟩⟩,
    ⟨_, _, fun_mk (st := s_Most_init) l3 c3 k3, ⟨a3, i3, k3⟩⟩,
    ⟨_, _, fun_mk (st := s_Most_reach) l4 c4 k4, ⟨a4, i4, k4⟩⟩,
    ⟨_, _, fun_mk (st := s_Least_init) l5 c5 k5, ⟨a5, i5, k5⟩⟩,
    ⟨_, _, fun_mk (st := s_Least_reach) l6 c6 k6, ⟨a6, i6, k6⟩⟩,
    ⟨_, _, fun_mk (st := s_Person_init) l7 c7 k7, ⟨a7, i7, k7⟩⟩,
    ⟨_, _, fun_mk (st := s_House_init) l8 c8 k8, ⟨a8, i8, k8⟩⟩,
    ⟨_, _, fun_mk (st := s_law_cell_at) l9 c9 k9, PySem.W.mg_of X G a9⟩,
    ⟨_, _, fun_mk (st := s_law_name) l10 c10 k10, PySem.W.mg_of X G a10⟩,
    ⟨_, _, fun_mk (st := s_law_whole) l11 c11 k11, PySem.W.mg_of X G a11⟩,
    ⟨_, _, fun_mk (st := s_count_text) l12 c12 k12, PySem.W.mg_of X G a12⟩,
    ⟨_, _, fun_mk (st := s_Never_text) l13 c13 k13, ⟨a13, i13, k13⟩⟩,
    ⟨_, _, fun_mk (st := s_Most_text) l14 c14 k14, ⟨a14, i14, k14⟩⟩,
    ⟨_, _, fun_mk (st := s_Least_text) l15 c15 k15, ⟨a15, i15, k15⟩⟩,
    ⟨_, _, fun_mk (st := s_House_place_of) l16 c16 k16, ⟨a16, i16, k16⟩⟩,
    ⟨_, _, fun_mk (st := s_House_rules_for) l17 c17 k17, ⟨a17, i17, k17⟩⟩,
    ⟨_, _, fun_mk (st := s_House_reach_of) l18 c18 k18, ⟨a18, i18, k18⟩⟩,
    ⟨_, _, fun_mk (st := s_House_plain) l19 c19 k19, ⟨a19, i19, k19⟩⟩,
    ⟨_, _, fun_mk (st := s_law_rule) l20 c20 k20, PySem.W.mg_of X G a20⟩,
    ⟨_, _, fun_mk (st := s_law_refused) l21 c21 k21, PySem.W.mg_of X G a21⟩,
    ⟨_, _, fun_mk (st := s_law_person) l22 c22 k22, PySem.W.mg_of X G a22⟩,
    ⟨_, _, fun_mk (st := s_law) l23 c23 k23, PySem.W.mg_of X G a23⟩,
    ⟨⟨pg_Never, hd_Never, po_Never, sa_Never⟩, PySem.W.mg_of X G g_Never, mk_Never, kc_Never⟩,
    ⟨⟨pg_Most, hd_Most, po_Most, sa_Most⟩, PySem.W.mg_of X G g_Most, mk_Most, kc_Most⟩,
    ⟨⟨pg_Least, hd_Least, po_Least, sa_Least⟩, PySem.W.mg_of X G g_Least, mk_Least, kc_Least⟩,
    ⟨⟨pg_Person, hd_Person, po_Person, sa_Person⟩, PySem.W.mg_of X G g_Person, mk_Person, kc_Person⟩,
    ⟨⟨pg_House, hd_House, po_House, sa_House⟩, PySem.W.mg_of X G g_House, mk_House, kc_House⟩,
    PySem.W.mg_of X G g_RotaError,
    PySem.W.mg_of X G g_NoName,
    PySem.W.mg_of X G g_NoDay,
    PySem.W.mg_of X G g_Faulty,
    PySem.W.mg_of X G g_NoHouse,
    PySem.W.mg_of X G g_NoRow,
    PySem.W.mg_of X G g_NoRule,
    PySem.W.mg_of X G g_TooWide,
    xc_NoName,
    ⟨⟨xa_NoName, xb_NoName, xd_NoName, xo_NoName, xe_NoName⟩, cls_of_mro xo_NoName⟩,
    xm_NoName_RotaError,
    xk_NoName_ValueError,
    xk_NoName_NoName,
    xt_NoName_0,
    n_Never_word,
    n_Most_many,
    n_Most_marks,
    n_Most_days,
    n_Least_many,
    n_Least_marks,
    n_Least_days,
    n_Person_name,
    n_Person_skills,
    n_Person_most,
    n_Person_carried,
    n_Person_past,
    n_House_days,
    n_House_kinds,
    n_House_needs,
    n_House_persons,
    n_House_leave,
    n_House_wishes,
    n_House_rules,
    n_House_pairs,
    PySem.W.mg_none_of X G z_ValueError,
    PySem.W.mg_none_of X G z_bool,
    PySem.W.mg_none_of X G z_enumerate,
    PySem.W.mg_none_of X G z_int,
    PySem.W.mg_none_of X G z_isinstance,
    PySem.W.mg_none_of X G z_len,
    PySem.W.mg_none_of X G z_list,
    PySem.W.mg_none_of X G z_max,
    PySem.W.mg_none_of X G z_range,
    PySem.W.mg_none_of X G z_str,
    PySem.W.mg_none_of X G z_tuple,
    PySem.W.mg_none_of X G z_zip⟩
  refine ⟨PySem.W.fnOf "law" "law" (defArgs s_law) (defBody s_law) (defScope s_law) .none kV23 dc23 pm23 an23 cd23 ct23, fun s v => .of_eq rfl, fun base _ _ => ?_⟩
  exact law_ok T (fun_mk (st := s_law) l23 c23 k23)
theorem walk {l : PySem.W.OpenLaw} {q : Program} {loose : List Str} {XP : (Str → Option Value) → Heap → Prop} {YP : World → Heap → Prop} {d : DefRec} {K : Params → PySem.W.Frag} (hn : l.most = some 63) (hdf : d.params.defaults = [])
    (hY : ∀ (w : World) (h : Heap), YP w h → (K w.params).In h)
    (F : ∀ (w : World) (mg : Str → Option Value) (fa : Addr) (h : Heap), (K w.params).In h → h.Ns mainGlobals mg → mg d.name = some (.ref fa) →
      ∃ fd : FuncData, (∀ (s : Shared) (u : Value), BindsTo s fd ⟨[u], []⟩ [("_law_script", u)]) ∧ ∀ base : Heap, (K w.params).In base → base.Ns mainGlobals mg → FnOk l.prog w (K w.params) mg base CX0 14 fa fd ["_law_script"] (sp_law (K w.params))) :
    PySem.W.WalkO q loose XP YP l.row.toRowW d [] (fun f vs => PySem.call f vs) :=
  L2.walk_of (n := 63) (k := 14) (x := "_law_script") (CX := fun _ => CX0) (sp := fun w => sp_law (K w.params)) hn (by decide) hdf ⟨rfl, by decide, by decide⟩ hY F (fun _ _ a ns hl _ hS => ⟨a, ns, rfl, hS, hl, fun _ => rfl⟩) fun _ _ _ _ _ z => z
theorem walkX {q : Program} {loose : List Str} {XP : (Str → Option Value) → Heap → Prop} {K : Params → PySem.W.Frag} {as : List Addr} {n t : Nat} {r : PySem.W.RowW} {d : DefRec} {kwd : List (Str × Expr)} {run : Value → List Value → Sem Value} (e : ∀ P, as = (K P).map (·.1))
    (h : PySem.W.WalkO q loose XP (fun w hp => (K w.params).In hp) r d kwd run) : PySem.W.WalkX q loose XP (PySem.W.X.obsZ as) (PySem.W.X.valZ K n t) r d kwd run := by
  intro w s₀ s₁ mg mb G Y a o pm cd doc dV kV h1 h2 h3 h4 h5 h6 args vals as' L p1 p2 p3 p4 p5
  exact h w s₀ s₁ mg mb G (PySem.W.InK.keeps w _ _ (PySem.W.X.z_facts e Y).2.1 L.keeps) a o pm cd doc dV kV h1 h2 h3 h4 h5 h6 args vals as' p1 p2 p3 p4 p5
end K22
def PySem.W.Fast.tw13064400483307116214 : Unit := ()
def PySem.W.Fast.tw6235205850455475406 : Unit := ()
def PySem.W.Fast.tw16130479940098829205 : Unit := ()
def PySem.W.Fast.tw14696995102270909839 : Unit := ()
def PySem.W.Fast.tw9308561528598240842 : Unit := ()
def PySem.W.Fast.tw1492519955421128752 : Unit := ()
def PySem.W.Fast.tw8717712365551526800 : Unit := ()
def PySem.W.Fast.tw7073437839212900884 : Unit := ()
def PySem.W.Fast.tw8316454668950179381 : Unit := ()
def PySem.W.Fast.tw8083984496131484035 : Unit := ()
def PySem.W.Fast.tw13649636671014543713 : Unit := ()
def PySem.W.Fast.tw594152123944672911 : Unit := ()
def PySem.W.Fast.tw10667808079390015653 : Unit := ()
def PySem.W.Fast.tw4217305771773125885 : Unit := ()
def PySem.W.Fast.tw6856942868289521910 : Unit := ()
def PySem.W.Fast.tw6701920312779185962 : Unit := ()
def PySem.W.Fast.tw7318708784709789813 : Unit := ()
def PySem.W.Fast.tw5493743229294105534 : Unit := ()
def PySem.W.Fast.tw8674659187447391036 : Unit := ()
def PySem.W.Fast.tw8727032000603214791 : Unit := ()
def PySem.W.Fast.tw4158055828737779406 : Unit := ()
def PySem.W.Fast.tw13944908233510020425 : Unit := ()
def PySem.W.Fast.tw14519770113907085777 : Unit := ()
def PySem.W.Fast.tw17893666147470861251 : Unit := ()
def PySem.W.Fast.tw14382719729853903742 : Unit := ()
def PySem.W.Fast.tw15839933860370495229 : Unit := ()
def PySem.W.Fast.tw17686493230796984196 : Unit := ()
def PySem.W.Fast.tw11803622439482266192 : Unit := ()
def PySem.W.Fast.tw12900647637608590844 : Unit := ()
def PySem.W.Fast.tw4007818360562503079 : Unit := ()
def PySem.W.Fast.tw16861979017694265767 : Unit := ()
def PySem.W.Fast.tw18442311667908086179 : Unit := ()
def PySem.W.Fast.tw11378692717451246178 : Unit := ()
def PySem.W.Fast.tw4607130150727189649 : Unit := ()
def PySem.W.Fast.tw9055043344478134225 : Unit := ()
def PySem.W.Fast.tw16839269733739287002 : Unit := ()
def PySem.W.Fast.tw944458814642223221 : Unit := ()
def PySem.W.Fast.tw3464339836465250253 : Unit := ()
def PySem.W.Fast.tw3171157911152432265 : Unit := ()
def PySem.W.Fast.tw13006544343237577136 : Unit := ()
def PySem.W.Fast.tw17159241921711496355 : Unit := ()
def PySem.W.Fast.tw3092006080432141450 : Unit := ()
def PySem.W.Fast.tw4417985051446462737 : Unit := ()
def PySem.W.Fast.tw12670041231458648932 : Unit := ()
def PySem.W.Fast.tw359141478291117784 : Unit := ()
def PySem.W.Fast.tw12170346305101752601 : Unit := ()
def PySem.W.Fast.tw9014926779585499326 : Unit := ()
def PySem.W.Fast.tw1440631531049439176 : Unit := ()
def PySem.W.Fast.tw17990004644447794685 : Unit := ()
def PySem.W.Fast.tw1107731016770865627 : Unit := ()
def PySem.W.Fast.tw13982117899323417516 : Unit := ()
def PySem.W.Fast.tw7487091949257379040 : Unit := ()
def PySem.W.Fast.tw10800283311047625164 : Unit := ()
def PySem.W.Fast.tw1320014998665428147 : Unit := ()
def PySem.W.Fast.tw543021096206407095 : Unit := ()
def PySem.W.Fast.tw1499360048470642080 : Unit := ()
def PySem.W.Fast.tw4102230092359324567 : Unit := ()
def PySem.W.Fast.tw671390589904172406 : Unit := ()
def PySem.W.Fast.tw11808644896717068000 : Unit := ()
def PySem.W.Fast.tw10205860919981788965 : Unit := ()
def PySem.W.Fast.tw13005422925237343448 : Unit := ()
def PySem.W.Fast.tw17135599395354945040 : Unit := ()
def PySem.W.Fast.tw15176627686913740254 : Unit := ()
def PySem.W.Fast.tw12006886194815490637 : Unit := ()
def PySem.W.Fast.tw12363325954876497097 : Unit := ()
def PySem.W.Fast.tw13776765354175594998 : Unit := ()
def PySem.W.Fast.tw7864815189494033032 : Unit := ()
def PySem.W.Fast.tw8370578787744431322 : Unit := ()
def PySem.W.Fast.tw1823817262817132081 : Unit := ()
def PySem.W.Fast.tw17033978721510804407 : Unit := ()
def PySem.W.Fast.tw12596856953331887484 : Unit := ()
def PySem.W.Fast.tw15299788683609388232 : Unit := ()
def PySem.W.Fast.tw5422849895144948624 : Unit := ()
def PySem.W.Fast.tw3773120593524195067 : Unit := ()
def PySem.W.Fast.tw13509478261870152978 : Unit := ()
def PySem.W.Fast.tw3838479309002796209 : Unit := ()
def PySem.W.Fast.tw17669945940940846366 : Unit := ()
def PySem.W.Fast.tw7940636227833902197 : Unit := ()
def PySem.W.Fast.tw3832658679109192408 : Unit := ()
def PySem.W.Fast.tw7493547731059114205 : Unit := ()
def PySem.W.Fast.tw14780850167526412165 : Unit := ()
def PySem.W.Fast.tw15171948843634407901 : Unit := ()
def PySem.W.Fast.tw13090295399549099253 : Unit := ()
def PySem.W.Fast.tw12193908363331484312 : Unit := ()
def PySem.W.Fast.tw18259307960598623977 : Unit := ()
def PySem.W.Fast.tw15919796291594279054 : Unit := ()
def PySem.W.Fast.tw13153434599339766003 : Unit := ()
def PySem.W.Fast.tw18196397119468580993 : Unit := ()
def PySem.W.Fast.tw2770101879165446224 : Unit := ()
def PySem.W.Fast.tw14413229223605312649 : Unit := ()
def PySem.W.Fast.tw9556262036731746539 : Unit := ()
def PySem.W.Fast.tw13363612043527843437 : Unit := ()
def PySem.W.Fast.tw50975470277137617 : Unit := ()
def PySem.W.Fast.tw1540386898309296418 : Unit := ()
def PySem.W.Fast.tw1276626247529643758 : Unit := ()
def PySem.W.Fast.tw15330154668704679822 : Unit := ()
def PySem.W.Fast.tw14819050630443886330 : Unit := ()
def PySem.W.Fast.tw6933914454825824038 : Unit := ()
def PySem.W.Fast.tw8966453610177560760 : Unit := ()
def PySem.W.Fast.tw12911820434639769134 : Unit := ()
def PySem.W.Fast.tw1601249121085665409 : Unit := ()
def PySem.W.Fast.tw10932561240704839751 : Unit := ()
def PySem.W.Fast.tw12595839056098054079 : Unit := ()
def PySem.W.Fast.tw16935984875920508732 : Unit := ()
def PySem.W.Fast.tw2233959602381817118 : Unit := ()
def PySem.W.Fast.tw10421657321030122720 : Unit := ()
def PySem.W.Fast.tw3294609488748012658 : Unit := ()
def PySem.W.Fast.tw810334685431543257 : Unit := ()
def PySem.W.Fast.tw3930206319377721297 : Unit := ()
def PySem.W.Fast.tw7055410802111283575 : Unit := ()
def PySem.W.Fast.tw4194970573096237943 : Unit := ()
def PySem.W.Fast.tw3579098038396408684 : Unit := ()
def PySem.W.Fast.tw14734210089010699682 : Unit := ()
def PySem.W.Fast.tw16113641105340185747 : Unit := ()
def PySem.W.Fast.tw10714789290821449614 : Unit := ()
def PySem.W.Fast.tw11731231984646531488 : Unit := ()
def PySem.W.Fast.tw632714126324734606 : Unit := ()
def PySem.W.Fast.tw10516027272525540792 : Unit := ()
def PySem.W.Fast.tw9775018554850913624 : Unit := ()
def PySem.W.Fast.tw11546531578032328229 : Unit := ()
def PySem.W.Fast.tw10690637167857337014 : Unit := ()
def PySem.W.Fast.tw822519582993278988 : Unit := ()
def PySem.W.Fast.tw5197129301400774636 : Unit := ()
def PySem.W.Fast.tw9319724951350477366 : Unit := ()
def PySem.W.Fast.tw8538731541100728502 : Unit := ()
def PySem.W.Fast.tw59818600431143443 : Unit := ()
def PySem.W.Fast.tw8929802997888005684 : Unit := ()
def PySem.W.Fast.tw4090197436033858586 : Unit := ()
def PySem.W.Fast.tw6792270607591850531 : Unit := ()
def PySem.W.Fast.tw6067782918997457262 : Unit := ()
def PySem.W.Fast.tw17963782732553699186 : Unit := ()
def PySem.W.Fast.tw11734300737025502715 : Unit := ()
def PySem.W.Fast.tw3922768268318911767 : Unit := ()
def PySem.W.Fast.tw16609271326222624277 : Unit := ()
def PySem.W.Fast.tw16740108008044967872 : Unit := ()
def PySem.W.Fast.tw8843416968117809131 : Unit := ()
def PySem.W.Fast.tw8480499986761832779 : Unit := ()
def PySem.W.Fast.tw13010989365007948400 : Unit := ()
def PySem.W.Fast.tw13207210315047539719 : Unit := ()
def PySem.W.Fast.tw14374468077767042949 : Unit := ()
def PySem.W.Fast.tw13558054014370915276 : Unit := ()
def PySem.W.Fast.tw8268870396625783182 : Unit := ()
def PySem.W.Fast.tw1273752564570931375 : Unit := ()
def PySem.W.Fast.tw12969707893617653409 : Unit := ()
def PySem.W.Fast.tw13686436687833876804 : Unit := ()
def PySem.W.Fast.tw17799947266307915416 : Unit := ()
def PySem.W.Fast.tw10540901598264973026 : Unit := ()
def PySem.W.Fast.tw11425308467508949266 : Unit := ()
def PySem.W.Fast.tw89562303914125697 : Unit := ()
def PySem.W.Fast.tw7366011922331586456 : Unit := ()
def PySem.W.Fast.tw8147432800696402266 : Unit := ()
def PySem.W.Fast.tw10613506801243424958 : Unit := ()
def PySem.W.Fast.tw6222190162260682536 : Unit := ()
def PySem.W.Fast.tw16582120382935189948 : Unit := ()
def PySem.W.Fast.tw14671685830535666368 : Unit := ()
def PySem.W.Fast.tw10187419536493831097 : Unit := ()
def PySem.W.Fast.tw14055264047082276520 : Unit := ()
def PySem.W.Fast.tw8000955962630265695 : Unit := ()
def PySem.W.Fast.tw15977105527782416794 : Unit := ()
def PySem.W.Fast.tw15754812662485584151 : Unit := ()
def PySem.W.Fast.tw8531086650999512757 : Unit := ()
def PySem.W.Fast.tw5383761030611239658 : Unit := ()
def PySem.W.Fast.tw3046658693316449833 : Unit := ()
def PySem.W.Fast.tw3538458518550134044 : Unit := ()
def PySem.W.Fast.tw13012303239422950290 : Unit := ()
def PySem.W.Fast.tw926746903739756470 : Unit := ()
def PySem.W.Fast.tw4399253830562062160 : Unit := ()
def PySem.W.Fast.tw10640635492740713924 : Unit := ()
def PySem.W.Fast.tw7311733110117628810 : Unit := ()
def PySem.W.Fast.tw9459309155047721349 : Unit := ()
def PySem.W.Fast.tw14567658095617457636 : Unit := ()
def PySem.W.Fast.tw13957296131075179479 : Unit := ()
def PySem.W.Fast.tw12594532520520748616 : Unit := ()
def PySem.W.Fast.tw4906625002415158596 : Unit := ()
def PySem.W.Fast.tw9519547425966258231 : Unit := ()
def PySem.W.Fast.tw6592971641674210242 : Unit := ()
def PySem.W.Fast.tw14497045310177817474 : Unit := ()
def PySem.W.Fast.tw6928275388457414071 : Unit := ()
def PySem.W.Fast.tw12234410675991731053 : Unit := ()
def PySem.W.Fast.tw1057429749410839332 : Unit := ()
def PySem.W.Fast.tw2167439528107230537 : Unit := ()
def PySem.W.Fast.tw1389418754503105842 : Unit := ()
def PySem.W.Fast.tw10351786907468534207 : Unit := ()
def PySem.W.Fast.tw17056457714571160712 : Unit := ()
def PySem.W.Fast.tw8386933787963146884 : Unit := ()
def PySem.W.Fast.tw18426699008998298137 : Unit := ()
def PySem.W.Fast.tw12085519303883444937 : Unit := ()
def PySem.W.Fast.tw5208376134474209782 : Unit := ()
def PySem.W.Fast.tw17297644350069370932 : Unit := ()
def PySem.W.Fast.tw8891940427366199649 : Unit := ()
def PySem.W.Fast.tw8477465193243792412 : Unit := ()
def PySem.W.Fast.tw10314168427901428218 : Unit := ()
def PySem.W.Fast.tw3736387711951630049 : Unit := ()
def PySem.W.Fast.tw8582462977366943315 : Unit := ()
def PySem.W.Fast.tw8794765363929915297 : Unit := ()
def PySem.W.Fast.tw15712902272292602705 : Unit := ()
def PySem.W.Fast.tw2175359500280607476 : Unit := ()
def PySem.W.Fast.tw15614906233004510493 : Unit := ()
def PySem.W.Fast.tw1493634184897659491 : Unit := ()
def PySem.W.Fast.tw18048103873051024466 : Unit := ()
def PySem.W.Fast.tw2623686637075478570 : Unit := ()
def PySem.W.Fast.tw10139148330416887627 : Unit := ()
def PySem.W.Fast.tw16012677042931156542 : Unit := ()
def PySem.W.Fast.tw16831670720109884892 : Unit := ()
def PySem.W.Fast.tw10322654891283052088 : Unit := ()
def PySem.W.Fast.tw534261540337612491 : Unit := ()
def PySem.W.Fast.tw17789197837934707120 : Unit := ()
def PySem.W.Fast.tw8428473483251336740 : Unit := ()
def PySem.W.Fast.tw4485335683368956351 : Unit := ()
def PySem.W.Fast.tw3401142952427038109 : Unit := ()
def PySem.W.Fast.tw14738616092160174239 : Unit := ()
def PySem.W.Fast.tw4587543813465173375 : Unit := ()
def PySem.W.Fast.tw14785083471972637834 : Unit := ()
def PySem.W.Fast.tw3170497709757373534 : Unit := ()
def PySem.W.Fast.tw4585065579281492141 : Unit := ()
def PySem.W.Fast.tw10414575104111920090 : Unit := ()
def PySem.W.Fast.tw13069832135936995025 : Unit := ()
def PySem.W.Fast.tw10442753354197122613 : Unit := ()
def PySem.W.Fast.tw5589049469439488079 : Unit := ()
def PySem.W.Fast.tw2982953125934786035 : Unit := ()
def PySem.W.Fast.tw5604822168467022148 : Unit := ()
def PySem.W.Fast.tw9813440147718984615 : Unit := ()
def PySem.W.Fast.tw118763152463582625 : Unit := ()
def PySem.W.Fast.tw17031193047813656114 : Unit := ()
def PySem.W.Fast.tw16209608500581934480 : Unit := ()
def PySem.W.Fast.tw12721350543845092218 : Unit := ()
def PySem.W.Fast.tw12752493134531401020 : Unit := ()
def PySem.W.Fast.tw15353581614679744182 : Unit := ()
def PySem.W.Fast.tw5349984229024166739 : Unit := ()
def PySem.W.Fast.tw4153854739196422625 : Unit := ()
def PySem.W.Fast.tw16885754462708206904 : Unit := ()
def PySem.W.Fast.tw15575982663184210436 : Unit := ()
def PySem.W.Fast.tw7114821918428478001 : Unit := ()
def PySem.W.Fast.tw11524026930475336986 : Unit := ()
def PySem.W.Fast.tw5588736082270037893 : Unit := ()
def PySem.W.Fast.tw4408732824520261250 : Unit := ()
def PySem.W.Fast.tw18080651020237142881 : Unit := ()
def PySem.W.Fast.tw9848367117213604157 : Unit := ()
def PySem.W.Fast.tw5528620685253964286 : Unit := ()
def PySem.W.Fast.tw13887275313117374723 : Unit := ()
def PySem.W.Fast.tw2077196857288833817 : Unit := ()
def PySem.W.Fast.tw8398961579547662638 : Unit := ()
def PySem.W.Fast.tw372797348317733801 : Unit := ()
def PySem.W.Fast.tw13262533370440103267 : Unit := ()
def PySem.W.Fast.tw3583600177983895652 : Unit := ()
def PySem.W.Fast.tw6858863975315842336 : Unit := ()
def PySem.W.Fast.tw3965983135290752598 : Unit := ()
def PySem.W.Fast.tw10209492951038648411 : Unit := ()
def PySem.W.Fast.tw11572655325247650556 : Unit := ()
def PySem.W.Fast.tw16814816679692572594 : Unit := ()
def PySem.W.Fast.tw17046970048802836007 : Unit := ()
def PySem.W.Fast.tw9076486066760961563 : Unit := ()
def PySem.W.Fast.tw13774439624250074757 : Unit := ()
def PySem.W.Fast.tw8076348474349406079 : Unit := ()
def PySem.W.Fast.tw3854576025257479639 : Unit := ()
def PySem.W.Fast.tw4587836722006478704 : Unit := ()
def PySem.W.Fast.tw340550554320511236 : Unit := ()
def PySem.W.Fast.tw1903584808278865651 : Unit := ()
def PySem.W.Fast.tw3430237906266976703 : Unit := ()
def PySem.W.Fast.tw2993787616193409295 : Unit := ()
def PySem.W.Fast.tw18331586421124278489 : Unit := ()
def PySem.W.Fast.tw16863671923417078097 : Unit := ()
def PySem.W.Fast.tw5741514532700271596 : Unit := ()
def PySem.W.Fast.tw10622147653056414191 : Unit := ()
def PySem.W.Fast.tw10084959355958898094 : Unit := ()
def PySem.W.Fast.tw15117811104313394013 : Unit := ()
def PySem.W.Fast.tw15231581389529634895 : Unit := ()
def PySem.W.Fast.tw2184408670402135860 : Unit := ()
def PySem.W.Fast.tw3710931687097228649 : Unit := ()
def PySem.W.Fast.tw4832631203204170197 : Unit := ()
def PySem.W.Fast.tw13436965008965125759 : Unit := ()
def PySem.W.Fast.tw11939076976601514439 : Unit := ()
def PySem.W.Fast.tw2395112487956042056 : Unit := ()
def PySem.W.Fast.tw7823775343536087110 : Unit := ()
def PySem.W.Fast.tw5884461808589884317 : Unit := ()
def PySem.W.Fast.tw5018788911531794265 : Unit := ()
def PySem.W.Fast.tw9496109903260209847 : Unit := ()
def PySem.W.Fast.tw2484376027490899888 : Unit := ()
def PySem.W.Fast.tw510141881559932621 : Unit := ()
def PySem.W.Fast.tw15703382730685026170 : Unit := ()
def PySem.W.Fast.tw15393849746573166279 : Unit := ()
def PySem.W.Fast.tw8391608799818855587 : Unit := ()
def PySem.W.Fast.tw10336614857739415935 : Unit := ()
def PySem.W.Fast.tw10436265246860375431 : Unit := ()
def PySem.W.Fast.tw11426429908373445284 : Unit := ()
def PySem.W.Fast.tw10063561337274743400 : Unit := ()
def PySem.W.Fast.tw5246296776256177387 : Unit := ()
def PySem.W.Fast.tw11160869183301880071 : Unit := ()
def PySem.W.Fast.tw9302106865630422600 : Unit := ()
def PySem.W.Fast.tw15617869070460288011 : Unit := ()
def PySem.W.Fast.tw13707270931597185091 : Unit := ()
def PySem.W.Fast.tw13672862977141170253 : Unit := ()
def PySem.W.Fast.tw16411534276339337716 : Unit := ()
def PySem.W.Fast.tw17417225306113011680 : Unit := ()
def PySem.W.Fast.tw14238152111068860107 : Unit := ()
def PySem.W.Fast.tw3713762598937361276 : Unit := ()
def PySem.W.Fast.tw3135813273355514266 : Unit := ()
def PySem.W.Fast.tw14209671502699112387 : Unit := ()
def PySem.W.Fast.tw17156063123672325193 : Unit := ()
def PySem.W.Fast.tw8179972749664296297 : Unit := ()
def PySem.W.Fast.tw7449128535085110006 : Unit := ()
def PySem.W.Fast.tw9937617063986751443 : Unit := ()
def PySem.W.Fast.tw8986641831546335801 : Unit := ()
def PySem.W.Fast.tw6481209229049983281 : Unit := ()
def PySem.W.Fast.tw17516406770285310937 : Unit := ()
def PySem.W.Fast.tw17493113840298070653 : Unit := ()
def PySem.W.Fast.tw5490632744812355916 : Unit := ()
def PySem.W.Fast.tw14171466602651501832 : Unit := ()
def PySem.W.Fast.tw13524078150181090226 : Unit := ()
def PySem.W.Fast.tw11483621235319862422 : Unit := ()
def PySem.W.Fast.tw8812088132243468817 : Unit := ()
def PySem.W.Fast.tw12877430390989089209 : Unit := ()
def PySem.W.Fast.tw3860700766657238362 : Unit := ()
def PySem.W.Fast.tw2713566840049458511 : Unit := ()
def PySem.W.Fast.tw14631604729027478331 : Unit := ()
def PySem.W.Fast.tw15294652427101788088 : Unit := ()
def PySem.W.Fast.tw4206044506856305453 : Unit := ()
def PySem.W.Fast.tw2840230883543885035 : Unit := ()
def PySem.W.Fast.tw4680843936412736492 : Unit := ()
def PySem.W.Fast.tw8603592370810672770 : Unit := ()
def PySem.W.Fast.tw16707697273227092239 : Unit := ()
def PySem.W.Fast.tw15598912742822788948 : Unit := ()
def PySem.W.Fast.tw1738631176451981312 : Unit := ()
def PySem.W.Fast.tw9794960811113405345 : Unit := ()
def PySem.W.Fast.tw3418648631023280039 : Unit := ()
def PySem.W.Fast.tw3479751239478977719 : Unit := ()
def PySem.W.Fast.tw7069121226458231376 : Unit := ()
def PySem.W.Fast.tw2620803330313857272 : Unit := ()
def PySem.W.Fast.tw3695611498326690351 : Unit := ()
def PySem.W.Fast.tw12388190851925866536 : Unit := ()
def PySem.W.Fast.tw7383096367605875085 : Unit := ()
def PySem.W.Fast.tw7469416798721222627 : Unit := ()
def PySem.W.Fast.tw7930442087240004603 : Unit := ()
def PySem.W.Fast.tw10717525425087552770 : Unit := ()
def PySem.W.Fast.tw1122292928351109629 : Unit := ()
def PySem.W.Fast.tw11849099720009558238 : Unit := ()
def PySem.W.Fast.tw17220892879489982483 : Unit := ()
def PySem.W.Fast.tw15103521549829573364 : Unit := ()
def PySem.W.Fast.tw3290522511436178226 : Unit := ()
def PySem.W.Fast.tw16198567261211033188 : Unit := ()
def PySem.W.Fast.tw15288966793499562549 : Unit := ()
def PySem.W.Fast.tw18222241757548693598 : Unit := ()
def PySem.W.Fast.tw16333205161071947203 : Unit := ()
def PySem.W.Fast.tw7335385742599158672 : Unit := ()
def PySem.W.Fast.tw7333689857795023717 : Unit := ()
def PySem.W.Fast.tw14157154537833067215 : Unit := ()
def PySem.W.Fast.tw6001073725429001179 : Unit := ()
def PySem.W.Fast.tw11355940834707280398 : Unit := ()
def PySem.W.Fast.tw10611125152365244793 : Unit := ()
def PySem.W.Fast.tw1594154916730761958 : Unit := ()
def PySem.W.Fast.tw2967268743727586184 : Unit := ()
def PySem.W.Fast.tw16636956715406290588 : Unit := ()
def PySem.W.Fast.tw16046275150540854142 : Unit := ()
def PySem.W.Fast.tw8757619694698459729 : Unit := ()
def PySem.W.Fast.tw6387007208302490638 : Unit := ()
def PySem.W.Fast.tw9766692578718542077 : Unit := ()
def PySem.W.Fast.tw7076118703854161639 : Unit := ()
def PySem.W.Fast.tw5823651093185543864 : Unit := ()
def PySem.W.Fast.tw9422596188674180942 : Unit := ()
def PySem.W.Fast.tw4268114135910967998 : Unit := ()
def PySem.W.Fast.tw7172930649196007815 : Unit := ()
def PySem.W.Fast.tw485582985599212888 : Unit := ()
def PySem.W.Fast.tw5008209411318970320 : Unit := ()
def PySem.W.Fast.tw6438342448174502429 : Unit := ()
def PySem.W.Fast.tw10063357694117253580 : Unit := ()
def PySem.W.Fast.tw3695027080568225533 : Unit := ()
def PySem.W.Fast.tw13947001676660979795 : Unit := ()
def PySem.W.Fast.tw2742515582845268297 : Unit := ()
def PySem.W.Fast.tw7193805148335408886 : Unit := ()
def PySem.W.Fast.tw2961902257243534318 : Unit := ()
def PySem.W.Fast.tw635456208291542377 : Unit := ()
def PySem.W.Fast.tw15199821141536566371 : Unit := ()
def PySem.W.Fast.tw18438439776120563328 : Unit := ()
def PySem.W.Fast.tw10346012848551213091 : Unit := ()
def PySem.W.Fast.tw4028688729916368240 : Unit := ()
def PySem.W.Fast.tw2973885467497897470 : Unit := ()
def PySem.W.Fast.tw9972385392794085955 : Unit := ()
def PySem.W.Fast.tw12739445209623503868 : Unit := ()
def PySem.W.Fast.tw7934475233346237972 : Unit := ()
def PySem.W.Fast.tw12824717561823368345 : Unit := ()
def PySem.W.Fast.tw14202068429524554528 : Unit := ()
def PySem.W.Fast.tw17455352931658339503 : Unit := ()
def PySem.W.Fast.tw7851370337116643156 : Unit := ()
def PySem.W.Fast.tw12937847705110230566 : Unit := ()
def PySem.W.Fast.tw10939110742806367408 : Unit := ()
def PySem.W.Fast.tw13648270865155024379 : Unit := ()
def PySem.W.Fast.tw2794497063740912460 : Unit := ()
def PySem.W.Fast.tw9520460719764482680 : Unit := ()
def PySem.W.Fast.tw14803558993226636060 : Unit := ()
def PySem.W.Fast.tw11874735108151399322 : Unit := ()
def PySem.W.Fast.tw13489395293620957490 : Unit := ()
def PySem.W.Fast.tw565170173900526196 : Unit := ()
def PySem.W.Fast.tw3696484006090668387 : Unit := ()
def PySem.W.Fast.tw17161220038080740711 : Unit := ()
def PySem.W.Fast.tw12311149175974745476 : Unit := ()
def PySem.W.Fast.tw12108436131704463000 : Unit := ()
def PySem.W.Fast.tw17739402238392709230 : Unit := ()
def PySem.W.Fast.tw9781457570480464133 : Unit := ()
def PySem.W.Fast.tw1875729079992708688 : Unit := ()
def PySem.W.Fast.tw17050372090813582641 : Unit := ()
def PySem.W.Fast.tw3173288790487064329 : Unit := ()
def PySem.W.Fast.tw13094868434512382339 : Unit := ()
def PySem.W.Fast.tw4958147795136921313 : Unit := ()
def PySem.W.Fast.tw7923810918942855228 : Unit := ()
def PySem.W.Fast.tw6511766661653404176 : Unit := ()
def PySem.W.Fast.tw602293410365421936 : Unit := ()
def PySem.W.Fast.tw12376266841595752773 : Unit := ()
def PySem.W.Fast.tw952595993414706222 : Unit := ()
def PySem.W.Fast.tw8296732019559581429 : Unit := ()
def PySem.W.Fast.tw5903497223547274227 : Unit := ()
def PySem.W.Fast.tw15291747025505026553 : Unit := ()
def PySem.W.Fast.tw12885280315781048744 : Unit := ()
def PySem.W.Fast.tw3977256243190655229 : Unit := ()
def PySem.W.Fast.tw1353966284996252981 : Unit := ()
def PySem.W.Fast.tw1506697352661347663 : Unit := ()
def PySem.W.Fast.tw16761635443992942226 : Unit := ()
def PySem.W.Fast.tw4894180045899508332 : Unit := ()
def PySem.W.Fast.tw9465761357822892451 : Unit := ()
def PySem.W.Fast.tw16096814810255982129 : Unit := ()
def PySem.W.Fast.tw52895284515204358 : Unit := ()
open PySem PySem.W PyProof.Rows
set_option maxRecDepth 100000 in
set_option maxHeartbeats 0 in
theorem PySem.Challenge.cw_rotafair_k22_who_is_bound_holds : PySem.Challenge.rw_rotafair_k22_who_is_bound.Holds := by
  w_on; o_law; z_head; (case hw => w_witness2)
  k_fill
  refine K22.walkX (fun _ => rfl) ?_
  refine K22.walk (l := PySem.Challenge.rw_rotafair_k22_who_is_bound) rfl rfl (fun w h Y => Y) ?F
  case F =>
    intro w mg fa h KX G hmg
    refine' K22.all_mk KX G hmg ?g_Never ?g_Most ?g_Least ?g_Person ?g_House ?g_RotaError ?g_NoName ?g_NoDay ?g_Faulty ?g_NoHouse ?g_NoRow ?g_NoRule ?g_TooWide ?a1 ?i1 ?l1 ?c1 ?k1 ?a2 ?i2 ?l2 ?c2 ?k2 ?a3 ?i3 ?l3 ?c3 ?k3 ?a4 ?i4 ?l4 ?c4 ?k4 ?a5 ?i5 ?l5 ?c5 ?k5 ?a6 ?i6 ?l6 ?c6 ?k6 ?a7 ?i7 ?l7 ?c7 ?k7 ?a8 ?i8 ?l8 ?c8 ?k8 ?a9 ?l9 ?c9 ?k9 ?a10 ?l10 ?c10 ?k10 ?a11 ?l11 ?c11 ?k11 ?a12 ?l12 ?c12 ?k12 ?a13 ?i13 ?l13 ?c13 ?k13 ?a14 ?i14 ?l14 ?c14 ?k14 ?a15 ?i15 ?l15 ?c15 ?k15 ?a16 ?i16 ?l16 ?c16 ?k16 ?a17 ?i17 ?l17 ?c17 ?k17 ?a18 ?i18 ?l18 ?c18 ?k18 ?a19 ?i19 ?l19 ?c19 ?k19 ?a20 ?l20 ?c20 ?k20 ?a21 ?l21 ?c21 ?k21 ?a22 ?l22 ?c22 ?k22 ?a23 ?l23 ?c23 ?k23 ?pg_Never ?hd_Never ?po_Never ?sa_Never ?mk_Never ?kc_Never ?pg_Most ?hd_Most ?po_Most ?sa_Most ?mk_Most ?kc_Most ?pg_Least ?hd_Least ?po_Least ?sa_Least ?mk_Least ?kc_Least ?pg_Person ?hd_Person ?po_Person ?sa_Person ?mk_Person ?kc_Person ?pg_House ?hd_House ?po_House ?sa_House ?mk_House ?kc_House ?xc_NoName ?xa_NoName ?xb_NoName ?xd_NoName ?xo_NoName ?xe_NoName ?xm_NoName_RotaError ?xk_NoName_ValueError ?xk_NoName_NoName ?xt_NoName_0 ?n_Never_word ?n_Most_many ?n_Most_marks ?n_Most_days ?n_Least_many ?n_Least_marks ?n_Least_days ?n_Person_name ?n_Person_skills ?n_Person_most ?n_Person_carried ?n_Person_past ?n_House_days ?n_House_kinds ?n_House_needs ?n_House_persons ?n_House_leave ?n_House_wishes ?n_House_rules ?n_House_pairs ?z_ValueError ?z_bool ?z_enumerate ?z_int ?z_isinstance ?z_len ?z_list ?z_max ?z_range ?z_str ?z_tuple ?z_zip
    (case g_Never => k_is)
    (case g_Most => k_is)
    (case g_Least => k_is)
    (case g_Person => k_is)
    (case g_House => k_is)
    (case g_RotaError => k_is)
    (case g_NoName => k_is)
    (case g_NoDay => k_is)
    (case g_Faulty => k_is)
    (case g_NoHouse => k_is)
    (case g_NoRow => k_is)
    (case g_NoRule => k_is)
    (case g_TooWide => k_is)
    (case a1 => k_is)
    (case i1 => k_is)
    (case l1 => k_is)
    (case c1 => k_is)
    (case k1 => k_is)
    (case a2 => k_is)
    (case i2 => k_is)
    (case l2 => k_is)
    (case c2 => k_is)
    (case k2 => k_is)
    (case a3 => k_is)
    (case i3 => k_is)
    (case l3 => k_is)
    (case c3 => k_is)
    (case k3 => k_is)
    (case a4 => k_is)
    (case i4 => k_is)
    (case l4 => k_is)
    (case c4 => k_is)
    (case k4 => k_is)
    (case a5 => k_is)
    (case i5 => k_is)
    (case l5 => k_is)
    (case c5 => k_is)
    (case k5 => k_is)
    (case a6 => k_is)
    (case i6 => k_is)
    (case l6 => k_is)
    (case c6 => k_is)
    (case k6 => k_is)
    (case a7 => k_is)
    (case i7 => k_is)
    (case l7 => k_is)
    (case c7 => k_is)
    (case k7 => k_is)
    (case a8 => k_is)
    (case i8 => k_is)
    (case l8 => k_is)
    (case c8 => k_is)
    (case k8 => k_is)
    (case a9 => k_is)
    (case l9 => k_is)
    (case c9 => k_is)
    (case k9 => k_is)
    (case a10 => k_is)
    (case l10 => k_is)
    (case c10 => k_is)
    (case k10 => k_is)
    (case a11 => k_is)
    (case l11 => k_is)
    (case c11 => k_is)
    (case k11 => k_is)
    (case a12 => k_is)
    (case l12 => k_is)
    (case c12 => k_is)
    (case k12 => k_is)
    (case a13 => k_is)
    (case i13 => k_is)
    (case l13 => k_is)
    (case c13 => k_is)
    (case k13 => k_is)
    (case a14 => k_is)
    (case i14 => k_is)
    (case l14 => k_is)
    (case c14 => k_is)
    (case k14 => k_is)
    (case a15 => k_is)
    (case i15 => k_is)
    (case l15 => k_is)
    (case c15 => k_is)
    (case k15 => k_is)
    (case a16 => k_is)
    (case i16 => k_is)
    (case l16 => k_is)
    (case c16 => k_is)
    (case k16 => k_is)
    (case a17 => k_is)
    (case i17 => k_is)
    (case l17 => k_is)
    (case c17 => k_is)
    (case k17 => k_is)
    (case a18 => k_is)
    (case i18 => k_is)
    (case l18 => k_is)
    (case c18 => k_is)
    (case k18 => k_is)
    (case a19 => k_is)
    (case i19 => k_is)
    (case l19 => k_is)
    (case c19 => k_is)
    (case k19 => k_is)
    (case a20 => k_is)
    (case l20 => k_is)
    (case c20 => k_is)
    (case k20 => k_is)
    (case a21 => k_is)
    (case l21 => k_is)
    (case c21 => k_is)
    (case k21 => k_is)
    (case a22 => k_is)
    (case l22 => k_is)
    (case c22 => k_is)
    (case k22 => k_is)
    (case a23 => k_is)
    (case l23 => k_is)
    (case c23 => k_is)
    (case k23 => k_is)
    (case pg_Never => k_is)
    (case hd_Never => k_is)
    (case po_Never => k_is)
    (case sa_Never => k_is)
    (case mk_Never => k_is)
    (case kc_Never => k_is)
    (case pg_Most => k_is)
    (case hd_Most => k_is)
    (case po_Most => k_is)
    (case sa_Most => k_is)
    (case mk_Most => k_is)
    (case kc_Most => k_is)
    (case pg_Least => k_is)
    (case hd_Least => k_is)
    (case po_Least => k_is)
    (case sa_Least => k_is)
    (case mk_Least => k_is)
    (case kc_Least => k_is)
    (case pg_Person => k_is)
    (case hd_Person => k_is)
    (case po_Person => k_is)
    (case sa_Person => k_is)
    (case mk_Person => k_is)
    (case kc_Person => k_is)
    (case pg_House => k_is)
    (case hd_House => k_is)
    (case po_House => k_is)
    (case sa_House => k_is)
    (case mk_House => k_is)
    (case kc_House => k_is)
    (case xc_NoName => k_exc)
    (case xa_NoName => k_is)
    (case xb_NoName => k_is)
    (case xd_NoName => k_is)
    (case xo_NoName => k_is)
    (case xe_NoName => k_is)
    (case xm_NoName_RotaError => kts_exm)
    (case xk_NoName_ValueError => kit_is)
    (case xk_NoName_NoName => kit_is)
    (case xt_NoName_0 => kit_is)
    (case n_Never_word => k_is)
    (case n_Most_many => k_is)
    (case n_Most_marks => k_is)
    (case n_Most_days => k_is)
    (case n_Least_many => k_is)
    (case n_Least_marks => k_is)
    (case n_Least_days => k_is)
    (case n_Person_name => k_is)
    (case n_Person_skills => k_is)
    (case n_Person_most => k_is)
    (case n_Person_carried => k_is)
    (case n_Person_past => k_is)
    (case n_House_days => k_is)
    (case n_House_kinds => k_is)
    (case n_House_needs => k_is)
    (case n_House_persons => k_is)
    (case n_House_leave => k_is)
    (case n_House_wishes => k_is)
    (case n_House_rules => k_is)
    (case n_House_pairs => k_is)
    (case z_ValueError => k_is)
    (case z_bool => k_is)
    (case z_enumerate => k_is)
    (case z_int => k_is)
    (case z_isinstance => k_is)
    (case z_len => k_is)
    (case z_list => k_is)
    (case z_max => k_is)
    (case z_range => k_is)
    (case z_str => k_is)
    (case z_tuple => k_is)
    (case z_zip => k_is)
#print axioms PySem.Challenge.cw_rotafair_k22_who_is_bound_holds
