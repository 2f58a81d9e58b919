import PyProof.Rows.All
import Wide.All
import OpenK.AllK
import Wide.FinOn
import Lean
import PyProof.EqAt
import PyProof.EqKinds
import PyProof.TupleCall
import PySem.Challenge.RW_rotafair_k33_faults_of_marks

set_option Elab.async false
set_option linter.all false
set_option maxRecDepth 100000
/-! THE HAND LAYER, for ints, bools, texts, own classes, LISTS and tuples (index, slices, in, append, pop ..), calls, loops. Paste it whole ahead of your own text; what your proof does not reach may be deleted. -/
namespace L2
open PySem PySem.Spec PyProof.Rows

/-- a key: an int or a str -/
abbrev Key := Sum Int Str
def keyIs : Key → Value → Bool
  | .inl k, v => Value.isInt k v
  | .inr x, v => Value.isStrOf x v
def keyH (w : World) : Key → Int
  | .inl k => hashInt k
  | .inr x => hashStr w x
theorem keyIs_shape : ∀ {k : Key} {v : Value}, keyIs k v = true → (∃ i t, k = Sum.inl i ∧ v = Value.int i t) ∨ (∃ x t, k = Sum.inr x ∧ v = Value.str x t)
  | .inl i, v, h => by
    obtain ⟨t, e⟩ := Value.isInt_shape (k := i) (v := v) h
    exact .inl ⟨i, t, rfl, e⟩
  | .inr x, v, h => by
    obtain ⟨t, e⟩ := Value.isStrOf_shape (x := x) (v := v) h
    exact .inr ⟨x, t, rfl, e⟩
theorem key_ll (a b : Int) : decide ((Sum.inl a : Key) = Sum.inl b) = (a == b) := by
  by_cases e : a = b
  · subst e; simp
  · have h : ¬ (Sum.inl a : Key) = Sum.inl b := fun q => e (Sum.inl.inj q)
    rw [decide_eq_false h]
    exact (beq_eq_false_iff_ne.mpr e).symm
theorem key_rr (a b : Str) : decide ((Sum.inr a : Key) = Sum.inr b) = decide (a = b) := by
  by_cases e : a = b
  · subst e; simp
  · have h : ¬ (Sum.inr a : Key) = Sum.inr b := fun q => e (Sum.inr.inj q)
    rw [decide_eq_false h, decide_eq_false e]
theorem key_lr (a : Int) (b : Str) : decide ((Sum.inl a : Key) = Sum.inr b) = false := decide_eq_false (fun q => nomatch q)
theorem key_rl (a : Str) (b : Int) : decide ((Sum.inr a : Key) = Sum.inl b) = false := decide_eq_false (fun q => nomatch q)

def mixKind (prog : Program) (w : World) : PySem.KeyKind prog w Key where
  is := keyIs
  hash := keyH w
  inj := fun v a b ha hb => by
    rcases keyIs_shape ha with ⟨i, t, rfl, rfl⟩ | ⟨x, t, rfl, rfl⟩
    · rcases keyIs_shape hb with ⟨j, u, rfl, e⟩ | ⟨y, u, rfl, e⟩
      · injection e with e1 _; rw [e1]
      · exact nomatch e
    · rcases keyIs_shape hb with ⟨j, u, rfl, e⟩ | ⟨y, u, rfl, e⟩
      · exact nomatch e
      · injection e with e1 _; rw [e1]
  byValue := fun k v h => by
    rcases keyIs_shape h with ⟨i, t, rfl, rfl⟩ | ⟨x, t, rfl, rfl⟩ <;> rfl
  pyHash := fun hv h => by
    rcases keyIs_shape hv with ⟨i, t, rfl, rfl⟩ | ⟨x, t, rfl, rfl⟩
    · exact wpAny_pyHash_int h
    · exact wpAny_pyHash_str h
  eqBool := fun hu hv h => by
    rcases keyIs_shape hu with ⟨i, t, rfl, rfl⟩ | ⟨x, t, rfl, rfl⟩
    · rcases keyIs_shape hv with ⟨j, u, rfl, rfl⟩ | ⟨y, u, rfl, rfl⟩
      · rw [key_ll] at h; exact wpAny_eqBool_int h
      · rw [key_lr] at h; exact SeqAt.EqAt.int_str i t y u _ _ _ _ h
    · rcases keyIs_shape hv with ⟨j, u, rfl, rfl⟩ | ⟨y, u, rfl, rfl⟩
      · rw [key_rl] at h; exact SeqAt.EqAt.str_int x t j u _ _ _ _ h
      · rw [key_rr] at h; exact wpAny_eqBool_str h
  «strs» := fun k x t v h => by
    rcases keyIs_shape h with ⟨i, u, rfl, e⟩ | ⟨y, u, rfl, e⟩
    · exact nomatch e
    · injection e with e1 _
      subst e1
      cases v <;> rfl

end L2

namespace L2
open PySem PySem.Spec PyProof.Rows

/-- a value, without the heap -/
inductive V where
  | non | bl (b : Bool) | int (i : Int) | str (x : Str) | byt (b : Array UInt8) | flt (b : UInt64) | ref (a : Addr) | ty (n : String)
  deriving DecidableEq

def RelV : V → Value → Prop
  | .non, u => u = Value.none
  | .bl b, u => u = Value.bool b
  | .int i, u => ∃ t, u = Value.int i t
  | .str x, u => ∃ t, u = Value.str x t
  | .byt b, u => ∃ t, u = Value.bytes b t
  | .flt b, u => ∃ t, u = Value.float b t
  | .ref a, u => u = Value.ref a
  | .ty n, u => u = Value.type n

abbrev Vals : List V → List Value → Prop := Paired RelV
theorem Vals.length {xs : List V} {us : List Value} (r : Vals xs us) : xs.length = us.length := Paired.length r
theorem Vals.get : ∀ {xs : List V} {us : List Value} {i : Nat} {x : V}, Vals xs us → xs[i]? = some x → ∃ u, us[i]? = some u ∧ RelV x u
  | _, _, _, _, .nil, e => by simp at e
  | _, _, 0, _, .cons r _, e => by simp at e; subst e; exact ⟨_, rfl, r⟩
  | _, _, i + 1, x, .cons _ t, e => by
    obtain ⟨u, h1, h2⟩ := Vals.get (i := i) (x := x) t (by simpa using e)
    exact ⟨u, by simpa using h1, h2⟩
theorem Vals.append : ∀ {xs ys : List V} {us ws : List Value}, Vals xs us → Vals ys ws → Vals (xs ++ ys) (us ++ ws)
  | _, _, _, _, .nil, s => s
  | _, _, _, _, .cons r t, s => .cons r (Vals.append t s)
theorem Vals.take : ∀ {xs : List V} {us : List Value} (n : Nat), Vals xs us → Vals (xs.take n) (us.take n)
  | _, _, 0, _ => .nil
  | _, _, _ + 1, .nil => .nil
  | _, _, n + 1, .cons r t => .cons r (Vals.take n t)
theorem Vals.drop : ∀ {xs : List V} {us : List Value} (n : Nat), Vals xs us → Vals (xs.drop n) (us.drop n)
  | _, _, 0, r => r
  | _, _, _ + 1, .nil => .nil
  | _, _, n + 1, .cons _ t => Vals.drop n t
def RelO : Option V → Option Value → Prop
  | some v, some u => RelV v u
  | none, none => True
  | _, _ => False
def KV {κ : Type} : List (κ × V) → List (κ × Value) → Prop := Paired fun (p : κ × V) (q : κ × Value) => p.1 = q.1 ∧ RelV p.2 q.2

/-- a key of a dict (00_mix): an int or a text -/
def kV : Key → V
  | .inl i => .int i
  | .inr x => .str x

/-- what stands at a tracked address -/
inductive HO where
  /-- a list -/
  | lst (xs : List V)
  /-- a tuple (never changes) -/
  | tup (xs : List V)
  /-- a dict whose keys are ints and texts; one whose keys are tuples of ints and texts (the empty one is both) -/
  | dK (kvs : List (Key × V)) | dT (kvs : List (List Key × V))
  /-- a set of ints: its members, its size -/
  | set (S : Int → Bool) (n : Nat)
  /-- an instance of the class at C, its dict at dx, its attributes -/
  | ins (C dx : Addr) (fs : List (Str × V))
  /-- the dict of the instance at x -/
  | own (x : Addr)
  /-- the dict of an exception -/
  | xd (fs : List (Str × V))
  /-- a bound method, f of x -/
  | met (f x : Addr)
  /-- a range object lo, lo + 1, .. below hi -/
  | rng (lo hi : Int)
  /-- a thing that is known to the object (the script; a dict while a loop walks it): read, never written while it is so -/
  | frz (o : Obj) (u : HO)
  /-- a code object's table -/
  | tbl (ps : Array Value)
  /-- any other thing, by what is true of its one object (a def of one's own: SetO a S n := HO.ext fun h => ..) -/
  | ext (φ : Heap → Prop)

abbrev Hp := Addr → Option HO
def upd (H : Hp) (a : Addr) (o : HO) : Hp := fun b => if b = a then some o else H b
theorem upd_same {H : Hp} {a : Addr} {o : HO} : upd H a o a = some o := by unfold upd; rw [if_pos rfl]
theorem upd_ne {H : Hp} {a b : Addr} {o : HO} (h : b ≠ a) : upd H a o b = H b := by unfold upd; rw [if_neg h]
/-- two objects of different content stand apart -/
theorem ne_of {H : Hp} {a b : Addr} {o u : HO} (h : H a = some o) (h' : H b = some u) (d : o ≠ u) : a ≠ b := by
  intro e; subst e; rw [h] at h'; exact d (Option.some.inj h')
theorem ne_of_none {H : Hp} {a b : Addr} {o : HO} (h : H a = some o) (h' : H b = none) : a ≠ b := by
  intro e; subst e; rw [h] at h'; cases h'

section
variable (P : Program) (w : World)
def ObjOk (H : Hp) (h : Heap) (a : Addr) : HO → Prop
  | .lst xs => xs.length ≤ sizeLine ∧ ∃ (its : List Value) (n : Nat), Vals xs its ∧ h.get? a = some { cls := .type "list", data := .seq its.toArray n }
  | .tup xs => xs.length ≤ sizeLine ∧ ∃ its : List Value, Vals xs its ∧ IsTup h a its.toArray
  | .dK kvs => kvs.length ≤ sizeLine ∧ (a == sysModules) = false ∧ ∃ vs, KV kvs vs ∧ h.DictOf (mixKind P w) a vs
  | .dT kvs => kvs.length ≤ sizeLine ∧ (a == sysModules) = false ∧ ∃ xs : List (List Key × Addr × Value),
      Paired (fun (p : List Key × V) (q : List Key × Addr × Value) => p.1 = q.1 ∧ H q.2.1 = some (.tup (p.1.map kV)) ∧ RelV p.2 q.2.2) kvs xs ∧
      ∃ o es ep, h.get? a = some o ∧ o.ExactDict ∧ o.data = .dict es ep ∧ es.toList = xs.map (entryOfKey (tupleKind (mixKind P w))) ∧ (xs.map (·.1)).Nodup
  | .set S n => h.SetOf (intKind P w) a S n
  | .ins C dx fs => H dx = some (.own a) ∧ fs.length ≤ 1000 ∧ dx ≠ a ∧ h.get? a = some (PySem.W.instObj C dx) ∧
      ∃ mA, h.Ns1 dx mA ∧ (∀ f, RelO (fs.lookup f) (mA f)) ∧ PySem.Within mA (fs.map (·.1))
  | .own _ => ∃ o, h.get? a = some o
  | .xd fs => ∃ mA, h.Ns1 a mA ∧ ∀ f, RelO (fs.lookup f) (mA f)
  | .rng lo hi => ∃ t u v, h.get? a = some { cls := .type "range", data := .fields #[.int lo t, .int hi u, .int 1 v] }
  | .frz o u => h.get? a = some o ∧ ObjOk H h a u
  | .tbl ps => h.get? a = some { cls := .none, data := .fields ps }
  | .met f x => h.get? a = some (PySem.W.methodObj (.ref f) (.ref x))
  | .ext φ => φ h ∧ (∃ o, h.get? a = some o) ∧ ∀ h1 h2 : Heap, φ h1 → (∀ o, h1.get? a = some o → h2.get? a = some o) → φ h2
/-- the abstract heap is held -/
def HOk (H : Hp) (h : Heap) : Prop := ∀ a o, H a = some o → ObjOk P w H h a o
end

section
variable {P : Program} {w : World} {H H' : Hp} {h h' : Heap} {a : Addr} {o : HO}
theorem ObjOk.lt (x : ObjOk P w H h a o) : a < h.objs.size := by
  cases o with
  | lst xs => obtain ⟨_, _, _, _, e⟩ := x; exact Heap.lt_size e
  | tup xs => obtain ⟨_, _, _, p⟩ := x; exact p.lt
  | dK kvs => obtain ⟨_, _, _, _, o, _, _, e, _⟩ := x; exact Heap.lt_size e
  | dT kvs => obtain ⟨_, _, _, _, o, _, _, e, _⟩ := x; exact Heap.lt_size e
  | set S n => obtain ⟨o, _, _, _, e, _⟩ := x; exact Heap.lt_size e
  | ins C dx fs => obtain ⟨_, _, _, e, _⟩ := x; exact Heap.lt_size e
  | own y => obtain ⟨_, e⟩ := x; exact Heap.lt_size e
  | xd fs => obtain ⟨_, ⟨_, _, _, e, _⟩, _⟩ := x; exact Heap.lt_size e
  | rng lo hi => obtain ⟨_, _, _, e⟩ := x; exact Heap.lt_size e
  | frz ob u => obtain ⟨e, _⟩ := x; exact Heap.lt_size e
  | tbl ps => exact Heap.lt_size (show h.get? a = some _ from x)
  | met f y => exact Heap.lt_size (show h.get? a = some _ from x)
  | ext φ => obtain ⟨_, ⟨_, e⟩, _⟩ := x; exact Heap.lt_size e
theorem Paired.mapP {α β : Type} {F G : α → β → Prop} : ∀ {l₁ : List α} {l₂ : List β}, Paired F l₁ l₂ → (∀ a b, F a b → G a b) → Paired G l₁ l₂
  | _, _, .nil, _ => .nil
  | _, _, .cons r t, f => .cons (f _ _ r) (Paired.mapP t f)
/-- what an object's description leans on: its own object, its own dict, the tuples -/
theorem ObjOk.stay (x : ObjOk P w H h a o) (k : ∀ b u, (b = a ∨ H b = some (.own a)) → h.get? b = some u → h'.get? b = some u)
    (ho : ∀ b, H b = some (.own a) → H' b = some (.own a)) (ht : ∀ b xs, H b = some (.tup xs) → H' b = some (.tup xs)) : ObjOk P w H' h' a o := by
  induction o with
  | lst xs => obtain ⟨z, its, n, r, e⟩ := x; exact ⟨z, its, n, r, k _ _ (.inl rfl) e⟩
  | tup xs => obtain ⟨z, its, r, ob, e, c⟩ := x; exact ⟨z, its, r, ob, k _ _ (.inl rfl) e, c⟩
  | dK kvs => obtain ⟨z, y, vs, r, ob, es, ep, e, c⟩ := x; exact ⟨z, y, vs, r, ob, es, ep, k _ _ (.inl rfl) e, c⟩
  | dT kvs =>
    obtain ⟨z, y, xs, r, ob, es, ep, e, c⟩ := x
    exact ⟨z, y, xs, Paired.mapP r fun p q z => ⟨z.1, ht _ _ z.2.1, z.2.2⟩, ob, es, ep, k _ _ (.inl rfl) e, c⟩
  | set S n => obtain ⟨ob, es, ep, t, e, c⟩ := x; exact ⟨ob, es, ep, t, k _ _ (.inl rfl) e, c⟩
  | ins C dx fs =>
    obtain ⟨d, z, ne, e, mA, ⟨od, es, ep, e2, c⟩, r⟩ := x
    exact ⟨ho _ d, z, ne, k _ _ (.inl rfl) e, mA, ⟨od, es, ep, k _ _ (.inr d) e2, c⟩, r⟩
  | own y => obtain ⟨ob, e⟩ := x; exact ⟨ob, k _ _ (.inl rfl) e⟩
  | xd fs => obtain ⟨mA, ⟨od, es, ep, e, c⟩, r⟩ := x; exact ⟨mA, ⟨od, es, ep, k _ _ (.inl rfl) e, c⟩, r⟩
  | rng lo hi => obtain ⟨t, u, v, e⟩ := x; exact ⟨t, u, v, k _ _ (.inl rfl) e⟩
  | frz ob u ih => obtain ⟨e, q⟩ := x; exact ⟨k _ _ (.inl rfl) e, ih q⟩
  | tbl ps =>
    have e : h.get? a = some { cls := .none, data := .fields ps } := x
    show h'.get? a = some { cls := .none, data := .fields ps }
    exact k a _ (.inl rfl) e
  | met f y =>
    have e : h.get? a = some (PySem.W.methodObj (.ref f) (.ref y)) := x
    show h'.get? a = some (PySem.W.methodObj (.ref f) (.ref y))
    exact k a _ (.inl rfl) e
  | ext φ => obtain ⟨p, ⟨o, e⟩, st⟩ := x; exact ⟨st _ _ p fun o q => k _ _ (.inl rfl) q, ⟨o, k _ _ (.inl rfl) e⟩, st⟩
theorem HOk.lt (x : HOk P w H h) (e : H a = some o) : a < h.objs.size := (x a o e).lt
theorem HOk.fresh (x : HOk P w H h) (e : h.objs.size ≤ a) : H a = none := by
  cases q : H a with
  | none => rfl
  | some u => exact absurd (Nat.lt_of_lt_of_le (x.lt q) e) (Nat.lt_irrefl _)
/-- every object of the heap is kept -/
theorem HOk.kept (x : HOk P w H h) (k : ∀ b u, h.get? b = some u → h'.get? b = some u) : HOk P w H h' := fun a o e =>
  (x a o e).stay (fun b u _ q => k b u q) (fun _ q => q) fun _ _ q => q
/-- a new object is laid and tracked -/
theorem HOk.laid (x : HOk P w H h) (k : ∀ b u, h.get? b = some u → h'.get? b = some u) (hp : h.objs.size ≤ a) (new : ObjOk P w (upd H a o) h' a o) : HOk P w (upd H a o) h' := fun b u e => by
  have hn := x.fresh hp
  by_cases hb : b = a
  · subst hb; rw [upd_same] at e; cases e; exact new
  · rw [upd_ne hb] at e
    exact (x b u e).stay (fun c v _ q => k c v q) (fun c q => by rw [upd_ne (ne_of_none q hn)]; exact q) fun c xs q => by rw [upd_ne (ne_of_none q hn)]; exact q
end

/-- what may be read as u: it is u, or a known u -/
def Rd (H : Hp) (a : Addr) (u : HO) : Prop := H a = some u ∨ ∃ o, H a = some (.frz o u)
theorem Rd.ok {P : Program} {w : World} {H : Hp} {h : Heap} {a : Addr} {u : HO} (r : Rd H a u) (x : HOk P w H h) : ObjOk P w H h a u := by
  rcases r with r | ⟨o, r⟩
  · exact x a u r
  · obtain ⟨_, q⟩ := x a _ r
    exact q
/-- what may be written -/
def Mut : Option HO → Prop
  | some (.lst _) => True
  | some (.dK _) => True
  | some (.dT _) => True
  | some (.set _ _) => True
  | some (.ins _ _ _) => True
  | some (.ext _) => True
  | _ => False
section
variable {P : Program} {w : World} {H : Hp} {h h' : Heap} {x e : Addr} {o' : HO}
/-- the object at e is changed: x itself, or the dict of the instance x -/
theorem HOk.write (ok : HOk P w H h) (mu : Mut (H x)) (he : e = x ∨ H e = some (.own x)) (k : ∀ b u, b ≠ e → h.get? b = some u → h'.get? b = some u) (heo : ∃ u, h'.get? e = some u)
    (new : ObjOk P w (upd H x o') h' x o') : HOk P w (upd H x o') h' := fun b u q => by
  have nown : ∀ c y, H c = some (.own y) → c ≠ x := fun c y r z => by subst z; rw [r] at mu; exact mu
  have ntup : ∀ c xs, H c = some (.tup xs) → c ≠ x := fun c xs r z => by subst z; rw [r] at mu; exact mu
  by_cases hb : b = x
  · subst hb; rw [upd_same] at q; cases q; exact new
  · rw [upd_ne hb] at q
    by_cases hbe : b = e
    · have q' : H b = some (.own x) := by
        rcases he with z | z
        · exact absurd (hbe.trans z) hb
        · rw [hbe]; exact z
      rw [q] at q'; cases q'
      obtain ⟨v, hv⟩ := heo
      exact ⟨v, by rw [hbe]; exact hv⟩
    · refine (ok b u q).stay (fun c v hc r => k c v ?_ r) (fun c r => by rw [upd_ne (nown c b r)]; exact r) fun c xs r => by rw [upd_ne (ntup c xs r)]; exact r
      rcases hc with rfl | hc
      · exact hbe
      · rintro rfl
        rcases he with z | z
        · exact nown c b hc z
        · rw [hc] at z; cases z; exact hb rfl
end

/-! ### kept unless tracked; of the frames at fs (the callers') the slots may change (an exception that passes writes there); of the records at ex (iterators) nothing is said -/
structure Un (fs ex : List Addr) (H H' : Hp) (h h' : Heap) : Prop where
  keep : ∀ b o, h.get? b = some o → H b = none → b ∉ fs → b ∉ ex → h'.get? b = some o
  slot : ∀ b o, h.get? b = some o → H b = none → b ∈ fs → b ∉ ex → ∃ sl, h'.get? b = some { o with slots := sl }
  free : ∀ b o, h.get? b = some o → H b = none → b ∉ ex → H' b = none
  there : ∀ b o, h.get? b = some o → b ∉ ex → ∃ o', h'.get? b = some o'
  tups : ∀ b xs, H b = some (.tup xs) → H' b = some (.tup xs)
  frzs : ∀ b o u, H b = some (.frz o u) → H' b = some (.frz o u)
  tbls : ∀ b ps, H b = some (.tbl ps) → ∃ more, H' b = some (.tbl (ps ++ more))
section
variable {fs fs' ex ex' : List Addr} {H H1 H2 : Hp} {h h1 h2 h' : Heap} {a x e : Addr} {o : HO}
theorem Un.any (u : Un fs ex H H1 h h1) {b : Addr} {ob : Obj} (q : h.get? b = some ob) (n : H b = none) (hx : b ∉ ex) : ∃ sl, h1.get? b = some { ob with slots := sl } := by
  by_cases hb : b ∈ fs
  · exact u.slot b ob q n hb hx
  · exact ⟨ob.slots, u.keep b ob q n hb hx⟩
theorem Un.kept (k : ∀ b u, h.get? b = some u → h'.get? b = some u) : Un fs ex H H h h' :=
  ⟨fun b ob q _ _ _ => k b ob q, fun b ob q _ _ _ => ⟨ob.slots, k b ob q⟩, fun _ _ _ n _ => n, fun b ob q _ => ⟨ob, k b ob q⟩, fun _ _ q => q, fun _ _ _ q => q, fun _ ps q => ⟨#[], by rw [q]; simp⟩⟩
theorem Un.refl : Un fs ex H H h h := Un.kept fun _ _ q => q
theorem Un.laid (k : ∀ b u, h.get? b = some u → h'.get? b = some u) (hp : h.objs.size ≤ a) (hn : H a = none) : Un fs ex H (upd H a o) h h' where
  keep := fun b u q _ _ _ => k b u q
  slot := fun b u q _ _ _ => ⟨u.slots, k b u q⟩
  free := fun b u q n _ => by rw [upd_ne (Nat.ne_of_lt (Nat.lt_of_lt_of_le (Heap.lt_size q) hp))]; exact n
  there := fun b u q _ => ⟨u, k b u q⟩
  tups := fun b xs q => by rw [upd_ne (ne_of_none q hn)]; exact q
  frzs := fun b u xs q => by rw [upd_ne (ne_of_none q hn)]; exact q
  tbls := fun b ps q => ⟨#[], by rw [upd_ne (ne_of_none q hn), q]; simp⟩
theorem Un.write (mu : Mut (H x)) (he : e = x ∨ H e = some (.own x)) (k : ∀ b u, b ≠ e → h.get? b = some u → h'.get? b = some u) (heo : ∃ u, h'.get? e = some u) : Un fs ex H (upd H x o) h h' := by
  have hx : ∀ b, H b = none → b ≠ x := fun b n z => by subst z; rw [n] at mu; exact mu
  have hb : ∀ b, H b = none → b ≠ e := fun b n z => by
    subst z
    rcases he with r | r
    · exact hx b n r
    · rw [n] at r; cases r
  have hm : ∀ b u, H b = some u → ¬ Mut (some u) → b ≠ x := fun b u q nm z => by subst z; rw [q] at mu; exact nm mu
  refine ⟨fun b u q n _ _ => k b u (hb b n) q, fun b u q n _ _ => ⟨u.slots, k b u (hb b n) q⟩, fun b u q n _ => by rw [upd_ne (hx b n)]; exact n, fun b u q _ => ?_,
    fun b xs q => by rw [upd_ne (hm b _ q fun z => z)]; exact q, fun b u xs q => by rw [upd_ne (hm b _ q fun z => z)]; exact q, fun b ps q => ⟨#[], by rw [upd_ne (hm b _ q fun z => z), q]; simp⟩⟩
  by_cases hbe : b = e
  · subst hbe; exact heo
  · exact ⟨u, k b u hbe q⟩
end

/-! ### the heap without what is tracked -/
def trk (h : Heap) (H : Hp) : List Addr := (List.range h.objs.size).filter fun a => (H a).isSome
def hidT (h : Heap) (H : Hp) : Heap := PySem.W.hideAll h (trk h H)
theorem hidT_size (h : Heap) (H : Hp) : (hidT h H).objs.size = h.objs.size := PySem.W.hideAll_size _ _
theorem hidT_get {h : Heap} {H : Hp} {b : Addr} {o : Obj} (e : h.get? b = some o) (n : H b = none) : (hidT h H).get? b = some o :=
  PySem.W.hideAll_get _ e fun hm => by
    have q : (H b).isSome = true := (List.mem_filter.mp hm).2
    rw [n] at q; simp at q
theorem of_hidT {h : Heap} {H : Hp} {b : Addr} {o : Obj} (e : (hidT h H).get? b = some o) : h.get? b = some o ∧ H b = none := by
  have e' : h.get? b = some o := PySem.W.of_hideAll (trk h H) e
  refine ⟨e', ?_⟩
  cases q : H b with
  | none => rfl
  | some x =>
    have hm : b ∈ trk h H := List.mem_filter.mpr ⟨List.mem_range.mpr (Heap.lt_size e'), by simp [q]⟩
    have z : (hidT h H).get? b = none := PySem.W.hideAll_none (trk h H) hm
    rw [z] at e; cases e

/-! ### OpenK's ledger, filled with every new object but one -/
end L2

namespace L2
open PySem PySem.Spec PyProof.Rows

/-- the module's facts, over the base: the heap at the law's entry without what is tracked there -/
structure Mod (K : PySem.W.Frag) (mg : Str → Option Value) (base : Heap) : Prop where
  kin : K.In base
  glob : base.Ns mainGlobals mg
  blt : ∃ mb, base.Ns builtinsNs mb ∧ ∀ x : Str, x ≠ "__name__" → mb x = bootBuiltins x
  nolimit : base.NoLimit

/-- the context: a def's body (or a comprehension's block) running. base: fixed through the whole law; s₀, H₀: the entry; outer: the frames whose slots others may change (a def's callers); stack: all frames that run;
   ex: iterators that were made ahead of the entry and are walked here (a comprehension's); fn: the names whose cells were made at the entry (a def: all; a comprehension's block: its own); calm: not within an except suite; pn: pins that every state bears; xe: what is wanted of an exception that leaves the code -/
structure Cx where
  prog : Program
  w : World
  K : PySem.W.Frag
  mg : Str → Option Value
  base : Heap
  A : Around
  N : List Str
  s₀ : Shared
  H₀ : Hp
  env : Env
  outer : List Env
  stack : List Env
  ex : List Addr
  fn : Str → Bool
  calm : Bool
  pn : List (Addr × Obj)
  xe : Value → Shared → Prop
/-- the callers' frames -/
def frs (l : List Env) : List Addr := l.filterMap (·.frame)
abbrev Cx.fs (X : Cx) : List Addr := frs X.outer

def Vis (sc : Scope) (x : Str) : Prop := sc.names.lookup x = some .local ∨ sc.names.lookup x = some .cell ∨ sc.names.lookup x = some .free
def Loc (sc : Scope) (x : Str) : Prop := sc.names.lookup x = some .local ∨ sc.names.lookup x = some .cell
def Look (env : Env) (h : Heap) (m : Str → Option Value) (x : Str) (u : Value) : Prop :=
  (env.kindOf x = some .local ∧ m x = some u) ∨ ((env.kindOf x = some .cell ∨ env.kindOf x = some .free) ∧ ∃ c, env.cells.lookup x = some c ∧ h.IsCell c (some u))

structure Cx.Ok (X : Cx) : Prop where
  mod : Mod X.K X.mg X.base
  kind : X.env.scope.kind = .function
  glob : X.env.globals = mainGlobals
  blt : X.env.builtins = builtinsNs
  above : X.s₀.heap.objs.size ≤ X.env.locals
  inj : ∀ x y c, X.env.cells.lookup x = some c → X.env.cells.lookup y = some c → x = y
  has : ∀ x, (X.env.kindOf x = some .cell ∨ X.env.kindOf x = some .free) → ∃ c, X.env.cells.lookup x = some c
  cab : ∀ x c, X.fn x = true → X.env.cells.lookup x = some c → X.s₀.heap.objs.size ≤ c
  hd : X.calm = true → X.A.handled = none
  frames : X.A.frames = some X.stack
  stk : X.stack = X.outer ∨ (X.stack = X.env :: X.outer ∧ X.env.frame = some X.env.locals)
  exf : ∀ b ∈ X.ex, b ≠ X.env.locals ∧ ∀ x c, X.env.cells.lookup x = some c → c ≠ b
  bs : ∀ b o, X.base.get? b = some o → X.s₀.heap.get? b = some o ∧ X.H₀ b = none
  bsz : X.base.objs.size ≤ X.s₀.heap.objs.size
  noex : ∀ b o, X.base.get? b = some o → b ∉ X.ex
  exfs : ∀ b ∈ X.ex, b ∉ X.fs
  funs : X.s₀.heap.FunFrames X.base X.outer
  frf : ∀ b ∈ X.fs, X.H₀ b = none

structure Inv (X : Cx) (pins : List (Addr × Obj)) (σ : List (Option V)) (H : Hp) (s : Shared) : Prop where
  ok : X.Ok
  os : s.os = X.s₀.os
  bare : AllBare s.gens
  base : Un X.fs X.ex X.H₀ H X.s₀.heap s.heap
  loc : ∃ m, s.heap.Ns X.env.locals m ∧ ∀ (i : Nat) (x : Str) (v : V), X.N[i]? = some x → σ[i]? = some (some v) → Vis X.env.scope x → ∃ u, RelV v u ∧ Look X.env s.heap m x u
  cell : ∀ x c, X.env.cells.lookup x = some c → ∃ v, s.heap.IsCell c v
  free : H X.env.locals = none
  freeC : ∀ x c, X.env.cells.lookup x = some c → H c = none
  pin : ∀ p ∈ X.pn ++ pins, s.heap.get? p.1 = some p.2 ∧ H p.1 = none ∧ p.1 ≠ X.env.locals ∧ p.1 ∉ X.fs ∧ ∀ v, p.2.data ≠ .cell v
  hok : HOk X.prog X.w H s.heap
  len : σ.length = X.N.length

section
variable {X : Cx} {pins : List (Addr × Obj)} {σ : List (Option V)} {H H' : Hp} {s : Shared} {h' : Heap}

theorem Cx.Ok.nofr (ok : X.Ok) {b : Addr} {o : Obj} (e : X.base.get? b = some o) : b ∉ X.fs := fun hb => by
  have := (ok.funs.mem hb).1
  rw [e] at this; cases this
theorem Inv.bs (I : Inv X pins σ H s) : ∀ b o, X.base.get? b = some o → s.heap.get? b = some o ∧ H b = none := fun b o e =>
  ⟨I.base.keep b o (I.ok.bs b o e).1 (I.ok.bs b o e).2 (I.ok.nofr e) (I.ok.noex b o e), I.base.free b o (I.ok.bs b o e).1 (I.ok.bs b o e).2 (I.ok.noex b o e)⟩
theorem Inv.bk (I : Inv X pins σ H s) : ∀ b o, X.base.get? b = some o → s.heap.get? b = some o := fun b o e => (I.bs b o e).1
theorem Inv.mod (I : Inv X pins σ H s) : Mod X.K X.mg X.base := I.ok.mod
theorem Inv.kIn (I : Inv X pins σ H s) : X.K.In s.heap := I.ok.mod.kin.keeps I.bk
theorem Inv.lt (I : Inv X pins σ H s) : X.env.locals < s.heap.objs.size := let ⟨_, hn, _⟩ := I.loc; hn.lt
theorem Inv.sz (I : Inv X pins σ H s) : X.s₀.heap.objs.size ≤ s.heap.objs.size := Nat.le_trans I.ok.above (Nat.le_of_lt I.lt)
theorem Inv.nofs (I : Inv X pins σ H s) {a : Addr} (h : s.heap.objs.size ≤ a) : a ∉ X.fs := fun hb => by
  obtain ⟨_, o, ho, _⟩ := I.ok.funs.mem hb
  exact absurd (Nat.lt_of_lt_of_le (Heap.lt_size ho) (Nat.le_trans I.sz h)) (Nat.lt_irrefl _)
theorem Inv.cne (I : Inv X pins σ H s) : ∀ x c, X.env.cells.lookup x = some c → c ≠ X.env.locals := fun x c e z => by
  obtain ⟨v, o, ho, hd⟩ := I.cell x c e
  obtain ⟨m, ⟨o', es, ep, ho', hd', _⟩, _⟩ := I.loc
  rw [z, ho'] at ho; cases ho; rw [hd'] at hd; cases hd
theorem Inv.funs (I : Inv X pins σ H s) : s.heap.FunFrames X.base X.outer := by
  have all : ∀ (l : List Env), (∀ b ∈ frs l, b ∈ X.fs) → X.s₀.heap.FunFrames X.base l → s.heap.FunFrames X.base l := by
    intro l
    induction l with
    | nil => intro _ _; trivial
    | cons env r ih =>
      intro hs hl
      obtain ⟨hk, ⟨L, o, hf, hn, ho, hd⟩, hr⟩ := hl
      have hL : L ∈ X.fs := hs L (by unfold frs; rw [List.filterMap_cons, hf]; exact List.mem_cons_self)
      obtain ⟨sl, e⟩ := I.base.slot L o ho (I.ok.frf L hL) hL fun z => I.ok.exfs L z hL
      exact ⟨hk, ⟨L, _, hf, hn, e, hd⟩, ih (fun b hb => hs b (by unfold frs; rw [List.filterMap_cons, hf]; exact List.mem_cons_of_mem _ hb)) hr⟩
  exact all X.outer (fun _ hb => hb) I.ok.funs

/-- the frames that run, for a call -/
theorem Inv.stack (I : Inv X pins σ H s) : s.heap.FunFrames X.base X.stack := by
  rcases I.ok.stk with e | ⟨e, hf⟩
  · rw [e]; exact I.funs
  · rw [e]
    obtain ⟨m, hn, _⟩ := I.loc
    refine .cons (by rw [I.ok.kind]; decide) hf hn ?_ I.funs
    exact Heap.get?_none_of_le (Nat.le_trans I.ok.bsz I.ok.above)
theorem Inv.stkSub (I : Inv X pins σ H s) : ∀ b ∈ frs X.stack, b ∈ X.env.locals :: X.fs := fun b hb => by
  rcases I.ok.stk with e | ⟨e, hf⟩
  · rw [e] at hb; exact List.mem_cons_of_mem _ hb
  · rw [e] at hb
    unfold frs at hb
    rw [List.filterMap_cons, hf] at hb
    exact hb
theorem Inv.stkFree (I : Inv X pins σ H s) : ∀ b ∈ frs X.stack, H b = none := fun b hb => by
  rcases List.mem_cons.mp (I.stkSub b hb) with e | hb
  · rw [e]; exact I.free
  · obtain ⟨_, o, ho, _⟩ := I.ok.funs.mem hb
    exact I.base.free b o ho (I.ok.frf b hb) fun z => I.ok.exfs b z hb

/-- THE STEP: the untracked objects but the frame and the records at ch are kept (the callers' frames up to slots), the frame's map is kept, the new abstract heap is held -/
theorem Inv.step {g' : Array GenState} {t' : Nat} {d' : Drawn} {ch : List Addr} (I : Inv X pins σ H s)
    (hch : ∀ b ∈ ch, (b ∈ X.ex ∨ X.s₀.heap.objs.size ≤ b) ∧ b ≠ X.env.locals ∧ (∀ x c, X.env.cells.lookup x = some c → c ≠ b) ∧ ∀ p ∈ X.pn ++ pins, p.1 ≠ b)
    (keep : ∀ b o, b ≠ X.env.locals → b ∉ X.fs → b ∉ ch → s.heap.get? b = some o → H b = none → h'.get? b = some o)
    (slot : ∀ b o, b ≠ X.env.locals → b ∈ X.fs → b ∉ ch → s.heap.get? b = some o → H b = none → ∃ sl, h'.get? b = some { o with slots := sl }) (free : ∀ b o, b ∉ ch → s.heap.get? b = some o → H b = none → H' b = none)
    (there : ∀ b o, b ∉ ch → s.heap.get? b = some o → ∃ o', h'.get? b = some o')
    (tups : ∀ b xs, H b = some (.tup xs) → H' b = some (.tup xs)) (frzs : ∀ b o u, H b = some (.frz o u) → H' b = some (.frz o u)) (tbls : ∀ b ps, H b = some (.tbl ps) → ∃ more, H' b = some (.tbl (ps ++ more)))
    (ns : ∀ m, s.heap.Ns X.env.locals m → h'.Ns X.env.locals m) (hok : HOk X.prog X.w H' h') (hg : AllBare g') :
    Inv X pins σ H' { s with heap := h', gens := g', drawn := d', toks := t' } := by
  have neL : ∀ b o, X.s₀.heap.get? b = some o → b ≠ X.env.locals := fun b o e => Nat.ne_of_lt (Nat.lt_of_lt_of_le (Heap.lt_size e) I.ok.above)
  have neC : ∀ b o, X.s₀.heap.get? b = some o → b ∉ X.ex → b ∉ ch := fun b o e hx hb => by
    rcases (hch b hb).1 with z | z
    · exact hx z
    · exact absurd (Nat.lt_of_lt_of_le (Heap.lt_size e) z) (Nat.lt_irrefl _)
  have cellK : ∀ x c, X.env.cells.lookup x = some c → ∀ v, s.heap.IsCell c v → h'.IsCell c v := fun x c e v ⟨o, ho, hd⟩ => by
    have nch : c ∉ ch := fun z => (hch c z).2.2.1 x c e rfl
    by_cases hc : c ∈ X.fs
    · obtain ⟨sl, q⟩ := slot c o (I.cne x c e) hc nch ho (I.freeC x c e)
      exact ⟨_, q, hd⟩
    · exact ⟨o, keep c o (I.cne x c e) hc nch ho (I.freeC x c e), hd⟩
  refine ⟨I.ok, I.os, hg, ⟨fun b o e n hb hx => ?_, fun b o e n hb hx => ?_, fun b o e n hx => ?_, fun b o e hx => ?_, fun b xs e => tups b xs (I.base.tups b xs e), fun b o xs e => frzs b o xs (I.base.frzs b o xs e), fun b ps e => ?_⟩, ?_, fun x c e => ?_, ?_, fun x c e => ?_, fun p hp => ?_, hok, I.len⟩
  · exact keep b o (neL b o e) hb (neC b o e hx) (I.base.keep b o e n hb hx) (I.base.free b o e n hx)
  · obtain ⟨sl, e1⟩ := I.base.slot b o e n hb hx
    obtain ⟨sl', e2⟩ := slot b _ (neL b o e) hb (neC b o e hx) e1 (I.base.free b o e n hx)
    exact ⟨sl', e2⟩
  · obtain ⟨o', e1⟩ := I.base.there b o e hx
    exact free b o' (neC b o e hx) e1 (I.base.free b o e n hx)
  · obtain ⟨o', e1⟩ := I.base.there b o e hx
    exact there b o' (neC b o e hx) e1
  · obtain ⟨m1, e1⟩ := I.base.tbls b ps e
    obtain ⟨m2, e2⟩ := tbls b _ e1
    exact ⟨m1 ++ m2, by rw [e2, Array.append_assoc]⟩
  · obtain ⟨m, hn, hl⟩ := I.loc
    refine ⟨m, ns m hn, fun i x v e1 e2 e3 => ?_⟩
    obtain ⟨u, r, l⟩ := hl i x v e1 e2 e3
    refine ⟨u, r, ?_⟩
    rcases l with l | ⟨k, c, e, z⟩
    · exact .inl l
    · exact .inr ⟨k, c, e, cellK x c e _ z⟩
  · obtain ⟨v, z⟩ := I.cell x c e
    exact ⟨v, cellK x c e v z⟩
  · obtain ⟨m, ⟨o, _, _, ho, _⟩, _⟩ := I.loc
    exact free _ o (fun z => (hch _ z).2.1 rfl) ho I.free
  · obtain ⟨v, o, ho, hd⟩ := I.cell x c e
    exact free c o (fun z => (hch c z).2.2.1 x c e rfl) ho (I.freeC x c e)
  · obtain ⟨e, n, ne, nf, d⟩ := I.pin p hp
    have nch : p.1 ∉ ch := fun z => (hch p.1 z).2.2.2 p hp rfl
    exact ⟨keep p.1 p.2 ne nf nch e n, free p.1 p.2 nch e n, ne, nf, d⟩
/-- .. where the frame's own object is kept too -/
theorem Inv.un {t' : Nat} (I : Inv X pins σ H s) (u : Un X.fs [] H H' s.heap h') (hok : HOk X.prog X.w H' h') : Inv X pins σ H' { s with heap := h', toks := t' } := by
  obtain ⟨m, ⟨o, es, ep, ho, r⟩, _⟩ := id I.loc
  obtain ⟨sl, hL⟩ := u.any ho I.free (by simp)
  exact I.step (g' := s.gens) (d' := s.drawn) (ch := []) (fun _ z => nomatch z) (fun b o _ hb _ e n => u.keep b o e n hb (by simp)) (fun b o _ hb _ e n => u.slot b o e n hb (by simp)) (fun b o _ e n => u.free b o e n (by simp)) (fun b o _ e => u.there b o e (by simp)) u.tups u.frzs u.tbls (fun m' hm => by
    obtain ⟨o', es', ep', ho', r'⟩ := hm
    rw [ho] at ho'; cases ho'
    exact ⟨_, es', ep', hL, r'⟩) hok I.bare
/-- behind a call (or a comprehension's block): the slots of this frame may have changed too, the records at ch may have turned -/
theorem Inv.call {g' : Array GenState} {t' : Nat} {d' : Drawn} {ch : List Addr} (I : Inv X pins σ H s) (u : Un (frs X.stack) ch H H' s.heap h') (hok : HOk X.prog X.w H' h') (hg : AllBare g')
    (hch : ∀ b ∈ ch, (b ∈ X.ex ∨ X.s₀.heap.objs.size ≤ b) ∧ b ≠ X.env.locals ∧ (∀ x c, X.env.cells.lookup x = some c → c ≠ b) ∧ ∀ p ∈ X.pn ++ pins, p.1 ≠ b) :
    Inv X pins σ H' { s with heap := h', gens := g', drawn := d', toks := t' } := by
  obtain ⟨m, ⟨o, es, ep, ho, r⟩, _⟩ := id I.loc
  obtain ⟨sl, hL⟩ := u.any ho I.free fun z => (hch _ z).2.1 rfl
  exact I.step (ch := ch) hch (fun b o hL hb hc e n => u.keep b o e n (fun z => (List.mem_cons.mp (I.stkSub b z)).elim hL hb) hc) (fun b o _ _ hc e n => u.any e n hc) (fun b o hc e n => u.free b o e n hc) (fun b o hc e => u.there b o e hc) u.tups u.frzs u.tbls (fun m' hm => by
    obtain ⟨o', es', ep', ho', r'⟩ := hm
    rw [ho] at ho'; cases ho'
    exact ⟨_, es', ep', hL, r'⟩) hok hg
/-- an untracked record of ours (an iterator) has turned -/
theorem Inv.turned {t' : Nat} {it : Addr} (I : Inv X pins σ H s) (k : ∀ b o, b ≠ it → s.heap.get? b = some o → h'.get? b = some o) (hn : H it = none) (hL : it ≠ X.env.locals)
    (h1 : it ∈ X.ex ∨ X.s₀.heap.objs.size ≤ it) (h2 : ∀ x c, X.env.cells.lookup x = some c → c ≠ it) (h3 : ∀ p ∈ X.pn ++ pins, p.1 ≠ it) : Inv X pins σ H { s with heap := h', toks := t' } := by
  have nit : ∀ b u, H b = some u → b ≠ it := fun b u e z => by rw [z, hn] at e; cases e
  refine I.step (g' := s.gens) (d' := s.drawn) (ch := [it]) (fun b hb => ?_) (fun b o _ _ hc e _ => k b o (fun z => hc (by simp [z])) e) (fun b o _ _ hc e _ => ⟨o.slots, k b o (fun z => hc (by simp [z])) e⟩) (fun _ _ _ _ n => n)
    (fun b o hc e => ⟨o, k b o (fun z => hc (by simp [z])) e⟩) (fun _ _ e => e) (fun _ _ _ e => e) (fun b ps e => ⟨#[], by rw [e]; simp⟩) (fun m hm => ?_) (fun b u e => ?_) I.bare
  · have e : b = it := by simpa using hb
    subst e
    exact ⟨h1, hL, h2, h3⟩
  · obtain ⟨o, es, ep, ho, r⟩ := hm
    exact ⟨o, es, ep, k _ o (Ne.symm hL) ho, r⟩
  · refine (I.hok b u e).stay (fun c v hc q => k c v ?_ q) (fun _ q => q) fun _ _ q => q
    rcases hc with z | z
    · rw [z]; exact nit b u e
    · exact nit c _ z
theorem Inv.tok (I : Inv X pins σ H s) (t : Nat) : Inv X pins σ H { s with toks := t } := I.un (h' := s.heap) (t' := t) Un.refl I.hok
/-- all objects kept -/
theorem Inv.kept {t' : Nat} (I : Inv X pins σ H s) (k : ∀ b u, s.heap.get? b = some u → h'.get? b = some u) : Inv X pins σ H { s with heap := h', toks := t' } := I.un (Un.kept k) (I.hok.kept k)
/-- a new object laid and tracked -/
theorem Inv.laid {a : Addr} {o : HO} {t' : Nat} (I : Inv X pins σ H s) (k : ∀ b u, s.heap.get? b = some u → h'.get? b = some u) (hp : s.heap.objs.size ≤ a) (new : ObjOk X.prog X.w (upd H a o) h' a o) :
    Inv X pins σ (upd H a o) { s with heap := h', toks := t' } := I.un (Un.laid k hp (I.hok.fresh hp)) (I.hok.laid k hp new)
/-- an object written -/
theorem Inv.write {x e : Addr} {o : HO} {t' : Nat} (I : Inv X pins σ H s) (mu : Mut (H x)) (he : e = x ∨ H e = some (.own x)) (k : ∀ b u, b ≠ e → s.heap.get? b = some u → h'.get? b = some u) (heo : ∃ u, h'.get? e = some u)
    (new : ObjOk X.prog X.w (upd H x o) h' x o) : Inv X pins σ (upd H x o) { s with heap := h', toks := t' } := I.un (Un.write mu he k heo) (I.hok.write mu he k heo new)
theorem Inv.pins_of {pins' : List (Addr × Obj)} (I : Inv X pins σ H s) (h : ∀ p ∈ pins', s.heap.get? p.1 = some p.2 ∧ H p.1 = none ∧ p.1 ≠ X.env.locals ∧ p.1 ∉ X.fs ∧ ∀ v, p.2.data ≠ .cell v) : Inv X pins' σ H s :=
  ⟨I.ok, I.os, I.bare, I.base, I.loc, I.cell, I.free, I.freeC, fun p hp => (List.mem_append.mp hp).elim (fun z => I.pin p (List.mem_append_left _ z)) (h p), I.hok, I.len⟩

theorem nodup_ix {N : List Str} (hN : N.Nodup) {i j : Nat} {x : Str} (a : N[i]? = some x) (b : N[j]? = some x) : i = j := by
  obtain ⟨h1, e1⟩ := List.getElem?_eq_some_iff.mp a
  obtain ⟨h2, e2⟩ := List.getElem?_eq_some_iff.mp b
  exact (List.getElem_inj hN).mp (e1.trans e2.symm)

/-- a name is stored; what changed -/
theorem store_ok2 {M : Model} {A : Around} {E : Value → Shared → Prop} {i : Nat} {x : Str} {v : V} {u : Value} {Q : Unit → Shared → Prop} (I : Inv X pins σ H s) (hN : X.N.Nodup) (hi : X.N[i]? = some x) (hx : Loc X.env.scope x) (r : RelV v u)
    (h : ∀ s', Inv X pins (σ.set i (some v)) H s' → (∃ a, Heap.SameBut a s.heap s'.heap ∧ (a = X.env.locals ∨ X.env.cells.lookup x = some a)) → Q () s') (hf : X.fn x = true ∨ X.env.scope.names.lookup x = some .local := by first | exact .inl rfl | exact .inr rfl | assumption) : wpAny M A (storeName X.env x u) Q E s := by
  obtain ⟨m, hn, hl⟩ := id I.loc
  have hcls : (X.env.scope.kind == .class || (X.env.scope.kind == .module && X.env.locals != X.env.globals)) = false := by rw [I.ok.kind]; rfl
  have hiσ : i < σ.length := by rw [I.len]; exact (List.getElem?_eq_some_iff.mp hi).1
  have cne := I.cne
  have tracked : ∀ {a : Addr} {h' : Heap}, (∃ o, s.heap.get? a = some o ∧ H a = none) → Heap.SameBut a s.heap h' → HOk X.prog X.w H h' := fun {a h'} ha hs b ob e => by
    obtain ⟨_, _, hfree⟩ := ha
    refine (I.hok b ob e).stay (fun c w' hc q => (hs.2 c ?_).trans q) (fun _ q => q) fun _ _ q => q
    rintro rfl
    rcases hc with rfl | hc
    · rw [hfree] at e; cases e
    · rw [hfree] at hc; cases hc
  rcases hx with hk | hk
  · refine wpAny_storeName_local hk hn (fun h' hn' hs => ?_) hcls
    obtain ⟨oL, _, _, hoL, _⟩ := id hn
    refine h _ ⟨I.ok, I.os, I.bare, ⟨fun b o e n hb hx => ?_, fun b o e n hb hx => ?_, I.base.free, fun b o e hx => ?_, I.base.tups, I.base.frzs, I.base.tbls⟩, ⟨_, hn', fun j y v' e1 e2 e3 => ?_⟩, fun y c e => ?_, I.free, I.freeC, fun p hp => ?_, tracked ⟨oL, hoL, I.free⟩ hs, by simpa using I.len⟩ ⟨_, hs, .inl rfl⟩
    · exact (hs.2 b (Nat.ne_of_lt (Nat.lt_of_lt_of_le (Heap.lt_size e) I.ok.above))).trans (I.base.keep b o e n hb hx)
    · obtain ⟨sl, e1⟩ := I.base.slot b o e n hb hx
      exact ⟨sl, (hs.2 b (Nat.ne_of_lt (Nat.lt_of_lt_of_le (Heap.lt_size e) I.ok.above))).trans e1⟩
    · obtain ⟨o', e1⟩ := I.base.there b o e hx
      exact ⟨o', (hs.2 b (Nat.ne_of_lt (Nat.lt_of_lt_of_le (Heap.lt_size e) I.ok.above))).trans e1⟩
    · by_cases hj : j = i
      · subst hj
        rw [hi] at e1; cases e1
        rw [List.getElem?_set_self hiσ] at e2
        cases e2
        exact ⟨u, r, .inl ⟨hk, by simp⟩⟩
      · rw [List.getElem?_set_ne (Ne.symm hj)] at e2
        obtain ⟨u', r', q⟩ := hl j y v' e1 e2 e3
        refine ⟨u', r', ?_⟩
        rcases q with ⟨k, e⟩ | ⟨k, c, e, z⟩
        · refine .inl ⟨k, ?_⟩
          have : y ≠ x := fun e => hj (nodup_ix hN e1 (e ▸ hi))
          simp [this, e]
        · exact .inr ⟨k, c, e, z.sameBut hs (cne y c e)⟩
    · obtain ⟨w', z⟩ := I.cell y c e
      exact ⟨w', z.sameBut hs (cne y c e)⟩
    · obtain ⟨e, n, ne, nf, d⟩ := I.pin p hp
      exact ⟨(hs.2 p.1 ne).trans e, n, ne, nf, d⟩
  · have hfn : X.fn x = true := by
      rcases hf with z | z
      · exact z
      · rw [z] at hk; cases hk
    obtain ⟨c, hc⟩ := I.ok.has x (.inl hk)
    obtain ⟨w', z⟩ := I.cell x c hc
    refine wpAny_storeName_cell I.ok.kind hk hc z (fun h' hc' hs => ?_)
    obtain ⟨oc, hoc, hocd⟩ := id z
    refine h { s with heap := h' } ⟨I.ok, I.os, I.bare, ⟨fun b o e n hb hx => ?_, fun b o e n hb hx => ?_, I.base.free, fun b o e hx => ?_, I.base.tups, I.base.frzs, I.base.tbls⟩, ⟨m, hn.sameBut hs (Ne.symm (cne x c hc)), fun j y v' e1 e2 e3 => ?_⟩, fun y c' e => ?_, I.free, I.freeC, fun p hp => ?_, tracked ⟨oc, hoc, I.freeC x c hc⟩ hs, by simpa using I.len⟩ ⟨c, hs, .inr hc⟩
    · exact (hs.2 b (Nat.ne_of_lt (Nat.lt_of_lt_of_le (Heap.lt_size e) (I.ok.cab x c hfn hc)))).trans (I.base.keep b o e n hb hx)
    · obtain ⟨sl, e1⟩ := I.base.slot b o e n hb hx
      exact ⟨sl, (hs.2 b (Nat.ne_of_lt (Nat.lt_of_lt_of_le (Heap.lt_size e) (I.ok.cab x c hfn hc)))).trans e1⟩
    · obtain ⟨o', e1⟩ := I.base.there b o e hx
      exact ⟨o', (hs.2 b (Nat.ne_of_lt (Nat.lt_of_lt_of_le (Heap.lt_size e) (I.ok.cab x c hfn hc)))).trans e1⟩
    · by_cases hj : j = i
      · subst hj
        rw [hi] at e1; cases e1
        rw [List.getElem?_set_self hiσ] at e2
        cases e2
        exact ⟨u, r, .inr ⟨.inl hk, c, hc, hc'⟩⟩
      · rw [List.getElem?_set_ne (Ne.symm hj)] at e2
        obtain ⟨u', r', q⟩ := hl j y v' e1 e2 e3
        refine ⟨u', r', ?_⟩
        rcases q with q | ⟨k, c', e, z'⟩
        · exact .inl q
        · refine .inr ⟨k, c', e, z'.sameBut hs ?_⟩
          rintro rfl
          exact hj (nodup_ix hN e1 (I.ok.inj _ _ _ e hc ▸ hi))
    · by_cases hcc : c' = c
      · subst hcc; exact ⟨_, hc'⟩
      · obtain ⟨w2, z2⟩ := I.cell y c' e
        exact ⟨w2, z2.sameBut hs hcc⟩
    · obtain ⟨e, n, ne, nf, d⟩ := I.pin p hp
      refine ⟨(hs.2 p.1 ?_).trans e, n, ne, nf, d⟩
      intro q
      rw [q, hoc] at e
      have q' : oc = p.2 := Option.some.inj e
      exact d w' (by rw [← q']; exact hocd)
theorem store_ok {M : Model} {A : Around} {E : Value → Shared → Prop} {i : Nat} {x : Str} {v : V} {u : Value} {Q : Unit → Shared → Prop} (I : Inv X pins σ H s) (hN : X.N.Nodup) (hi : X.N[i]? = some x) (hx : Loc X.env.scope x) (r : RelV v u)
    (h : ∀ s', Inv X pins (σ.set i (some v)) H s' → Q () s') (hf : X.fn x = true ∨ X.env.scope.names.lookup x = some .local := by first | exact .inl rfl | exact .inr rfl | assumption) : wpAny M A (storeName X.env x u) Q E s :=
  store_ok2 I hN hi hx r (fun s' I' _ => h s' I') hf
/-- behind a call or a block, the state as it is -/
theorem Inv.call' {s' : Shared} {ch : List Addr} (I : Inv X pins σ H s) (ho : s'.os = s.os) (u : Un (frs X.stack) ch H H' s.heap s'.heap) (hok : HOk X.prog X.w H' s'.heap) (hg : AllBare s'.gens)
    (hch : ∀ b ∈ ch, (b ∈ X.ex ∨ X.s₀.heap.objs.size ≤ b) ∧ b ≠ X.env.locals ∧ (∀ x c, X.env.cells.lookup x = some c → c ≠ b) ∧ ∀ p ∈ X.pn ++ pins, p.1 ≠ b) : Inv X pins σ H' s' := by
  obtain ⟨h', g', d', t', o'⟩ := s'
  have e : o' = s.os := ho
  subst e
  exact I.call (g' := g') (t' := t') (d' := d') u hok hg hch
end

/-! ### the judgements -/
/-- an exception: its class, its own dict's address (where it has one), the abstract heap behind it -/
abbrev XK := Value → Option Addr → Hp → Prop
abbrev St := List (Option V)
abbrev VK := V → Hp → Prop
/-- an expression's reading; a test's; an argument list's -/
abbrev TE := St → Hp → VK → Prop
abbrev TT := St → Hp → (Bool → Hp → Prop) → Prop
abbrev TA := St → Hp → (List V → Hp → Prop) → Prop
/-- what is wanted behind a statement -/
structure Ends where
  nx : St → Hp → Prop
  rt : VK
  bk : St → Hp → Prop := fun _ _ => False
  ct : St → Hp → Prop := fun _ _ => False
abbrev TS := Ends → St → Hp → Prop

def EP (X : Cx) (pins : List (Addr × Obj)) (σ : St) (Q : VK) (u : Value) (s' : Shared) : Prop := ∃ v H', Inv X pins σ H' s' ∧ RelV v u ∧ Q v H'
def TP (X : Cx) (pins : List (Addr × Obj)) (σ : St) (Q : Bool → Hp → Prop) (b : Bool) (s' : Shared) : Prop := ∃ H', Inv X pins σ H' s' ∧ Q b H'
def AP (X : Cx) (pins : List (Addr × Obj)) (σ : St) (Q : List V → Hp → Prop) (us : List Value) (s' : Shared) : Prop := ∃ vs H', Inv X pins σ H' s' ∧ Vals vs us ∧ Q vs H'
def SP (X : Cx) (pins : List (Addr × Obj)) (D : Ends) (f : Flow) (s' : Shared) : Prop :=
  match f with
  | .next => ∃ σ' H', Inv X pins σ' H' s' ∧ D.nx σ' H'
  | .brk => ∃ σ' H', Inv X pins σ' H' s' ∧ D.bk σ' H'
  | .cont => ∃ σ' H', Inv X pins σ' H' s' ∧ D.ct σ' H'
  | .ret u => ∃ v σ' H', Inv X pins σ' H' s' ∧ RelV v u ∧ D.rt v H'

def PE (X : Cx) (e : Expr) (t : TE) : Prop :=
  ∀ (pins : List (Addr × Obj)) (s : Shared) (σ : St) (H : Hp) (Q : VK), Inv X pins σ H s → t σ H Q → wpAny (model X.prog X.w) X.A (eval e X.env) (EP X pins σ Q) X.xe s
def PT (X : Cx) (e : Expr) (t : TT) : Prop :=
  ∀ (pins : List (Addr × Obj)) (s : Shared) (σ : St) (H : Hp) (Q : Bool → Hp → Prop), Inv X pins σ H s → t σ H Q → wpAny (model X.prog X.w) X.A (isTrue e X.env (eval e X.env)) (TP X pins σ Q) X.xe s
/-- a test whatever its 'whole' is (and, or) -/
def PW (X : Cx) (e : Expr) (t : TT) : Prop :=
  ∀ (whole : Sem Value) (pins : List (Addr × Obj)) (s : Shared) (σ : St) (H : Hp) (Q : Bool → Hp → Prop), Inv X pins σ H s → t σ H Q → wpAny (model X.prog X.w) X.A (isTrue e X.env whole) (TP X pins σ Q) X.xe s
theorem PW.pt {X : Cx} {e : Expr} {t : TT} (h : PW X e t) : PT X e t := h _
/-- an argument list (no star), from the left -/
def PA (X : Cx) (es : List Expr) (t : TA) : Prop :=
  ∀ (pos : Pos) (pins : List (Addr × Obj)) (s : Shared) (σ : St) (H : Hp) (Q : List V → Hp → Prop), Inv X pins σ H s → t σ H Q → wpAny (model X.prog X.w) X.A (spliced (backTo pos (starEach es X.env))) (AP X pins σ Q) X.xe s
def PS (X : Cx) (st : Stmt) (t : TS) : Prop :=
  ∀ (pins : List (Addr × Obj)) (s : Shared) (σ : St) (H : Hp) (D : Ends), Inv X pins σ H s → t D σ H → wpAny (model X.prog X.w) X.A (exec st X.env) (SP X pins D) X.xe s
def PSs (X : Cx) (st : List Stmt) (t : TS) : Prop :=
  ∀ (pins : List (Addr × Obj)) (s : Shared) (σ : St) (H : Hp) (D : Ends), Inv X pins σ H s → t D σ H → wpAny (model X.prog X.w) X.A (execs st X.env) (SP X pins D) X.xe s
/-- weaken the end -/
theorem thn {α : Type} {t : Sem α} {Q Q' : α → Shared → Prop} {M : Model} {A : Around} {E : Value → Shared → Prop} {s : Shared} (h : wpAny M A t Q E s) (hQ : ∀ a s, Q a s → Q' a s) : wpAny M A t Q' E s := wpAny_mono h hQ fun _ _ x => x
end L2

namespace L2
open PySem PySem.Spec PyProof.Rows
section
variable {X : Cx}

/-! ### names and constants -/
def tVar (i : Nat) : TE := fun σ H Q => ∃ v, σ[i]? = some (some v) ∧ Q v H
def tC (v : V) : TE := fun _ H Q => Q v H
theorem pe_var {i : Nat} {x : Str} {pos : Pos} (hN : X.N[i]? = some x) (hv : Vis X.env.scope x) (hd : (x == ("__debug__" : Str)) = false := by decide) (hcd : (x == ("__classdict__" : Str)) = false := by decide) : PE X (.Name x pos) (tVar i) := by
  intro pins s σ H Q I h
  obtain ⟨v, e, h⟩ := h
  obtain ⟨m, hn, hl⟩ := I.loc
  obtain ⟨u, r, l⟩ := hl i x v hN e hv
  have fin : EP X pins σ Q u s := ⟨v, H, I, r, h⟩
  rcases l with ⟨hk, hm⟩ | ⟨hk, c, hc, hcell⟩
  · exact wpAny_Name (wpAny_loadName_local I.ok.kind hk hn hm fin) hd
  · rcases hk with hk | hk
    · exact wpAny_Name (wpAny_loadName_cell I.ok.kind hk hc hcell fin) hd
    · exact wpAny_Name (wpAny_loadName_free I.ok.kind hk hc hcell fin hcd) hd
theorem pe_int {i j pos} : PE X (.Constant (.int i) j pos) (tC (.int i)) := fun _ _ _ H _ I h => wpAny_Constant_int ⟨.int i, H, I.tok _, ⟨_, rfl⟩, h⟩
theorem pe_bl {b j pos} : PE X (.Constant (.bool b) j pos) (tC (.bl b)) := fun _ _ _ H _ I h => Constant_bool ⟨.bl b, H, I, rfl, h⟩
theorem pe_str {x j pos} : PE X (.Constant (.str x) j pos) (tC (.str x)) := fun _ _ _ H _ I h => Calls.Constant_str ⟨.str x, H, I.tok _, ⟨_, rfl⟩, h⟩

/-- a global name of the def -/
def Gl (X : Cx) (x : Str) : Prop := X.env.kindOf x = some .globalImplicit
theorem ld_glob {E : Value → Shared → Prop} {pins : List (Addr × Obj)} {s : Shared} {σ : St} {H : Hp} {x : Str} {u : Value} {pos : Pos} {Q : Value → Shared → Prop} (I : Inv X pins σ H s) (hg : Gl X x) (hm : X.mg x = some u) (h : Q u s)
    (hd : (x == ("__debug__" : Str)) = false := by decide) : wpAny (model X.prog X.w) X.A (eval (.Name x pos) X.env) Q E s :=
  Calls.Name_function_global I.ok.kind hg (Calls.loadGlobal_global (by rw [I.ok.glob]; exact I.mod.glob.keeps I.bk) hm h) hd
theorem ld_blt {E : Value → Shared → Prop} {pins : List (Addr × Obj)} {s : Shared} {σ : St} {H : Hp} {x : Str} {u : Value} {pos : Pos} {Q : Value → Shared → Prop} (I : Inv X pins σ H s) (hg : Gl X x) (hm : X.mg x = none) (hv : bootBuiltins x = some u) (h : Q u s)
    (hn : x ≠ "__name__" := by decide) (hd : (x == ("__debug__" : Str)) = false := by decide) : wpAny (model X.prog X.w) X.A (eval (.Name x pos) X.env) Q E s := by
  obtain ⟨mb, h1, h2⟩ := I.mod.blt
  exact Calls.Name_function_global I.ok.kind hg (Calls.loadGlobal_builtin (by rw [I.ok.glob]; exact I.mod.glob.keeps I.bk) hm (by rw [I.ok.blt]; exact h1.keeps I.bk) ((h2 x hn).trans hv) h) hd
theorem pe_bltn {x : Str} {v : V} {u : Value} {pos : Pos} (hg : Gl X x) (hm : X.mg x = none) (hv : bootBuiltins x = some u) (r : RelV v u) (hn : x ≠ "__name__" := by decide) (hd : (x == ("__debug__" : Str)) = false := by decide) : PE X (.Name x pos) (tC v) :=
  fun _ _ _ H _ I h => ld_blt I hg hm hv ⟨v, H, I, r, h⟩ hn hd

/-! ### arithmetic -/
variable {a b : Expr} {ta tb : TE} {pos : Pos}
/-! ### comparisons -/
/-- a comparison as a value, as a test -/
def tB (t : TE) : TT := fun σ H Q => t σ H fun x H1 => ∃ c, x = .bl c ∧ Q c H1
/-- an expression whose value is a bool, as a test -/
theorem pt_val {e : Expr} {t : TE} (h : PE X e t) (he : ∀ whole, isTrue e X.env whole = (do let v ← whole; standAt e.pos; holding [v] (truthy v)) := by intro _; rfl) : PT X e (tB t) := by
  intro pins s σ H Q I hw
  refine isTrue_plain (thn (h pins s σ H _ I hw) fun v s1 ⟨x, H1, I1, r1, q1⟩ => ?_) (he _)
  obtain ⟨d, rfl, q⟩ := q1
  cases r1
  exact wpAny_truthy_bool ⟨H1, I1, q⟩

/-! ### and, or, not -/
variable {tA tB' : TT} {rest : List Expr}
def tAnd (t u : TT) : TT := fun σ H Q => t σ H fun c H1 => if c = true then u σ H1 Q else Q false H1
def tOr (t u : TT) : TT := fun σ H Q => t σ H fun c H1 => if c = true then Q true H1 else u σ H1 Q
def tNot (t : TT) : TT := fun σ H Q => t σ H fun c H1 => Q (!c) H1
theorem pw_and1 (ha : PT X a tA) : PW X (.BoolOp .And [a] pos) tA := by
  intro wh pins s σ H Q I h
  refine isTrue_and (thn (ha pins s σ H Q I h) fun c s1 e => ?_)
  cases c with
  | true => exact isTrue_and_nil e
  | false => exact e
theorem pw_or1 (ha : PT X a tA) : PW X (.BoolOp .Or [a] pos) tA := by
  intro wh pins s σ H Q I h
  refine isTrue_or (thn (ha pins s σ H Q I h) fun c s1 e => ?_)
  cases c with
  | false => exact isTrue_or_nil e
  | true => exact e
theorem pw_and (ha : PT X a tA) (hb : PW X (.BoolOp .And (b :: rest) pos) tB') : PW X (.BoolOp .And (a :: b :: rest) pos) (tAnd tA tB') := by
  intro wh pins s σ H Q I h
  refine isTrue_and (thn (ha pins s σ H _ I h) fun c s1 ⟨H1, I1, q1⟩ => ?_)
  cases c with
  | true => exact hb wh pins s1 σ H1 Q I1 q1
  | false => exact ⟨H1, I1, q1⟩
theorem pw_or (ha : PT X a tA) (hb : PW X (.BoolOp .Or (b :: rest) pos) tB') : PW X (.BoolOp .Or (a :: b :: rest) pos) (tOr tA tB') := by
  intro wh pins s σ H Q I h
  refine isTrue_or (thn (ha pins s σ H _ I h) fun c s1 ⟨H1, I1, q1⟩ => ?_)
  cases c with
  | true => exact ⟨H1, I1, q1⟩
  | false => exact hb wh pins s1 σ H1 Q I1 q1
theorem pt_not (ha : PT X a tA) : PT X (.UnaryOp .Not a pos) (tNot tA) := by
  intro pins s σ H Q I h
  exact isTrue_not (ha pins s σ H (fun c H1 => Q (!c) H1) I h)
end
end L2

namespace L2
open PySem PySem.Spec PyProof.Rows

/-! ### a list, a tuple that is read: tracked, frozen, or an object of the module -/
def SqL (K : PySem.W.Frag) (H : Hp) (a : Addr) (xs : List V) : Prop :=
  Rd H a (.lst xs) ∨
    ∃ (o : Obj) (its : Array Value) (n : Nat), K.lookup a = some o ∧ o.cls = .type "list" ∧ o.dict = none ∧ o.data = .seq its n ∧ its.size ≤ sizeLine ∧ Vals xs its.toList
def SqT (K : PySem.W.Frag) (H : Hp) (a : Addr) (xs : List V) : Prop :=
  Rd H a (.tup xs) ∨
    ∃ (o : Obj) (its : Array Value) (n : Nat), K.lookup a = some o ∧ o.cls = .type "tuple" ∧ o.data = .seq its n ∧ its.size ≤ sizeLine ∧ Vals xs its.toList
def absV : Value → Option V
  | .none => some .non
  | .bool b => some (.bl b)
  | .int i _ => some (.int i)
  | .str x _ => some (.str x)
  | .bytes b _ => some (.byt b)
  | .float b _ => some (.flt b)
  | .ref a => some (.ref a)
  | .type n => some (.ty n)
  | _ => none
theorem RelV.abs {x : V} {u : Value} (r : RelV x u) : absV u = some x := by
  cases x with
  | non => cases r; rfl
  | bl _ => cases r; rfl
  | int _ => obtain ⟨t, rfl⟩ := r; rfl
  | str _ => obtain ⟨t, rfl⟩ := r; rfl
  | byt _ => obtain ⟨t, rfl⟩ := r; rfl
  | flt _ => obtain ⟨t, rfl⟩ := r; rfl
  | ref _ => cases r; rfl
  | ty _ => cases r; rfl
theorem RelV.inj {x y : V} {u : Value} (r : RelV x u) (q : RelV y u) : x = y := Option.some.inj (r.abs.symm.trans q.abs)
theorem Vals.inj : ∀ {xs ys : List V} {us : List Value}, Vals xs us → Vals ys us → xs = ys
  | _, _, _, .nil, .nil => rfl
  | _, _, _, .cons r t, .cons r' t' => by rw [r.inj r', Vals.inj t t']
section
variable {X : Cx} {pins : List (Addr × Obj)} {σ : St} {H : Hp} {s : Shared} {a : Addr} {xs ys : List V}
theorem SqL.of {K : PySem.W.Frag} (h : H a = some (.lst xs)) : SqL K H a xs := .inl (.inl h)
theorem SqT.of {K : PySem.W.Frag} (h : H a = some (.tup xs)) : SqT K H a xs := .inl (.inl h)
theorem Inv.list (I : Inv X pins σ H s) (h : SqL X.K H a xs) : ∃ its : List Value, Vals xs its ∧ PlainL s.heap a its.toArray ∧ xs.length ≤ sizeLine := by
  rcases h with h | ⟨o, its, n, hk, hc, hd, hs, hz, r⟩
  · obtain ⟨z, its, n, r, e⟩ := h.ok I.hok
    exact ⟨its, r, ⟨_, n, e, rfl, rfl, rfl⟩, z⟩
  · refine ⟨its.toList, r, ⟨o, n, I.kIn a o hk, hc, hd, by simpa using hs⟩, ?_⟩
    have e := r.length
    simp only [Array.length_toList] at e
    omega
theorem Inv.tuple (I : Inv X pins σ H s) (h : SqT X.K H a xs) : ∃ its : List Value, Vals xs its ∧ IsTup s.heap a its.toArray ∧ xs.length ≤ sizeLine := by
  rcases h with h | ⟨o, its, n, hk, hc, hs, hz, r⟩
  · obtain ⟨z, its, r, p⟩ := h.ok I.hok
    exact ⟨its, r, p, z⟩
  · refine ⟨its.toList, r, ⟨o, I.kIn a o hk, hc, n, by simpa using hs⟩, ?_⟩
    have e := r.length
    simp only [Array.length_toList] at e
    omega
theorem Inv.list_inj (I : Inv X pins σ H s) (h : SqL X.K H a xs) (h' : SqL X.K H a ys) : xs = ys := by
  obtain ⟨its, r, ⟨o, n, e, _, _, d⟩, _⟩ := I.list h
  obtain ⟨its', r', ⟨o', n', e', _, _, d'⟩, _⟩ := I.list h'
  rw [e] at e'; cases e'
  rw [d] at d'
  injection d' with d1 _
  have : its = its' := by simpa using congrArg Array.toList d1
  subst this
  exact r.inj r'
theorem Inv.tuple_inj (I : Inv X pins σ H s) (h : SqT X.K H a xs) (h' : SqT X.K H a ys) : xs = ys := by
  obtain ⟨its, r, ⟨o, e, _, n, d⟩, _⟩ := I.tuple h
  obtain ⟨its', r', ⟨o', e', _, n', d'⟩, _⟩ := I.tuple h'
  rw [e] at e'; cases e'
  rw [d] at d'
  injection d' with d1 _
  have : its = its' := by simpa using congrArg Array.toList d1
  subst this
  exact r.inj r'
end

/-! ### another wish about exceptions -/
abbrev Cx.wish (X : Cx) (E : Value → Shared → Prop) : Cx := { X with xe := E }
/-- no exception leaves -/
abbrev Cx.nox (X : Cx) : Cx := X.wish fun _ _ => False
theorem Cx.Ok.wish {X : Cx} (ok : X.Ok) (E : Value → Shared → Prop) : (X.wish E).Ok :=
  ⟨ok.mod, ok.kind, ok.glob, ok.blt, ok.above, ok.inj, ok.has, ok.cab, ok.hd, ok.frames, ok.stk, ok.exf, ok.bs, ok.bsz, ok.noex, ok.exfs, ok.funs, ok.frf⟩
theorem Cx.Ok.unwish {X : Cx} {E : Value → Shared → Prop} (ok : (X.wish E).Ok) : X.Ok :=
  ⟨ok.mod, ok.kind, ok.glob, ok.blt, ok.above, ok.inj, ok.has, ok.cab, ok.hd, ok.frames, ok.stk, ok.exf, ok.bs, ok.bsz, ok.noex, ok.exfs, ok.funs, ok.frf⟩
section
variable {X : Cx} {pins : List (Addr × Obj)} {σ : St} {H : Hp} {s : Shared} {E : Value → Shared → Prop}
theorem Inv.wish (I : Inv X pins σ H s) (E : Value → Shared → Prop) : Inv (X.wish E) pins σ H s := ⟨I.ok.wish E, I.os, I.bare, I.base, I.loc, I.cell, I.free, I.freeC, I.pin, I.hok, I.len⟩
theorem Inv.unwish (I : Inv (X.wish E) pins σ H s) : Inv X pins σ H s := ⟨I.ok.unwish, I.os, I.bare, I.base, I.loc, I.cell, I.free, I.freeC, I.pin, I.hok, I.len⟩
theorem SP.unwish {D : Ends} {f : Flow} {s' : Shared} (h : SP (X.wish E) pins D f s') : SP X pins D f s' := by
  cases f with
  | next => obtain ⟨σ', H', I, q⟩ := h; exact ⟨σ', H', I.unwish, q⟩
  | brk => obtain ⟨σ', H', I, q⟩ := h; exact ⟨σ', H', I.unwish, q⟩
  | cont => obtain ⟨σ', H', I, q⟩ := h; exact ⟨σ', H', I.unwish, q⟩
  | ret u => obtain ⟨v, σ', H', I, r, q⟩ := h; exact ⟨v, σ', H', I.unwish, r, q⟩
theorem PSs.nox {st : List Stmt} {t : TS} (h : PSs X.nox st t) : PSs X st t := fun pins s σ H D I hw =>
  wpAny_mono (h pins s σ H D (I.wish _) hw) (fun _ _ q => q.unwish) fun _ _ z => False.elim z
end

/-! ### blocks and small statements -/
section
variable {X : Cx} {st : Stmt} {rest : List Stmt} {t u : TS} {e : Expr} {te : TE} {pos : Pos}
def tNext : TS := fun D σ H => D.nx σ H
def tSeq (t u : TS) : TS := fun D σ H => t { D with nx := u D } σ H
theorem pss_nil : PSs X [] tNext := fun _ _ σ H _ I h => wpAny_execs_nil ⟨σ, H, I, h⟩
theorem pss_cons (h1 : PS X st t) (h2 : PSs X rest u) : PSs X (st :: rest) (tSeq t u) := by
  intro pins s σ H D I h
  refine wpAny_execs_cons (thn (h1 pins s σ H { D with nx := u D } I h) fun f s1 q => ?_)
  cases f with
  | next =>
    obtain ⟨σ', H', I', q⟩ := q
    exact h2 pins s1 σ' H' D I' q
  | ret v => exact q
  | brk => exact q
  | cont => exact q
theorem pss_one (h1 : PS X st t) : PSs X [st] t := by
  intro pins s σ H D I h
  refine wpAny_execs_cons (thn (h1 pins s σ H D I h) fun f s1 q => ?_)
  cases f with
  | next => exact wpAny_execs_nil q
  | ret v => exact q
  | brk => exact q
  | cont => exact q
/-- in a def's body nothing is shown -/
theorem Inv.quiet {pins : List (Addr × Obj)} {σ : St} {H : Hp} {s : Shared} (I : Inv X pins σ H s) : interactive X.env = false := by simp [interactive, I.ok.kind]
/-- an expression whose value is dropped -/
def tDrop (te : TE) : TS := fun D σ H => te σ H fun _ H1 => D.nx σ H1
theorem ps_expr (he : PE X e te) (hs : swapsWith e none pos.line X.env = pure false := by rfl) : PS X (.Expr e pos) (tDrop te) := by
  intro pins s σ H D I h
  exact wpAny_Expr_any (thn (he pins s σ H _ I h) fun v s1 ⟨x, H1, I1, r1, q1⟩ => ⟨σ, H1, I1, q1⟩) I.quiet hs
def tRet (te : TE) : TS := fun D σ H => te σ H D.rt
theorem ps_ret (he : PE X e te) : PS X (.Return (some e) pos) (tRet te) := by
  intro pins s σ H D I h
  exact wpAny_Return_some (thn (he pins s σ H _ I h) fun v s1 ⟨x, H1, I1, r1, q1⟩ => ⟨x, σ, H1, I1, r1, q1⟩)
def tIfS (c : TT) (t u : TS) : TS := fun D σ H => c σ H fun b H1 => if b = true then t D σ H1 else u D σ H1
theorem ps_if {c : Expr} {a b : List Stmt} {tc : TT} (hc : PT X c tc) (ha : PSs X a t) (hb : PSs X b u) : PS X (.If c a b pos) (tIfS tc t u) := by
  intro pins s σ H D I h
  refine wpAny_If (thn (hc pins s σ H _ I h) fun d s1 ⟨H1, I1, q1⟩ => ?_)
  cases d with
  | true => exact ha pins s1 σ H1 D I1 q1
  | false => exact hb pins s1 σ H1 D I1 q1
/-- code that the proof never comes to -/
def tNever : TS := fun _ _ _ => False
end

/-! ### targets -/
abbrev TG := V → St → Hp → (St → Hp → Prop) → Prop
abbrev TGs := List V → St → Hp → (St → Hp → Prop) → Prop
def PG (X : Cx) (target : Expr) (t : TG) : Prop :=
  ∀ (pins : List (Addr × Obj)) (s : Shared) (σ : St) (H : Hp) (v : V) (u : Value) (Q : St → Hp → Prop), Inv X pins σ H s → RelV v u → t v σ H Q →
    wpAny (model X.prog X.w) X.A (assign target X.env u) (fun _ s' => ∃ σ' H', Inv X pins σ' H' s' ∧ Q σ' H') X.xe s
/-- several targets, one after another -/
def PGs (X : Cx) (ts : List Expr) (t : TGs) : Prop :=
  ∀ (pins : List (Addr × Obj)) (s : Shared) (σ : St) (H : Hp) (vs : List V) (us : List Value) (Q : St → Hp → Prop), Inv X pins σ H s → Vals vs us → t vs σ H Q →
    wpAny (model X.prog X.w) X.A (assignInOrder ((assignEach ts X.env).map (·.2)) us) (fun _ s' => ∃ σ' H', Inv X pins σ' H' s' ∧ Q σ' H') X.xe s
/-- a op= b, by values -/
abbrev TIp := V → V → Hp → VK → Prop
def PIp (X : Cx) (op : Operator) (t : TIp) : Prop :=
  ∀ (pins : List (Addr × Obj)) (s : Shared) (σ : St) (H : Hp) (x y : V) (v u : Value) (Q : VK), Inv X pins σ H s → RelV x v → RelV y u → t x y H Q →
    wpAny (model X.prog X.w) X.A (inplaceOp op v u) (EP X pins σ Q) X.xe s
section
variable {X : Cx} {pos : Pos}
def gName (i : Nat) : TG := fun v σ H Q => Q (σ.set i (some v)) H
theorem pg_name {i : Nat} {x : Str} (hN : X.N.Nodup) (hi : X.N[i]? = some x) (hx : Loc X.env.scope x) (hf : X.fn x = true ∨ X.env.scope.names.lookup x = some .local := by first | exact .inl rfl | exact .inr rfl | assumption) : PG X (.Name x pos) (gName i) := by
  intro pins s σ H v u Q I r h
  exact wpAny_assign_Name (store_ok I hN hi hx r (fun s' I' => ⟨_, H, I', h⟩) hf)
def gNil : TGs := fun vs σ H Q => vs = [] ∧ Q σ H
def gCons (t : TG) (u : TGs) : TGs := fun vs σ H Q => ∃ v r, vs = v :: r ∧ t v σ H fun σ' H' => u r σ' H' Q
theorem pgs_nil : PGs X [] gNil := by
  intro pins s σ H vs us Q I r h
  obtain ⟨e, h⟩ := h
  subst e
  cases r
  exact assignInOrder_nil ⟨σ, H, I, h⟩
theorem pgs_cons {e : Expr} {es : List Expr} {t : TG} {u : TGs} (h1 : PG X e t) (h2 : PGs X es u)
    (hs : (assignEach (e :: es) X.env).map (·.2) = assign e X.env :: (assignEach es X.env).map (·.2) := by rfl) : PGs X (e :: es) (gCons t u) := by
  intro pins s σ H vs us Q I r h
  obtain ⟨v, vr, e1, h⟩ := h
  subst e1
  cases r with
  | cons r rr =>
    rw [hs]
    refine assignInOrder_cons (thn (h1 pins s σ H _ _ _ I r h) fun _ s1 ⟨σ1, H1, I1, q1⟩ => ?_)
    exact h2 pins s1 σ1 H1 _ _ Q I1 rr q1
/-- (a, b, ..) = a tuple of that length -/
def gTup (K : PySem.W.Frag) (n : Nat) (t : TGs) : TG := fun v σ H Q => ∃ a xs, v = .ref a ∧ SqT K H a xs ∧ xs.length = n ∧ t xs σ H Q
theorem pg_tup {es : List Expr} {k : Nat} {t : TGs} {n : Nat} (hc : X.calm = true) (h : PGs X es t)
    (hn : (assignEach es X.env).length = n := by rfl) (hst : (assignEach es X.env).findIdx? (·.1) = none := by rfl) : PG X (.Tuple es k pos) (gTup X.K n t) := by
  intro pins s σ H v u Q I r hw
  obtain ⟨a, xs, e1, hq, hl, hw⟩ := hw
  subst e1
  cases r
  obtain ⟨its, rv, ht, hz⟩ := I.tuple hq
  refine assign_Tuple_tuple (I.ok.hd hc) ht (by simp [hn, ← hl, rv.length]) hst fun h' hx => ?_
  have I1 : Inv X pins σ H { s with heap := h' } := I.kept (t' := s.toks) fun b o e => hx b o (Nat.ne_of_lt (Heap.lt_size e)) e
  exact h pins _ σ H xs _ Q I1 (by simpa using rv) hw
/-- target = value -/
def tAsg (te : TE) (g : TG) : TS := fun D σ H => te σ H fun x H1 => g x σ H1 D.nx
theorem ps_asg {tg e : Expr} {te : TE} {g : TG} (he : PE X e te) (hg : PG X tg g) (hs : swapsWithSole [tg] e pos.line X.env = pure false := by rfl) (hw : swappedStores [tg] e X.env = pure none := by rfl)
    (h1 : (assignEach [tg] X.env).map (·.2) = [assign tg X.env] := by rfl) : PS X (.Assign [tg] e pos) (tAsg te g) := by
  intro pins s σ H D I h
  refine wpAny_Assign_stores (thn (he pins s σ H _ I h) fun v s1 ⟨x, H1, I1, r1, q1⟩ => ?_) hs hw
  rw [h1]
  exact thn (hg pins s1 σ H1 x v _ I1 r1 q1) fun _ s2 q => q
/-- name = value -/
theorem ps_set {i : Nat} {x : Str} {e : Expr} {te : TE} {pos' : Pos} (hN : X.N.Nodup) (hi : X.N[i]? = some x) (hx : Loc X.env.scope x) (he : PE X e te) (hs : swapsWith e (some (.Name x pos')) pos.line X.env = pure false := by rfl) (hf : X.fn x = true ∨ X.env.scope.names.lookup x = some .local := by first | exact .inl rfl | exact .inr rfl | assumption) :
    PS X (.Assign [.Name x pos'] e pos) (tAsg te (gName i)) := by
  intro pins s σ H D I h
  refine wpAny_Assign_Name (thn (he pins s σ H _ I h) fun v s1 ⟨y, H1, I1, r1, q1⟩ => ?_) hs
  exact store_ok I1 hN hi hx r1 (fun s2 I2 => ⟨_, H1, I2, q1⟩) hf
/-- name op= e -/
def tAug (i : Nat) (te : TE) (ti : TIp) : TS := fun D σ H => ∃ x, σ[i]? = some (some x) ∧ te σ H fun y H1 => ti x y H1 fun z H2 => D.nx (σ.set i (some z)) H2
theorem ps_aug {i : Nat} {x : Str} {e : Expr} {te : TE} {op : Operator} {ti : TIp} {pos' : Pos} (hN : X.N.Nodup) (hi : X.N[i]? = some x) (hx : Loc X.env.scope x) (he : PE X e te) (ho : PIp X op ti) (hf : X.fn x = true ∨ X.env.scope.names.lookup x = some .local := by first | exact .inl rfl | exact .inr rfl | assumption) :
    PS X (.AugAssign (.Name x pos') op e pos) (tAug i te ti) := by
  intro pins s σ H D I h
  obtain ⟨v, e1, h⟩ := h
  obtain ⟨m, hn, hl⟩ := I.loc
  have vis : Vis X.env.scope x := by rcases hx with k | k; exact .inl k; exact .inr (.inl k)
  obtain ⟨u, r, l⟩ := hl i x v hi e1 vis
  refine wpAny_AugAssign_Name ?_
  have go : wpAny (model X.prog X.w) X.A (eval e X.env) (fun w s₂ => wpAny (model X.prog X.w) X.A (inplaceOp op u w) (fun r s₃ => wpAny (model X.prog X.w) X.A (storeName X.env x r) (fun _ => SP X pins D .next) X.xe s₃) X.xe s₂) X.xe s := by
    refine thn (he pins s σ H _ I h) fun w s1 ⟨y, H1, I1, r1, q1⟩ => ?_
    refine thn (ho pins s1 σ H1 v y u w _ I1 r r1 q1) fun z s2 ⟨zv, H2, I2, r2, q2⟩ => ?_
    exact store_ok I2 hN hi hx r2 (fun s3 I3 => ⟨_, H2, I3, q2⟩) hf
  rcases l with ⟨hk, hm⟩ | ⟨hk, c, hc, hcell⟩
  · exact wpAny_loadName_local I.ok.kind hk hn hm go
  · rcases hk with hk | hk
    · exact wpAny_loadName_cell I.ok.kind hk hc hcell go
    · rcases hx with k | k
      · have : X.env.scope.names.lookup x = some .free := hk
        rw [k] at this; cases this
      · have : X.env.scope.names.lookup x = some .free := hk
        rw [k] at this; cases this
end

/-! ### while -/
section
variable {X : Cx} {pos : Pos}
end

/-! ### what a loop or a comprehension walks -/
/-- at turn i: it yields x (the heap may grow), or it stops -/
structure It where
  go : Nat → Hp → Prop
  yld : Nat → Hp → V → Hp → Prop
  stop : Nat → Hp → Prop
/-- the iterator's own objects may turn: they are not the frame's, not pinned, younger than the entry (or a comprehension's own) -/
def FpOk (X : Cx) (pins : List (Addr × Obj)) (H : Hp) (b : Addr) : Prop :=
  H b = none ∧ b ≠ X.env.locals ∧ b ∉ X.fs ∧ (b ∈ X.ex ∨ X.s₀.heap.objs.size ≤ b) ∧ (∀ x c, X.env.cells.lookup x = some c → c ≠ b) ∧ ∀ p ∈ X.pn ++ pins, p.1 ≠ b
theorem Inv.fpOk {X : Cx} {pins : List (Addr × Obj)} {σ : St} {H H' : Hp} {s : Shared} {b : Addr} (I : Inv X pins σ H s) (hb : s.heap.objs.size ≤ b) (hn : H' b = none) : FpOk X pins H' b := by
  refine ⟨hn, Nat.ne_of_gt (Nat.lt_of_lt_of_le I.lt hb), I.nofs hb, .inr (Nat.le_trans I.sz hb), fun x c e z => ?_, fun p hp z => ?_⟩
  · obtain ⟨v, q⟩ := I.cell x c e
    exact absurd (Nat.lt_of_lt_of_le q.lt (by rw [z]; exact hb)) (Nat.lt_irrefl _)
  · exact absurd (Nat.lt_of_lt_of_le (Heap.lt_size (I.pin p hp).1) (by rw [z]; exact hb)) (Nat.lt_irrefl _)
structure Turn (P : Program) (w : World) (K : PySem.W.Frag) (tg : Expr) (J : It) (fp : List Addr) (it : Addr) (tn : Nat → Heap → Prop) : Prop where
  mem : it ∈ fp
  obj : ∀ i h, tn i h → ∀ b ∈ fp, ∃ o, h.get? b = some o ∧ ∀ v, o.data ≠ .cell v
  keep : ∀ i h h', tn i h → (∀ b ∈ fp, ∀ o, h.get? b = some o → h'.get? b = some o) → tn i h'
  item : ∀ (X : Cx), X.prog = P → X.w = w → X.K = K → X.calm = true → ∀ (i : Nat) (pins : List (Addr × Obj)) (s : Shared) (σ : St) (H : Hp) (E : Value → Shared → Prop), Inv X pins σ H s → (∀ b ∈ fp, FpOk X pins H b) → tn i s.heap → J.go i H →
    wpAny (model P w) X.A (pyNext (.ref it)) (fun r s1 => ∃ u, r = some u ∧
      wpAny (model P w) X.A (letOwnedTupleGo tg (.ref it) u) (fun _ s2 => ∃ x H', Inv X pins σ H' s2 ∧ RelV x u ∧ J.yld i H x H' ∧ tn (i + 1) s2.heap ∧ ∀ b ∈ fp, H' b = none) E s1) E s
  done : ∀ (X : Cx), X.prog = P → X.w = w → X.K = K → X.calm = true → ∀ (i : Nat) (pins : List (Addr × Obj)) (s : Shared) (σ : St) (H : Hp) (E : Value → Shared → Prop), Inv X pins σ H s → (∀ b ∈ fp, FpOk X pins H b) → tn i s.heap → J.stop i H →
    wpAny (model P w) X.A (pyNext (.ref it)) (fun r s1 => r = none ∧ Inv X pins σ H s1) E s
  self : ∀ (A : Around) (i : Nat) (s : Shared) (Q : Value → Shared → Prop) (E : Value → Shared → Prop), tn i s.heap → Q (.ref it) s → wpAny (model P w) A (pyIter (.ref it)) Q E s
abbrev TI := St → Hp → (It → Hp → Prop) → Prop
/-- an iterator has come -/
def PIE (X : Cx) (pins : List (Addr × Obj)) (σ : St) (tg : Expr) (R : It → Hp → Prop) (itv : Value) (s2 : Shared) : Prop :=
  ∃ (it : Addr) (fp : List Addr) (tn : Nat → Heap → Prop) (J : It) (H' : Hp), itv = .ref it ∧ Inv X pins σ H' s2 ∧ Turn X.prog X.w X.K tg J fp it tn ∧ tn 0 s2.heap ∧ (∀ b ∈ fp, FpOk X pins H' b) ∧ R J H'
def PI (X : Cx) (tg iter : Expr) (wi : TI) : Prop :=
  ∀ (pins : List (Addr × Obj)) (s : Shared) (σ : St) (H : Hp) (R : It → Hp → Prop), Inv X pins σ H s → wi σ H R →
    wpAny (model X.prog X.w) X.A (eval iter X.env) (fun v s1 => wpAny (model X.prog X.w) X.A (pyIter v) (PIE X pins σ tg R) X.xe s1) X.xe s

/-- the step ahead of the store is nothing for an iterator that keeps no tuple -/
theorem go_of {M : Model} {A : Around} {E : Value → Shared → Prop} {s : Shared} {tg : Expr} {it : Addr} {u : Value} {o : Obj} {n : String} {vs : Array Value} {Q : Unit → Shared → Prop} (ho : s.heap.get? it = some o) (hc : o.cls = .type n) (hd : o.data = .fields vs)
    (hn : ["enumerate", "zip", "dict_itemiterator", "dict_reverseitemiterator", "odict_iterator", "itertools.zip_longest", "itertools.pairwise"].contains n = false) (hQ : Q () s) : wpAny M A (letOwnedTupleGo tg (.ref it) u) Q E s := by
  unfold letOwnedTupleGo
  cases tg <;> first
    | exact wpAny_pure hQ
    | (cases u <;> first
        | exact wpAny_pure hQ
        | (refine wpAny_bind (wpAny_load ho ?_)
           rw [hc, hd]
           show wpAny M A (if (["enumerate", "zip", "dict_itemiterator", "dict_reverseitemiterator", "odict_iterator", "itertools.zip_longest", "itertools.pairwise"].contains n && vs[0]? == some (rawInt _)) = true then _ else _) Q E s
           rw [if_neg (by intro h; rw [hn, Bool.false_and] at h; cases h)]
           exact wpAny_pure hQ))

/-- the list at a, as it stands at each turn (a loop may append to it) -/
def Itl (K : PySem.W.Frag) (a : Addr) : It :=
  ⟨fun i H => ∃ xs x, SqL K H a xs ∧ xs[i]? = some x, fun i H x H' => H' = H ∧ ∀ xs, SqL K H a xs → xs[i]? = some x, fun i H => ∃ xs, SqL K H a xs ∧ xs.length ≤ i⟩
def Itt (K : PySem.W.Frag) (a : Addr) : It :=
  ⟨fun i H => ∃ xs x, SqT K H a xs ∧ xs[i]? = some x, fun i H x H' => H' = H ∧ ∀ xs, SqT K H a xs → xs[i]? = some x, fun i H => ∃ xs, SqT K H a xs ∧ xs.length ≤ i⟩
/-- lo, lo + 1, .. (n of them) -/
def Itr (lo : Int) (n : Nat) : It := ⟨fun i _ => i < n, fun i H x H' => H' = H ∧ x = .int (lo + i), fun i _ => n ≤ i⟩
theorem turn_list {P : Program} {w : World} {K : PySem.W.Frag} {tg : Expr} (a it : Addr) : Turn P w K tg (Itl K a) [it] it (fun i h => h.IsListIter it a i) where
  mem := by simp
  obj := fun i h st b hb => by
    have e : b = it := by simpa using hb
    subst e
    obtain ⟨o, e, c, d⟩ := st
    exact ⟨o, e, fun v z => by rw [d] at z; cases z⟩
  keep := fun i h h' st k => st.at fun o e => k it (by simp) o e
  item := by
    intro X hP hw hK hc i pins s σ H E I hf st hg
    subst hP hw hK
    obtain ⟨xs, x, hq, hx⟩ := hg
    obtain ⟨its, rv, p, hz⟩ := I.list hq
    obtain ⟨u, hu, ru⟩ := rv.get hx
    obtain ⟨f0, f1, f2, f3, f4, f5⟩ := hf it (by simp)
    refine wpAny_pyNext_list_item st p.isList (x := u) (by simpa using hu) fun h' st' sb => ?_
    have I1 : Inv X pins σ H { s with heap := h' } := I.turned (t' := s.toks) (fun b o hb e => (sb.2 b hb).trans e) f0 f1 f3 f4 f5
    obtain ⟨o, e, c, d⟩ := id st'
    exact ⟨u, rfl, go_of (s := { s with heap := h' }) e c d (by decide) ⟨x, H, I1, ru, ⟨rfl, fun ys hy => by rw [I.list_inj hy hq]; exact hx⟩, st', fun b hb => (hf b hb).1⟩⟩
  done := by
    intro X hP hw hK hc i pins s σ H E I hf st hg
    subst hP hw hK
    obtain ⟨xs, hq, hx⟩ := hg
    obtain ⟨its, rv, p, hz⟩ := I.list hq
    obtain ⟨f0, f1, f2, f3, f4, f5⟩ := hf it (by simp)
    have hl := rv.length
    exact wpAny_pyNext_list_end (I.ok.hd hc) st p.isList (by simp; omega) fun h' eb => ⟨rfl, I.turned (t' := s.toks) (fun b o hb e => eb b o hb e) f0 f1 f3 f4 f5⟩
  self := fun _ _ _ _ _ st h => wpAny_pyIter_listiter st h
theorem turn_tuple {P : Program} {w : World} {K : PySem.W.Frag} {tg : Expr} (a it : Addr) : Turn P w K tg (Itt K a) [it] it (fun i h => h.IsTupleIter it a i) where
  mem := by simp
  obj := fun i h st b hb => by
    have e : b = it := by simpa using hb
    subst e
    obtain ⟨o, e, c, d⟩ := st
    exact ⟨o, e, fun v z => by rw [d] at z; cases z⟩
  keep := fun i h h' st k => st.at fun o e => k it (by simp) o e
  item := by
    intro X hP hw hK hc i pins s σ H E I hf st hg
    subst hP hw hK
    obtain ⟨xs, x, hq, hx⟩ := hg
    obtain ⟨its, rv, p, hz⟩ := I.tuple hq
    obtain ⟨u, hu, ru⟩ := rv.get hx
    obtain ⟨f0, f1, f2, f3, f4, f5⟩ := hf it (by simp)
    refine wpAny_pyNext_tuple_item st (show s.heap.IsTuple a its.toArray from p) (x := u) (by simpa using hu) fun h' st' sb => ?_
    have I1 : Inv X pins σ H { s with heap := h' } := I.turned (t' := s.toks) (fun b o hb e => (sb.2 b hb).trans e) f0 f1 f3 f4 f5
    obtain ⟨o, e, c, d⟩ := id st'
    exact ⟨u, rfl, go_of (s := { s with heap := h' }) e c d (by decide) ⟨x, H, I1, ru, ⟨rfl, fun ys hy => by rw [I.tuple_inj hy hq]; exact hx⟩, st', fun b hb => (hf b hb).1⟩⟩
  done := by
    intro X hP hw hK hc i pins s σ H E I hf st hg
    subst hP hw hK
    obtain ⟨xs, hq, hx⟩ := hg
    obtain ⟨its, rv, p, hz⟩ := I.tuple hq
    obtain ⟨f0, f1, f2, f3, f4, f5⟩ := hf it (by simp)
    have hl := rv.length
    exact wpAny_pyNext_tuple_end (I.ok.hd hc) st (show s.heap.IsTuple a its.toArray from p) (by simp; omega) fun h' eb => ⟨rfl, I.turned (t' := s.toks) (fun b o hb e => eb b o hb e) f0 f1 f3 f4 f5⟩
  self := fun _ _ _ _ _ st h => wpAny_pyIter_tupleiter st h
theorem turn_range {P : Program} {w : World} {K : PySem.W.Frag} {tg : Expr} (it : Addr) (lo : Int) (n : Nat) : Turn P w K tg (Itr lo n) [it] it (fun i h => IsRangeIter h it (lo + (i : Nat) * 1) ((n : Int) - (i : Nat)) 1) where
  mem := by simp
  obj := fun i h st b hb => by
    have e : b = it := by simpa using hb
    subst e
    exact ⟨_, st, fun v z => by
      have z' : Data.fields _ = Data.cell v := z
      cases z'⟩
  keep := fun i h h' st k => k it (by simp) _ st
  item := by
    intro X hP hw hK hc i pins s σ H E I hf st hg
    subst hP hw hK
    obtain ⟨f0, f1, f2, f3, f4, f5⟩ := hf it (by simp)
    have W := Walks.range (prog := X.prog) (w := X.w) (I.ok.hd hc) it lo 1 n
    refine W.item i s _ _ hg st fun v h' tk hv st' kk => ?_
    obtain ⟨t, rfl⟩ := hv
    have I1 : Inv X pins σ H { s with heap := h', toks := tk } := I.turned (fun b o hb e => kk b o (by simpa using hb) e) f0 f1 f3 f4 f5
    refine ⟨_, rfl, go_of (s := { s with heap := h', toks := tk }) (n := "range_iterator") st' rfl rfl (by decide) ⟨.int (lo + i), H, I1, ⟨t, ?_⟩, ⟨rfl, rfl⟩, st', fun b hb => (hf b hb).1⟩⟩
    rw [Int.mul_one]
  done := by
    intro X hP hw hK hc i pins s σ H E I hf st hg
    subst hP hw hK
    obtain ⟨f0, f1, f2, f3, f4, f5⟩ := hf it (by simp)
    exact wpAny_pyNext_range_end (I.ok.hd hc) st (by have : n ≤ i := hg; omega) fun h' eb => ⟨rfl, I.turned (t' := s.toks) (fun b o hb e => eb b o hb e) f0 f1 f3 f4 f5⟩
  self := fun _ _ _ _ _ st h => wpAny_pyIter_rangeiter st h
end L2

namespace L2
open PySem PySem.Spec PyProof.Rows
section
variable {X : Cx} {tg : Expr}
def iList (K : PySem.W.Frag) (tl : TE) : TI := fun σ H R => tl σ H fun x H1 => ∃ a, x = .ref a ∧ (∃ xs, SqL K H1 a xs) ∧ R (Itl K a) H1
def iTup (K : PySem.W.Frag) (tl : TE) : TI := fun σ H R => tl σ H fun x H1 => ∃ a, x = .ref a ∧ (∃ xs, SqT K H1 a xs) ∧ R (Itt K a) H1
theorem pi_list {l : Expr} {tl : TE} (hl : PE X l tl) : PI X tg l (iList X.K tl) := by
  intro pins s σ H R I h
  refine thn (hl pins s σ H _ I h) fun v s1 ⟨x, H1, I1, r1, q1⟩ => ?_
  obtain ⟨a, e, ⟨xs, hq⟩, q⟩ := q1
  subst e
  cases r1
  obtain ⟨its, rv, p, hz⟩ := I1.list hq
  refine wpAny_pyIter_list p.isList ?_
  refine ⟨s1.heap.objs.size, [s1.heap.objs.size], _, _, H1, rfl, I1.kept (t' := s1.toks) fun b o e => Heap.get?_push_of_some _ e, turn_list a _, ⟨_, Heap.get?_push_size _ rfl, rfl, rfl⟩, fun b hb => ?_, q⟩
  have e : b = s1.heap.objs.size := by simpa using hb
  subst e
  exact I1.fpOk (Nat.le_refl _) (I1.hok.fresh (Nat.le_refl _))
theorem pi_tup {l : Expr} {tl : TE} (hl : PE X l tl) : PI X tg l (iTup X.K tl) := by
  intro pins s σ H R I h
  refine thn (hl pins s σ H _ I h) fun v s1 ⟨x, H1, I1, r1, q1⟩ => ?_
  obtain ⟨a, e, ⟨xs, hq⟩, q⟩ := q1
  subst e
  cases r1
  obtain ⟨its, rv, p, hz⟩ := I1.tuple hq
  refine wpAny_pyIter_tuple (show s1.heap.IsTuple a its.toArray from p) ?_
  refine ⟨s1.heap.objs.size, [s1.heap.objs.size], _, _, H1, rfl, I1.kept (t' := s1.toks) fun b o e => Heap.get?_push_of_some _ e, turn_tuple a _, ⟨_, Heap.get?_push_size _ rfl, rfl, rfl⟩, fun b hb => ?_, q⟩
  have e : b = s1.heap.objs.size := by simpa using hb
  subst e
  exact I1.fpOk (Nat.le_refl _) (I1.hok.fresh (Nat.le_refl _))
/-- a range object just made, walked -/
theorem range_it {pins : List (Addr × Obj)} {σ : St} {H : Hp} {s : Shared} {R : It → Hp → Prop} {E : Value → Shared → Prop} {lo hi : Int} {t u v : Tok} {tk : Nat} (I : Inv X pins σ H s) (h1 : -(2 ^ 62) ≤ lo) (h2 : lo < 2 ^ 62) (h3 : -(2 ^ 62) ≤ hi) (h4 : hi < 2 ^ 62)
    (q : R (Itr lo (hi - lo).toNat) H) : wpAny (model X.prog X.w) X.A (pyIter (.ref s.heap.objs.size)) (PIE X pins σ tg R) E { s with heap := s.heap.push { cls := .type "range", data := .fields #[.int lo t, .int hi u, .int 1 v] }, toks := tk } := by
  refine wpAny_pyIter_range (IsRange.new ..) (small_one h1 h2 h3 h4) ?_
  have I1 : Inv X pins σ H { s with heap := s.heap.push { cls := .type "range", data := .fields #[.int lo t, .int hi u, .int 1 v] }, toks := tk } := I.kept fun b o e => Heap.get?_push_of_some _ e
  refine ⟨(s.heap.push { cls := .type "range", data := .fields #[.int lo t, .int hi u, .int 1 v] }).objs.size, [(s.heap.push { cls := .type "range", data := .fields #[.int lo t, .int hi u, .int 1 v] }).objs.size], _, _, H, rfl,
    I1.kept (t' := tk) fun b o e => Heap.get?_push_of_some _ e, turn_range _ lo (hi - lo).toNat, ?_, fun b hb => ?_, q⟩
  · have e1 : lo + ((0 : Nat) : Int) * 1 = lo := by simp
    have e2 : (((hi - lo).toNat : Nat) : Int) - ((0 : Nat) : Int) = Builtin.Range.rangeSize lo hi 1 := by rw [rangeSize_one]; split <;> omega
    show IsRangeIter _ _ (lo + ((0 : Nat) : Int) * 1) ((((hi - lo).toNat : Nat) : Int) - ((0 : Nat) : Int)) 1
    rw [e1, e2]
    exact Heap.get?_push_size _ rfl
  · have e : b = (s.heap.push { cls := .type "range", data := .fields #[.int lo t, .int hi u, .int 1 v] }).objs.size := by simpa using hb
    subst e
    exact I1.fpOk (Nat.le_refl _) (I1.hok.fresh (Nat.le_refl _))
def iRng1 (ta : TA) : TI := fun σ H R => ta σ H fun vs H1 => ∃ j : Int, vs = [.int j] ∧ -(2 ^ 62) ≤ j ∧ j < 2 ^ 62 ∧ R (Itr 0 j.toNat) H1
theorem pi_range1 {a : Expr} {ta : TA} {p pos : Pos} (hg : Gl X "range") (hm : X.mg "range" = none) (ha : PA X [a] ta) (hs : starEach [a] X.env = [(false, eval a X.env)] := by rfl) : PI X tg (.Call (.Name "range" p) [a] [] pos) (iRng1 ta) := by
  intro pins s σ H R I h
  refine Call_ (ld_blt I hg hm boot_range (PyProof.Rows.callWith_type1 (thn (ha pos pins s σ H _ I h) fun us s1 ⟨vs, H1, I1, r1, q1⟩ => ?_) hs rfl))
  obtain ⟨j, e, q1, q2, q⟩ := q1
  subst e
  cases r1 with
  | cons r rr =>
    cases rr
    obtain ⟨t, rfl⟩ := r
    exact call_range_1 (range_it I1 (by omega) (by omega) q1 q2 (by simpa using q))
/-! ### for -/
/-- W: the invariant by the turn and a measure; N: what the body is to reach -/
def tFor (wi : TI) (g : TG) (tb : TS) : TS := fun D σ H => wi σ H fun J H1 => ∃ W : Nat → Nat → St → Hp → Prop, (∃ m, W 0 m σ H1) ∧ ∀ i m σ H, W i m σ H →
  (J.stop i H ∧ D.nx σ H) ∨ (J.go i H ∧ ∃ N : St → Hp → Prop, (∀ σ' H', N σ' H' → ∃ m', m' < m ∧ W (i + 1) m' σ' H') ∧ ∀ x H', J.yld i H x H' → g x σ H' fun σ2 H2 => tb { D with nx := N, ct := N, bk := D.nx } σ2 H2)
/-- the records at fp as they stand -/
def pinsAt (fp : List Addr) (h : Heap) : List (Addr × Obj) := fp.filterMap fun b => (h.get? b).map fun o => (b, o)
theorem mem_pinsAt {fp : List Addr} {h : Heap} {b : Addr} {o : Obj} (hb : b ∈ fp) (e : h.get? b = some o) : (b, o) ∈ pinsAt fp h := List.mem_filterMap.mpr ⟨b, hb, by rw [e]; rfl⟩
theorem of_pinsAt {fp : List Addr} {h : Heap} {p : Addr × Obj} (hp : p ∈ pinsAt fp h) : p.1 ∈ fp ∧ h.get? p.1 = some p.2 := by
  obtain ⟨b, hb, e⟩ := List.mem_filterMap.mp hp
  cases q : h.get? b with
  | none => rw [q] at e; cases e
  | some o =>
    rw [q] at e
    have e' : (b, o) = p := Option.some.inj e
    subst e'
    exact ⟨hb, q⟩
theorem Inv.pinned {pins : List (Addr × Obj)} {σ : St} {H : Hp} {s : Shared} {fp : List Addr} (I : Inv X pins σ H s) (hf : ∀ b ∈ fp, FpOk X pins H b) (ho : ∀ b ∈ fp, ∃ o, s.heap.get? b = some o ∧ ∀ v, o.data ≠ .cell v) : Inv X (pins ++ pinsAt fp s.heap) σ H s :=
  I.pins_of fun p hp => (List.mem_append.mp hp).elim (fun z => I.pin p (List.mem_append_right _ z)) fun z => by
    obtain ⟨hb, e⟩ := of_pinsAt z
    obtain ⟨f0, f1, f2, _⟩ := hf p.1 hb
    obtain ⟨o, e', d⟩ := ho p.1 hb
    rw [e] at e'; cases e'
    exact ⟨e, f0, f1, f2, d⟩
theorem Inv.unpinned {pins pl : List (Addr × Obj)} {σ : St} {H : Hp} {s : Shared} (I : Inv X (pins ++ pl) σ H s) : Inv X pins σ H s := I.pins_of fun p hp => I.pin p (List.mem_append_right _ (List.mem_append_left _ hp))
theorem ps_for {iter : Expr} {body : List Stmt} {wi : TI} {g : TG} {tb : TS} {pos : Pos} (hp : PassesOwn (model X.prog X.w) X.A X.env X.xe) (hc : X.calm = true) (hi : PI X tg iter wi) (hg : PG X tg g) (hb : PSs X body tb)
    (hs : ∀ x, foldedSetIterable iter X.env x = pure x := by intro _; rfl) : PS X (.For tg iter body [] pos) (tFor wi g tb) := by
  intro pins s σ H D I h
  refine wpAny_For (thn (hi pins s σ H _ I h) fun v s1 h1 => thn h1 fun itv s2 h2 => ?_) hs
  obtain ⟨it, fp, tn, J, H2, e, I2, T, st2, f2, W, ⟨m0, w0⟩, turn⟩ := h2
  subst e
  -- what stays true of the iterator's objects through the loop
  have stat : ∀ {H' : Hp}, (∀ b ∈ fp, H' b = none) → ∀ b ∈ fp, FpOk X pins H' b := fun hn b hb => ⟨hn b hb, (f2 b hb).2⟩
  refine codeAny_forLoop_any (fun n s' => ∃ i σ' H', Inv X pins σ' H' s' ∧ tn i s'.heap ∧ (∀ b ∈ fp, H' b = none) ∧ W i n σ' H') ?_ m0 ⟨0, σ, H2, I2, st2, fun b hb => (f2 b hb).1, w0⟩
  rintro n s3 ⟨i, σ3, H3, I3, st3, fr3, w3⟩
  rcases turn i n σ3 H3 w3 with ⟨stop, qn⟩ | ⟨go, N, hN, step⟩
  · refine wpAny_passesOwn hp (thn (T.done X rfl rfl rfl hc i pins s3 σ3 H3 X.xe I3 (stat fr3) st3 stop) fun r s4 ⟨hr, I4⟩ => ?_)
    subst hr
    exact wpAny_execs_nil ⟨σ3, H3, I4, qn⟩
  · refine wpAny_passesOwn hp (thn (T.item X rfl rfl rfl hc i pins s3 σ3 H3 X.xe I3 (stat fr3) st3 go) fun r s4 ⟨u, hr, h4⟩ => ?_)
    subst hr
    refine wpAny_passesOwn hp (thn h4 fun _ s5 ⟨x, H5, I5, r5, y5, st5, fr5⟩ => ?_)
    have I5' := I5.pinned (stat fr5) (T.obj _ _ st5)
    refine wpAny_passesOwn hp (thn (hg _ s5 σ3 H5 x u _ I5' r5 (step x H5 y5)) fun _ s6 ⟨σ6, H6, I6, q6⟩ => ?_)
    refine wpAny_passesOwn hp (thn (hb _ s6 σ6 H6 _ I6 q6) fun f s7 q7 => ?_)
    have again : ∀ {σ7 : St} {H7 : Hp}, Inv X (pins ++ pinsAt fp s5.heap) σ7 H7 s7 → N σ7 H7 → ∃ m, m < n ∧ ∃ i σ' H', Inv X pins σ' H' s7 ∧ tn i s7.heap ∧ (∀ b ∈ fp, H' b = none) ∧ W i m σ' H' := fun {σ7 H7} I7 n7 => by
      obtain ⟨m', hm, w7⟩ := hN σ7 H7 n7
      refine ⟨m', hm, i + 1, σ7, H7, I7.unpinned, T.keep _ _ _ st5 fun b hb o e => (I7.pin (b, o) (List.mem_append_right _ (List.mem_append_right _ (mem_pinsAt hb e)))).1, fun b hb => ?_, w7⟩
      obtain ⟨o, e, d⟩ := T.obj _ _ st5 b hb
      exact (I7.pin (b, o) (List.mem_append_right _ (List.mem_append_right _ (mem_pinsAt hb e)))).2.1
    cases f with
    | next => obtain ⟨σ7, H7, I7, n7⟩ := q7; exact again I7 n7
    | cont => obtain ⟨σ7, H7, I7, n7⟩ := q7; exact again I7 n7
    | brk => obtain ⟨σ7, H7, I7, q7⟩ := q7; exact ⟨σ7, H7, I7.unpinned, q7⟩
    | ret v => obtain ⟨x7, σ7, H7, I7, r7, q7⟩ := q7; exact ⟨x7, σ7, H7, I7.unpinned, r7, q7⟩
end

/-! ### the forms one uses -/
/-- over a list that the body leaves as it is -/
theorem for_list {K : PySem.W.Frag} {a : Addr} {xs : List V} {g : TG} {tb : TS} {D : Ends} {σ : St} {H : Hp} (Pv : Nat → St → Hp → Prop) (h0 : Pv 0 σ H) (hl : ∀ i σ H, i ≤ xs.length → Pv i σ H → SqL K H a xs)
    (hs : ∀ i x σ H, xs[i]? = some x → Pv i σ H → g x σ H fun σ2 H2 => tb { D with nx := Pv (i + 1), ct := Pv (i + 1), bk := D.nx } σ2 H2) (hd : ∀ σ H, Pv xs.length σ H → D.nx σ H) :
    ∃ W : Nat → Nat → St → Hp → Prop, (∃ m, W 0 m σ H) ∧ ∀ i m σ H, W i m σ H →
      ((Itl K a).stop i H ∧ D.nx σ H) ∨ ((Itl K a).go i H ∧ ∃ N : St → Hp → Prop, (∀ σ' H', N σ' H' → ∃ m', m' < m ∧ W (i + 1) m' σ' H') ∧ ∀ x H', (Itl K a).yld i H x H' → g x σ H' fun σ2 H2 => tb { D with nx := N, ct := N, bk := D.nx } σ2 H2) := by
  refine ⟨fun i m σ H => m = xs.length - i ∧ i ≤ xs.length ∧ Pv i σ H, ⟨xs.length, by simp, Nat.zero_le _, h0⟩, ?_⟩
  rintro i m σ H ⟨rfl, hi, p⟩
  have q := hl i σ H hi p
  by_cases hlt : i < xs.length
  · refine .inr ⟨⟨xs, xs[i], q, by simp [hlt]⟩, Pv (i + 1), fun σ' H' p' => ⟨xs.length - (i + 1), by omega, rfl, hlt, p'⟩, fun x H' y => ?_⟩
    obtain ⟨e, y⟩ := y
    subst e
    exact hs i x σ _ (y xs q) p
  · have e : i = xs.length := by omega
    subst e
    exact .inl ⟨⟨xs, q, Nat.le_refl _⟩, hd σ H p⟩
theorem for_range {lo : Int} {n : Nat} {g : TG} {tb : TS} {D : Ends} {σ : St} {H : Hp} (Pv : Nat → St → Hp → Prop) (h0 : Pv 0 σ H)
    (hs : ∀ i σ H, i < n → Pv i σ H → g (.int (lo + i)) σ H fun σ2 H2 => tb { D with nx := Pv (i + 1), ct := Pv (i + 1), bk := D.nx } σ2 H2) (hd : ∀ σ H, Pv n σ H → D.nx σ H) :
    ∃ W : Nat → Nat → St → Hp → Prop, (∃ m, W 0 m σ H) ∧ ∀ i m σ H, W i m σ H →
      ((Itr lo n).stop i H ∧ D.nx σ H) ∨ ((Itr lo n).go i H ∧ ∃ N : St → Hp → Prop, (∀ σ' H', N σ' H' → ∃ m', m' < m ∧ W (i + 1) m' σ' H') ∧ ∀ x H', (Itr lo n).yld i H x H' → g x σ H' fun σ2 H2 => tb { D with nx := N, ct := N, bk := D.nx } σ2 H2) := by
  refine ⟨fun i m σ H => m = n - i ∧ i ≤ n ∧ Pv i σ H, ⟨n, by simp, Nat.zero_le _, h0⟩, ?_⟩
  rintro i m σ H ⟨rfl, hi, p⟩
  by_cases hlt : i < n
  · refine .inr ⟨hlt, Pv (i + 1), fun σ' H' p' => ⟨n - (i + 1), by omega, rfl, hlt, p'⟩, fun x H' y => ?_⟩
    obtain ⟨e, y⟩ := y
    subst e y
    exact hs i σ _ hlt p
  · have e : i = n := by omega
    subst e
    exact .inl ⟨Nat.le_refl _, hd σ H p⟩
end L2

namespace L2
open PySem PySem.Spec PyProof.Rows

abbrev R2 := V → V → Hp → VK → Prop
/-- a two-place operation on values: f is binaryOp op, inplaceOp op or compareOp op -/
def OpR (X : Cx) (f : Value → Value → Sem Value) (r : R2) : Prop :=
  ∀ (pins : List (Addr × Obj)) (s : Shared) (σ : St) (H : Hp) (x y : V) (v u : Value) (Q : VK), Inv X pins σ H s → RelV x v → RelV y u → r x y H Q →
    wpAny (model X.prog X.w) X.A (f v u) (EP X pins σ Q) X.xe s
/-- a one-place operation -/
def UnR (X : Cx) (f : Value → Sem Value) (r : V → Hp → VK → Prop) : Prop :=
  ∀ (pins : List (Addr × Obj)) (s : Shared) (σ : St) (H : Hp) (x : V) (v : Value) (Q : VK), Inv X pins σ H s → RelV x v → r x H Q →
    wpAny (model X.prog X.w) X.A (f v) (EP X pins σ Q) X.xe s
/-- a call of a value that is known (a builtin, a type) with values -/
def CallR (X : Cx) (f : Value) (r : List V → Hp → VK → Prop) : Prop :=
  ∀ (pins : List (Addr × Obj)) (s : Shared) (σ : St) (H : Hp) (xs : List V) (us : List Value) (Q : VK), Inv X pins σ H s → Vals xs us → r xs H Q →
    wpAny (model X.prog X.w) X.A (call f us) (EP X pins σ Q) X.xe s
def tOp (r : R2) (ta tb : TE) : TE := fun σ H Q => ta σ H fun x H1 => tb σ H1 fun y H2 => r x y H2 Q
def tUn (r : V → Hp → VK → Prop) (ta : TE) : TE := fun σ H Q => ta σ H fun x H1 => r x H1 Q
/-- ints in, under C, and a value out -/
def rI (C : Int → Int → Prop) (g : Int → Int → V) : R2 := fun x y H Q => ∃ i j, x = .int i ∧ y = .int j ∧ C i j ∧ Q (g i j) H
def rI0 (g : Int → Int → V) : R2 := fun x y H Q => ∃ i j, x = .int i ∧ y = .int j ∧ Q (g i j) H
def rU (g : Int → V) : V → Hp → VK → Prop := fun x H Q => ∃ i, x = .int i ∧ Q (g i) H

section
variable {X : Cx} {a b c : Expr} {ta tb tc : TE} {pos : Pos}

theorem binT (ha : PE X a ta) (hb : PE X b tb) {pins : List (Addr × Obj)} {s : Shared} {σ : St} {H : Hp} {R : V → V → Hp → Prop} (I : Inv X pins σ H s)
    (h : ta σ H fun x H1 => tb σ H1 fun y H2 => R x y H2) {Q : Value → Shared → Prop} {f : Value → Value → Sem Value}
    (hf : ∀ v u s2 x y H2, Inv X pins σ H2 s2 → RelV x v → RelV y u → R x y H2 → wpAny (model X.prog X.w) X.A (f v u) Q X.xe s2) :
    wpAny (model X.prog X.w) X.A (eval a X.env) (fun v s₁ => wpAny (model X.prog X.w) X.A (eval b X.env) (fun u s₂ => wpAny (model X.prog X.w) X.A (f v u) Q X.xe s₂) X.xe s₁) X.xe s := by
  refine thn (ha pins s σ H _ I h) fun v s1 ⟨x, H1, I1, r1, q1⟩ => ?_
  refine thn (hb pins s1 σ H1 _ I1 q1) fun u s2 ⟨y, H2, I2, r2, q2⟩ => ?_
  exact hf v u s2 x y H2 I2 r1 r2 q2

theorem pe_op {op : Operator} {r : R2} (ho : OpR X (binaryOp op) r) (ha : PE X a ta) (hb : PE X b tb) : PE X (.BinOp a op b pos) (tOp r ta tb) := by
  intro pins s σ H Q I h
  exact wpAny_BinOp (binT ha hb I h fun v u s2 x y H2 I2 rx ry q => ho pins s2 σ H2 x y v u Q I2 rx ry q)
theorem pe_un {op : UnaryOp} {r : V → Hp → VK → Prop} (ho : UnR X (unaryOp op) r) (ha : PE X a ta) : PE X (.UnaryOp op a pos) (tUn r ta) := by
  intro pins s σ H Q I h
  exact UnaryOp_ (thn (ha pins s σ H _ I h) fun v s1 ⟨x, H1, I1, r1, q1⟩ => ho pins s1 σ H1 x v Q I1 r1 q1)
/-! ### ints -/
theorem opI {f : Value → Value → Sem Value} {C : Int → Int → Prop} {g : Int → Int → Int}
    (rule : ∀ (i j : Int) (t u : Tok) (s : Shared) (Q : Value → Shared → Prop) (E : Value → Shared → Prop), C i j → Q (.int (g i j) s.toks) { s with toks := s.toks + 1 } → wpAny (model X.prog X.w) X.A (f (.int i t) (.int j u)) Q E s) :
    OpR X f (rI C fun i j => .int (g i j)) := by
  intro pins s σ H x y v u Q I rx ry h
  obtain ⟨i, j, rfl, rfl, hc, q⟩ := h
  obtain ⟨t, rfl⟩ := rx
  obtain ⟨t', rfl⟩ := ry
  exact rule i j t t' s _ _ hc ⟨.int (g i j), H, I.tok _, ⟨_, rfl⟩, q⟩
theorem opI0 {f : Value → Value → Sem Value} {g : Int → Int → Int}
    (rule : ∀ (i j : Int) (t u : Tok) (s : Shared) (Q : Value → Shared → Prop) (E : Value → Shared → Prop), Q (.int (g i j) s.toks) { s with toks := s.toks + 1 } → wpAny (model X.prog X.w) X.A (f (.int i t) (.int j u)) Q E s) :
    OpR X f (rI0 fun i j => .int (g i j)) := by
  intro pins s σ H x y v u Q I rx ry h
  obtain ⟨i, j, rfl, rfl, q⟩ := h
  obtain ⟨t, rfl⟩ := rx
  obtain ⟨t', rfl⟩ := ry
  exact rule i j t t' s _ _ ⟨.int (g i j), H, I.tok _, ⟨_, rfl⟩, q⟩
theorem opB0 {f : Value → Value → Sem Value} {g : Int → Int → Bool}
    (rule : ∀ (i j : Int) (t u : Tok) (s : Shared) (Q : Value → Shared → Prop) (E : Value → Shared → Prop), Q (.bool (g i j)) s → wpAny (model X.prog X.w) X.A (f (.int i t) (.int j u)) Q E s) :
    OpR X f (rI0 fun i j => .bl (g i j)) := by
  intro pins s σ H x y v u Q I rx ry h
  obtain ⟨i, j, rfl, rfl, q⟩ := h
  obtain ⟨t, rfl⟩ := rx
  obtain ⟨t', rfl⟩ := ry
  exact rule i j t t' s _ _ ⟨.bl (g i j), H, I, rfl, q⟩

def CDiv (i j : Int) : Prop := 0 < j ∧ j < 1073741824
def CPow (i j : Int) : Prop := 0 ≤ j ∧ j ≤ 1000000 ∧ i.natAbs < 2 ^ 64
def CMul (i j : Int) : Prop := (-(2 ^ 64) < i ∧ i < 2 ^ 64) ∨ (-(2 ^ 64) < j ∧ j < 2 ^ 64)
theorem CMul.ok {i j : Int} (h : CMul i j) : IntMulOk i j := by
  rcases h with ⟨h1, h2⟩ | ⟨h1, h2⟩
  · exact .of_left (intBits_le_64 h1 h2)
  · exact .of_right (intBits_le_64 h1 h2)
theorem two_pow_nn (k : Nat) : (0 : Int) ≤ 2 ^ k := by
  rw [two_pow_cast]
  exact Int.natCast_nonneg _

theorem op_add : OpR X (binaryOp .Add) (rI0 fun i j => .int (i + j)) := opI0 fun _ _ _ _ _ _ _ q => add_int q
theorem op_sub : OpR X (binaryOp .Sub) (rI0 fun i j => .int (i - j)) := opI0 fun _ _ _ _ _ _ _ q => sub_int q
theorem op_mul : OpR X (binaryOp .Mult) (rI CMul fun i j => .int (i * j)) := opI fun _ _ _ _ _ _ _ hc q => mul_int q hc.ok
/-- // by a positive divisor -/
theorem op_fdiv : OpR X (binaryOp .FloorDiv) (rI CDiv fun i j => .int (i / j)) := opI fun i j _ _ _ _ _ hc q => by
  have h1 : (0 : Int) < j := hc.1
  have h2 : j < 1073741824 := hc.2
  exact floordiv_int (by omega) (by rw [Int.fdiv_eq_ediv_of_nonneg i (by omega)]; exact q) (.inl (PyProof.noPylong_small (by omega)))
/-- % by a positive divisor of any size -/
theorem op_mod : OpR X (binaryOp .Mod) (rI (fun _ j => 0 < j) fun i j => .int (i % j)) := opI fun i j _ _ _ _ _ hc q => by
  have h1 : (0 : Int) < j := hc
  exact mod_int' (by omega) (by rw [Int.fmod_eq_emod_of_nonneg i (by omega)]; exact q)
theorem op_pow : OpR X (binaryOp .Pow) (rI CPow fun i j => .int (i ^ j.toNat)) := opI fun _ _ _ _ _ _ _ hc q => pow_int_small hc.1 hc.2.1 hc.2.2 q
theorem op_shr : OpR X (binaryOp .RShift) (rI (fun _ j => 0 ≤ j) fun i j => .int (i / 2 ^ j.toNat)) := opI fun i j _ _ _ _ _ hc q =>
  rshift_int hc (by rw [Int.fdiv_eq_ediv_of_nonneg i (two_pow_nn _)]; exact q)
theorem op_and : OpR X (binaryOp .BitAnd) (rI0 fun i j => .int (Builtin.bitAnd i j)) := opI0 fun _ _ _ _ _ _ _ q => and_int q
theorem unI {f : Value → Sem Value} {g : Int → Int}
    (rule : ∀ (i : Int) (t : Tok) (s : Shared) (Q : Value → Shared → Prop) (E : Value → Shared → Prop), Q (.int (g i) s.toks) { s with toks := s.toks + 1 } → wpAny (model X.prog X.w) X.A (f (.int i t)) Q E s) :
    UnR X f (rU fun i => .int (g i)) := by
  intro pins s σ H x v Q I rx h
  obtain ⟨i, rfl, q⟩ := h
  obtain ⟨t, rfl⟩ := rx
  exact rule i t s _ _ ⟨.int (g i), H, I.tok _, ⟨_, rfl⟩, q⟩
theorem un_neg : UnR X (unaryOp .USub) (rU fun i => .int (-i)) := unI fun _ _ _ _ _ q => neg_int q
/-! ### bools among ints: n += (a < b) -/
end

/-! ### comparisons -/
/-- the scalars that == tells apart as data does -/
def scal : V → V → Bool
  | .non, .non => true | .non, .int _ => true | .int _, .non => true | .non, .bl _ => true | .bl _, .non => true | .non, .str _ => true | .str _, .non => true
  | .int _, .int _ => true | .bl _, .bl _ => true | .str _, .str _ => true | .byt _, .byt _ => true
  | .int _, .str _ => true | .str _, .int _ => true | .bl _, .str _ => true | .str _, .bl _ => true
  | _, _ => false
def rEq : R2 := fun x y H Q => scal x y = true ∧ Q (.bl (decide (x = y))) H
def rNe : R2 := fun x y H Q => scal x y = true ∧ Q (.bl (!decide (x = y))) H

theorem dec_int {i j : Int} : decide (V.int i = V.int j) = (i == j) := by
  rw [Bool.eq_iff_iff]
  simp
theorem dec_bl {i j : Bool} : decide (V.bl i = V.bl j) = (i == j) := by
  rw [Bool.eq_iff_iff]
  simp
theorem dec_str {i j : Str} : decide (V.str i = V.str j) = (i == j) := by
  rw [Bool.eq_iff_iff]
  simp
theorem dec_byt {i j : Array UInt8} : decide (V.byt i = V.byt j) = (i.toList == j.toList) := by
  rw [Bool.eq_iff_iff]
  cases i
  cases j
  simp

section
variable {X : Cx} {a b c : Expr} {ta tb tc : TE} {pos : Pos}
theorem fin_bl {pins : List (Addr × Obj)} {σ : St} {H : Hp} {s : Shared} {Q : VK} {k k' : Bool} (I : Inv X pins σ H s) (q : Q (.bl k) H) (e : k = k') : EP X pins σ Q (.bool k') s := by
  subst e
  exact ⟨.bl k, H, I, rfl, q⟩
theorem op_eq : OpR X (compareOp .Eq) rEq := by
  intro pins s σ H x y v u Q I rx ry h
  obtain ⟨hs, q⟩ := h
  cases x with
  | non =>
    cases rx
    cases y with
    | non => cases ry; exact PySem.EqNone.eq_none_none (fin_bl I q (by simp))
    | bl j => cases ry; exact PySem.EqNone.eq_none_bool (fin_bl I q (by simp))
    | int j => obtain ⟨t', rfl⟩ := ry; exact PySem.EqNone.eq_none_int (fin_bl I q (by simp))
    | str j => obtain ⟨t', rfl⟩ := ry; exact PySem.EqNone.eq_none_str (fin_bl I q (by simp))
    | _ => exact absurd (show false = true from hs) Bool.false_ne_true
  | bl i =>
    cases rx
    cases y with
    | non => cases ry; exact PySem.EqNone.eq_bool_none (fin_bl I q (by simp))
    | bl j => cases ry; exact eq_bool (fin_bl I q dec_bl)
    | str j => obtain ⟨t', rfl⟩ := ry; exact PySem.EqMixed.eq_bool_str (fin_bl I q (by simp))
    | _ => exact absurd (show false = true from hs) Bool.false_ne_true
  | int i =>
    obtain ⟨t, rfl⟩ := rx
    cases y with
    | non => cases ry; exact PySem.EqNone.eq_int_none (fin_bl I q (by simp))
    | int j => obtain ⟨t', rfl⟩ := ry; exact eq_int (fin_bl I q dec_int)
    | str j => obtain ⟨t', rfl⟩ := ry; exact PySem.EqMixed.eq_int_str (fin_bl I q (by simp))
    | _ => exact absurd (show false = true from hs) Bool.false_ne_true
  | str i =>
    obtain ⟨t, rfl⟩ := rx
    cases y with
    | non => cases ry; exact PySem.EqNone.eq_str_none (fin_bl I q (by simp))
    | bl j => cases ry; exact PySem.EqMixed.eq_str_bool (fin_bl I q (by simp))
    | int j => obtain ⟨t', rfl⟩ := ry; exact PySem.EqMixed.eq_str_int (fin_bl I q (by simp))
    | str j => obtain ⟨t', rfl⟩ := ry; exact eq_str (fin_bl I q dec_str)
    | _ => exact absurd (show false = true from hs) Bool.false_ne_true
  | byt i =>
    obtain ⟨t, rfl⟩ := rx
    cases y with
    | byt j => obtain ⟨t', rfl⟩ := ry; exact PySem.W.eq_bytes (fin_bl I q dec_byt)
    | _ => exact absurd (show false = true from hs) Bool.false_ne_true
  | _ => cases y <;> exact absurd (show false = true from hs) Bool.false_ne_true
theorem op_ne : OpR X (compareOp .NotEq) rNe := by
  intro pins s σ H x y v u Q I rx ry h
  obtain ⟨hs, q⟩ := h
  cases x with
  | non =>
    cases rx
    cases y with
    | non => cases ry; exact PySem.EqNone.ne_none_none (fin_bl I q (by simp))
    | bl j => cases ry; exact PySem.EqNone.ne_none_bool (fin_bl I q (by simp))
    | int j => obtain ⟨t', rfl⟩ := ry; exact PySem.EqNone.ne_none_int (fin_bl I q (by simp))
    | str j => obtain ⟨t', rfl⟩ := ry; exact PySem.EqNone.ne_none_str (fin_bl I q (by simp))
    | _ => exact absurd (show false = true from hs) Bool.false_ne_true
  | bl i =>
    cases rx
    cases y with
    | non => cases ry; exact PySem.EqNone.ne_bool_none (fin_bl I q (by simp))
    | bl j => cases ry; exact ne_bool (fin_bl I q (congrArg not dec_bl))
    | str j => obtain ⟨t', rfl⟩ := ry; exact PySem.EqMixed.ne_bool_str (fin_bl I q (by simp))
    | _ => exact absurd (show false = true from hs) Bool.false_ne_true
  | int i =>
    obtain ⟨t, rfl⟩ := rx
    cases y with
    | non => cases ry; exact PySem.EqNone.ne_int_none (fin_bl I q (by simp))
    | int j => obtain ⟨t', rfl⟩ := ry; exact ne_int (fin_bl I q (congrArg not dec_int))
    | str j => obtain ⟨t', rfl⟩ := ry; exact PySem.EqMixed.ne_int_str (fin_bl I q (by simp))
    | _ => exact absurd (show false = true from hs) Bool.false_ne_true
  | str i =>
    obtain ⟨t, rfl⟩ := rx
    cases y with
    | non => cases ry; exact PySem.EqNone.ne_str_none (fin_bl I q (by simp))
    | bl j => cases ry; exact PySem.EqMixed.ne_str_bool (fin_bl I q (by simp))
    | int j => obtain ⟨t', rfl⟩ := ry; exact PySem.EqMixed.ne_str_int (fin_bl I q (by simp))
    | str j => obtain ⟨t', rfl⟩ := ry; exact ne_str (fin_bl I q (congrArg not dec_str))
    | _ => exact absurd (show false = true from hs) Bool.false_ne_true
  | byt i =>
    obtain ⟨t, rfl⟩ := rx
    cases y with
    | byt j => obtain ⟨t', rfl⟩ := ry; exact PySem.W.ne_bytes (fin_bl I q (congrArg not dec_byt))
    | _ => exact absurd (show false = true from hs) Bool.false_ne_true
  | _ => cases y <;> exact absurd (show false = true from hs) Bool.false_ne_true

theorem op_lt : OpR X (compareOp .Lt) (rI0 fun i j => .bl (decide (i < j))) := opB0 fun _ _ _ _ _ _ _ q => lt_int q
theorem op_gt : OpR X (compareOp .Gt) (rI0 fun i j => .bl (decide (j < i))) := opB0 fun _ _ _ _ _ _ _ q => gt_int q
theorem op_notin_str : OpR X (compareOp .NotIn) (fun x y H Q => ∃ i j, x = .str i ∧ y = .str j ∧ Q (.bl (!(!(Builtin.Str.occurrences j i 0 j.length 1).isEmpty))) H) := by
  intro pins s σ H x y v u Q I rx ry h
  obtain ⟨i, j, rfl, rfl, q⟩ := h
  obtain ⟨t, rfl⟩ := rx
  obtain ⟨t', rfl⟩ := ry
  exact notIn_str (fin_bl I q rfl)
theorem nomark (b : Expr) {op : CmpOp} (h : op ≠ .In := by decide) (h2 : op ≠ .NotIn := by decide) : behindInMarks op b = false := by
  have e1 : (op == CmpOp.In) = false := by cases op <;> first | rfl | exact absurd rfl h
  have e2 : (op == CmpOp.NotIn) = false := by cases op <;> first | rfl | exact absurd rfl h2
  cases b <;> simp [behindInMarks, e1, e2]
/-- a reading of a value as a test -/
def tTest (t : TE) : TT := fun σ H Q => t σ H fun x H' => ∃ k, x = .bl k ∧ Q k H'
theorem pt_cmpR {op : CmpOp} {r : R2} (ho : OpR X (compareOp op) r) (ha : PE X a ta) (hb : PE X b tb) (hm : behindInMarks op b = false) : PT X (.Compare a [op] [b] pos) (tTest (tOp r ta tb)) := by
  intro pins s σ H Q I h
  refine wpAny_isTrue_Compare1 (thn (ha pins s σ H _ I h) fun v s1 ⟨x, H1, I1, r1, q1⟩ => thn (hb pins s1 σ H1 _ I1 q1) fun u s2 ⟨y, H2, I2, r2, q2⟩ =>
    thn (ho pins s2 σ H2 x y v u _ I2 r1 r2 q2) fun c s3 ⟨z, H3, I3, r3, k, e, q3⟩ => ?_) hm
  subst e
  cases r3
  exact wpAny_truthy_bool ⟨H3, I3, q3⟩
/-! ### truth -/
theorem line63 : (sizeLine : Nat) < 2 ^ 63 := by rw [sizeLine_eq]; decide
/-! ### strs and bytes -/
theorem op_add_str : OpR X (binaryOp .Add) (fun x y H Q => ∃ i j, x = .str i ∧ y = .str j ∧ i.length + j.length ≤ sizeLine ∧ Q (.str (i ++ j)) H) := by
  intro pins s σ H x y v u Q I rx ry h
  obtain ⟨i, j, rfl, rfl, hz, q⟩ := h
  obtain ⟨t, rfl⟩ := rx
  obtain ⟨t', rfl⟩ := ry
  exact add_str (fun t' tk => ⟨.str (i ++ j), H, I.tok _, ⟨_, rfl⟩, q⟩) hz
/-! ### scalar builtins, by CallR -/
theorem vals1 {x : V} {us : List Value} (r : Vals [x] us) : ∃ u, us = [u] ∧ RelV x u := by
  cases r with
  | cons r1 r2 => cases r2; exact ⟨_, rfl, r1⟩
theorem call_str_int : CallR X (.type "str") (fun xs H Q => ∃ i, xs = [.int i] ∧ i.natAbs.log2 < 1920 ∧ Q (.str (toString i)) H) := by
  intro pins s σ H xs us Q I r h
  obtain ⟨i, rfl, hz, q⟩ := h
  obtain ⟨u, rfl, t, rfl⟩ := vals1 r
  exact PySem.P.str_of_int hz ⟨.str _, H, I.tok _, ⟨_, rfl⟩, q⟩
end
end L2

namespace L2
open PySem PySem.Spec PyProof.Rows

/-! ### an instance, its attributes a map -/
structure ObjM (h : Heap) (x dx C : Addr) (mA : Str → Option Value) : Prop where
  obj : h.get? x = some (PySem.W.instObj C dx)
  ns : h.Ns1 dx mA
  ne : dx ≠ x

theorem lookIn_ns {h : Heap} {dx : Addr} {mA : Str → Option Value} (n : h.Ns1 dx mA) : ∃ od, h.get? dx = some od ∧ ∀ name, PySem.W.lookIn name od = some (mA name) := by
  obtain ⟨o, es, ep, ho, hd, hk, _, hm⟩ := n
  refine ⟨o, ho, fun name => ?_⟩
  have e := hm name
  unfold nsFind findBy at e
  rw [← Array.find?_toList] at e
  unfold PySem.W.lookIn
  rw [hd]
  dsimp only
  split
  · rename_i y q
    rw [q] at e
    exact congrArg some e
  · rename_i q
    rw [q] at e
    have a : es.toList.any (·.refKey) = false := by
      rw [List.any_eq_false]
      intro y hy
      obtain ⟨z, t, hkey⟩ := hk y (Array.mem_toList_iff.mp hy)
      simp [DictEntry.refKey, hkey]
    have a' : ¬ es.toList.any (·.refKey) = true := by rw [a]; exact Bool.false_ne_true
    rw [if_neg a']
    exact congrArg some e

theorem ObjM.look {h : Heap} {x dx C : Addr} {mA : Str → Option Value} (I : ObjM h x dx C mA) : ∃ od, PySem.W.InstAt h x (PySem.W.instObj C dx) C (some od) ∧ ∀ name, PySem.W.lookIn name od = some (mA name) :=
  let ⟨od, ho, hl⟩ := lookIn_ns I.ns
  ⟨od, ⟨I.obj, rfl, rfl, ho⟩, hl⟩

section
variable {prog : Program} {w : World} {A : Around} {E : Value → Shared → Prop} {s : Shared} {K : PySem.W.Frag} {x dx C f : Addr} {mA : Str → Option Value} {name : Str} {v : Value}

theorem get_map {expr : Bool} {Q : Value → Shared → Prop} (X : K.In s.heap) (I : ObjM s.heap x dx C mA) (hg : PySem.W.plainGet K C name = true) (hh : PySem.W.hasDictIn K C = true)
    (ha : PySem.W.findIn K (.ref C) name = some none) (hv : mA name = some v) (hv' : PySem.W.handedIn v = true) (h : Q v { s with toks := s.toks + 1 }) :
    wpAny (model prog w) A (getAttr (.ref x) name expr) Q E s := by
  obtain ⟨od, J, hl⟩ := I.look
  exact PySem.W.get_value X J (PySem.W.plainGet_of hg).1 (PySem.W.findObj_own hh ha rfl (by rw [hl, hv])) hv' h

theorem get_meth {pl : Sem Bool} {Q : Value × List Value → Shared → Prop} (X : K.In s.heap) (I : ObjM s.heap x dx C mA) (hg : PySem.W.plainGet K C name = true)
    (hf : PySem.W.findIn K (.ref C) name = some (some (.ref f))) (ht : PySem.W.isFn K (.ref f) = true) (hv : mA name = none) (h : Q (.ref f, [.ref x]) s) :
    wpAny (model prog w) A (getMethod (.ref x) name pl) Q E s := by
  obtain ⟨od, J, hl⟩ := I.look
  exact PySem.W.method_fn X J (PySem.W.plainGet_of hg).1 (PySem.W.plainGet_of hg).2 hf (beq_iff_eq.mp ht) (by show (PySem.W.lookIn name od).map (·.isSome) = some false; rw [hl, hv]; rfl) h

theorem set_map {ns : List Str} {Q : Unit → Shared → Prop} (X : K.In s.heap) (I : ObjM s.heap x dx C mA)
    (hs : PySem.W.findIn K (.ref C) "__setattr__" = some (some (.builtin "object.__setattr__"))) (hp : PySem.W.plainOver K C = true) (ht : PySem.W.takerIn K C name = some none) (hh : PySem.W.hasDictIn K C = true)
    (hw : PySem.Within mA ns) (hsz : ns.length ≤ sizeLine)
    (h : ∀ h', ObjM h' x dx C (fun y => if y = name then some v else mA y) → Heap.SameBut dx s.heap h' → Q () { s with heap := h', toks := s.toks + 2 }) :
    wpAny (model prog w) A (setAttr (.ref x) name v) Q E s := by
  obtain ⟨od, J, hl⟩ := I.look
  refine PySem.W.set_plain X J hs (PySem.W.osa_open (s := { s with toks := s.toks + 1 }) (r := none) X J hp ht fun b => ?_)
  obtain ⟨cd, hc, hd'⟩ := PySem.W.any_some hh
  have hx : s.heap.get? x = some ⟨.ref C, some dx, .plain, #[]⟩ := I.obj
  refine wpAny_bind (wpAny_pure (wpAny_bind (wpAny_bind (wpAny_loadPart hx (wpAny_bind (PySem.W.Looks.here (s := { s with toks := s.toks + 1 }) (PySem.W.looks_clsIn X hc) ?_))))))
  rw [hd']
  refine wpAny_pure (a := some dx) (wpAny_bind (wpAny_pure (wpAny_bind ?_)))
  refine wpAny_nsSet1 (s := { s with toks := s.toks + 1 }) I.ns fun h' hn2 hs2 => ?_
  obtain ⟨oD, esD, epD, hoD, hdD, hcD⟩ := hn2.count (PySem.Within.cons name v hw)
  refine wpAny_bind (wpAny_lookBehind hoD (by rw [hdD]; exact pastItsLine_dict (Nat.le_trans hcD (by rw [List.length_cons]; omega))) ?_)
  exact wpAny_pure (h _ ⟨(hs2.2 _ (Ne.symm I.ne)).trans I.obj, hn2, I.ne⟩ hs2)

/-- C(..): the dict at the heap's end, the instance behind it; then its __init__ -/
theorem make_map {R : Result → Shared → Prop} {vs : List Value} {kw : List (Str × Value)} (X : K.In s.heap) (hm : PySem.W.makesIn K C = true)
    (hi : PySem.W.findIn K (.ref C) "__init__" = some (some (.ref f))) (hf : PySem.W.typeIn K (.ref f) = some (.type "function"))
    (h : codeAny (model prog w) (A.under (.builtin "type.__call__" ⟨.ref C :: vs, kw⟩)) (.call (.ref f) ⟨.ref (s.heap.objs.size + 1) :: vs, kw⟩) (PySem.W.InitBack (s.heap.objs.size + 1) R)
      { s with heap := (s.heap.push PySem.W.emptyDict).push (PySem.W.instObj C s.heap.objs.size) }) :
    codeAny (model prog w) A (.call (.ref C) ⟨vs, kw⟩) R s := by
  obtain ⟨hh, g, d, t, os⟩ := s
  exact PySem.W.make_core (PySem.W.makes_of X hm) (PySem.W.looks_findIn X hi) (fun self => PySem.W.bind_fn X self hf) (.inl rfl) h
end

/-! ### the attributes as a list of pairs -/
def putF (f : Str) (v : V) : List (Str × V) → List (Str × V)
  | [] => [(f, v)]
  | (g, x) :: r => if g = f then (g, v) :: r else (g, x) :: putF f v r
theorem lookup_putF (f g : Str) (v : V) : ∀ fs : List (Str × V), (putF f v fs).lookup g = if g = f then some v else fs.lookup g
  | [] => by
    show List.lookup g [(f, v)] = _
    by_cases h : g = f
    · have hb : (g == f) = true := beq_iff_eq.mpr h
      simp only [List.lookup, hb, if_pos h]
    · have hb : (g == f) = false := beq_eq_false_iff_ne.mpr h
      simp only [List.lookup, hb, if_neg h]
  | (k, x) :: r => by
    have ih := lookup_putF f g v r
    rw [show putF f v ((k, x) :: r) = (if k = f then (k, v) :: r else (k, x) :: putF f v r) from rfl]
    by_cases hk : k = f
    · rw [if_pos hk]
      by_cases h : g = k
      · have hb : (g == k) = true := beq_iff_eq.mpr h
        simp only [List.lookup, hb, if_pos (h.trans hk)]
      · have hb : (g == k) = false := beq_eq_false_iff_ne.mpr h
        simp only [List.lookup, hb, if_neg (fun e : g = f => h (e.trans hk.symm))]
    · rw [if_neg hk]
      by_cases h : g = k
      · have hb : (g == k) = true := beq_iff_eq.mpr h
        simp only [List.lookup, hb, if_neg (fun e : g = f => hk (h.symm.trans e))]
      · have hb : (g == k) = false := beq_eq_false_iff_ne.mpr h
        simp only [List.lookup, hb]
        exact ih
theorem keys_putF (f : Str) (v : V) : ∀ fs : List (Str × V), f ∈ (putF f v fs).map (·.1) ∧ ∀ g, g ∈ fs.map (·.1) → g ∈ (putF f v fs).map (·.1)
  | [] => ⟨by simp [putF], fun g h => by simp at h⟩
  | (k, x) :: r => by
    obtain ⟨i1, i2⟩ := keys_putF f v r
    rw [show putF f v ((k, x) :: r) = (if k = f then (k, v) :: r else (k, x) :: putF f v r) from rfl]
    by_cases hk : k = f
    · rw [if_pos hk]
      subst hk
      exact ⟨by simp, fun g h => by simpa using h⟩
    · rw [if_neg hk]
      refine ⟨?_, fun g h => ?_⟩
      · rw [List.map_cons]
        exact List.mem_cons_of_mem _ i1
      · rw [List.map_cons] at h ⊢
        rcases List.mem_cons.mp h with e | e
        · exact List.mem_cons.mpr (.inl e)
        · exact List.mem_cons_of_mem _ (i2 g e)
theorem length_putF (f : Str) (v : V) : ∀ fs : List (Str × V), (putF f v fs).length ≤ fs.length + 1
  | [] => by simp [putF]
  | (k, x) :: r => by
    have ih := length_putF f v r
    rw [show putF f v ((k, x) :: r) = (if k = f then (k, v) :: r else (k, x) :: putF f v r) from rfl]
    by_cases hk : k = f
    · rw [if_pos hk, List.length_cons, List.length_cons]; omega
    · rw [if_neg hk, List.length_cons, List.length_cons]; omega

theorem RelO.some_of {v : V} {o : Option Value} (r : RelO (some v) o) : ∃ u, o = some u ∧ RelV v u := by
  cases o with
  | none => exact (show False from r).elim
  | some u => exact ⟨u, rfl, r⟩
theorem RelO.none_of {o : Option Value} (r : RelO none o) : o = none := by
  cases o with
  | none => rfl
  | some u => exact (show False from r).elim
theorem handed_of {v : V} {u : Value} (r : RelV v u) : PySem.W.handedIn u = true := by
  cases v with
  | non => cases (show u = Value.none from r); rfl
  | bl b => cases (show u = Value.bool b from r); rfl
  | int i => obtain ⟨t, e⟩ := (show ∃ t, u = Value.int i t from r); cases e; rfl
  | str x => obtain ⟨t, e⟩ := (show ∃ t, u = Value.str x t from r); cases e; rfl
  | byt b => obtain ⟨t, e⟩ := (show ∃ t, u = Value.bytes b t from r); cases e; rfl
  | flt b => obtain ⟨t, e⟩ := (show ∃ t, u = Value.float b t from r); cases e; rfl
  | ref a => cases (show u = Value.ref a from r); rfl
  | ty n => cases (show u = Value.type n from r); rfl

section
variable {P : Program} {w : World} {H H' : Hp} {h h' : Heap} {a C dx : Addr} {fs fs' : List (Str × V)}
theorem ins_get (hok : HOk P w H h) (e : H a = some (.ins C dx fs)) : ∃ mA, ObjM h a dx C mA ∧ (∀ f, RelO (fs.lookup f) (mA f)) ∧ PySem.Within mA (fs.map (·.1)) ∧ fs.length ≤ 1000 ∧ H dx = some (.own a) := by
  obtain ⟨d, z, ne, ob, mA, n, r, q⟩ := (show ObjOk P w H h a (.ins C dx fs) from hok a _ e)
  exact ⟨mA, ⟨ob, n, ne⟩, r, q, z, d⟩
end

/-! ### what of the text a class must have -/
structure Cls (K : PySem.W.Frag) (C : Addr) : Prop where
  pg : PySem.W.plainGet K C Str.empty = true
  hd : PySem.W.hasDictIn K C = true
  po : PySem.W.plainOver K C = true
  sa : PySem.W.findIn K (.ref C) "__setattr__" = some (some (.builtin "object.__setattr__"))
theorem Cls.get {K : PySem.W.Frag} {C : Addr} (c : Cls K C) (f : Str) : PySem.W.plainGet K C f = true := c.pg
/-- no class of it has the name -/
def NoAttr (K : PySem.W.Frag) (C : Addr) (f : Str) : Prop := PySem.W.findIn K (.ref C) f = some none
theorem NoAttr.taker {K : PySem.W.Frag} {C : Addr} {f : Str} (n : NoAttr K C f) : PySem.W.takerIn K C f = some none := by
  unfold PySem.W.takerIn
  rw [show PySem.W.findIn K (.ref C) f = some none from n]
  rfl
/-- a method: a plain def of the class or of one above it -/
structure Meth (K : PySem.W.Frag) (C : Addr) (m : Str) (f : Addr) : Prop where
  at_ : PySem.W.findIn K (.ref C) m = some (some (.ref f))
  fn : PySem.W.isFn K (.ref f) = true
  kp : PySem.W.keepIn K (.ref f) = true

section
variable {X : Cx} {pins : List (Addr × Obj)} {σ : St} {H : Hp} {s : Shared} {a C dx : Addr} {fs : List (Str × V)} {f : Str} {v : V} {A : Around} {E : Value → Shared → Prop}

theorem getattr_ok {b : Bool} {Q : Value → Shared → Prop} (I : Inv X pins σ H s) (e : H a = some (.ins C dx fs)) (c : Cls X.K C) (n : NoAttr X.K C f) (l : fs.lookup f = some v)
    (h : ∀ u s', Inv X pins σ H s' → RelV v u → Q u s') : wpAny (model X.prog X.w) A (getAttr (.ref a) f b) Q E s := by
  obtain ⟨mA, O, r, _, _, _⟩ := ins_get I.hok e
  obtain ⟨u, hu, ru⟩ := RelO.some_of (v := v) (o := mA f) (by rw [← l]; exact r f)
  exact get_map I.kIn O (c.get f) c.hd n hu (handed_of ru) (h u _ (I.tok _) ru)

theorem getmeth_ok {m : Str} {g : Addr} {pl : Sem Bool} {Q : Value × List Value → Shared → Prop} (I : Inv X pins σ H s) (e : H a = some (.ins C dx fs)) (c : Cls X.K C) (k : Meth X.K C m g) (l : fs.lookup m = none)
    (h : Q (.ref g, [.ref a]) s) : wpAny (model X.prog X.w) A (getMethod (.ref a) m pl) Q E s := by
  obtain ⟨mA, O, r, _, _, _⟩ := ins_get I.hok e
  have hn : mA m = none := RelO.none_of (by rw [← l]; exact r m)
  exact get_meth I.kIn O (c.get m) k.at_ k.fn hn h

theorem setattr_ok {y : V} {u : Value} {Q : Unit → Shared → Prop} (I : Inv X pins σ H s) (e : H a = some (.ins C dx fs)) (c : Cls X.K C) (n : NoAttr X.K C f) (hl : fs.length < 1000) (ry : RelV y u)
    (h : ∀ s', Inv X pins σ (upd H a (.ins C dx (putF f y fs))) s' → Q () s') : wpAny (model X.prog X.w) A (setAttr (.ref a) f u) Q E s := by
  obtain ⟨mA, O, r, wi, _, ho⟩ := ins_get I.hok e
  have hz : (fs.map (·.1)).length ≤ sizeLine := by rw [List.length_map, sizeLine_eq]; omega
  refine set_map I.kIn O c.sa c.po n.taker c.hd wi hz fun h' O' sb => h _ ?_
  have hd : ∃ o, h'.get? dx = some o := let ⟨o, _, _, e', _⟩ := O'.ns; ⟨o, e'⟩
  refine I.write (x := a) (e := dx) (by rw [e]; exact True.intro) (.inr ho) (fun b q hb z => (sb.2 b hb).trans z) hd ?_
  refine ⟨by rw [upd_ne O.ne]; exact ho, ?_, O.ne, O'.obj, _, O'.ns, fun g => ?_, fun g hg => ?_⟩
  · have := length_putF f y fs; omega
  · show RelO ((putF f y fs).lookup g) (if g = f then some u else mA g)
    rw [lookup_putF]
    by_cases q : g = f
    · rw [if_pos q, if_pos q]; exact ry
    · rw [if_neg q, if_neg q]; exact r g
  · by_cases q : g = f
    · rw [q]; exact (keys_putF f y fs).1
    · refine (keys_putF f y fs).2 g (wi g fun z => hg ?_)
      show (if g = f then some u else mA g) = none
      rw [if_neg q]; exact z

/-- a new instance, tracked, without attributes -/
theorem Inv.made (I : Inv X pins σ H s) : Inv X pins σ (upd (upd H s.heap.objs.size (.own (s.heap.objs.size + 1))) (s.heap.objs.size + 1) (.ins C s.heap.objs.size []))
    { s with heap := (s.heap.push PySem.W.emptyDict).push (PySem.W.instObj C s.heap.objs.size) } := by
  have e1 : (s.heap.push PySem.W.emptyDict).get? s.heap.objs.size = some PySem.W.emptyDict := Heap.get?_push_size s.heap rfl
  have e2 : ((s.heap.push PySem.W.emptyDict).push (PySem.W.instObj C s.heap.objs.size)).get? (s.heap.objs.size + 1) = some (PySem.W.instObj C s.heap.objs.size) := by
    have := Heap.get?_push_size (s.heap.push PySem.W.emptyDict) (o := PySem.W.instObj C s.heap.objs.size) rfl
    rwa [Heap.size_push] at this
  have e3 : (s.heap.push PySem.W.emptyDict).Ns s.heap.objs.size (fun _ => none) := ⟨PySem.W.emptyDict, #[], _, e1, rfl, (fun e he => absurd he (by simp)), fun _ => rfl⟩
  have I1 := I.laid (a := s.heap.objs.size) (o := .own (s.heap.objs.size + 1)) (h' := s.heap.push PySem.W.emptyDict) (t' := s.toks) (fun b u q => Heap.get?_push_of_some _ q) (Nat.le_refl _) ⟨_, e1⟩
  refine I1.laid (a := s.heap.objs.size + 1) (o := .ins C s.heap.objs.size []) (t' := s.toks) (fun b u q => Heap.get?_push_of_some _ q) (Nat.le_of_eq (Heap.size_push _ _)) ?_
  have ne : s.heap.objs.size ≠ s.heap.objs.size + 1 := Nat.ne_of_lt (Nat.lt_succ_self _)
  refine ⟨by rw [upd_ne ne, upd_same], Nat.zero_le _, ne, e2, fun _ => none, (Heap.Ns1.of_empty e3).at fun o q => Heap.get?_push_of_some _ q, fun _ => True.intro, fun y hy => absurd rfl hy⟩

/-- e.f where nothing but the object is asked: through attributeBase (super) and the last hold -/
theorem attr_of {prog : Program} {w : World} {env : Env} {e : Expr} {f : Str} {pos : Pos} {s : Shared} {Q : Value → Shared → Prop} (hb : attributeBase e f env (eval e env) = eval e env)
    (h : wpAny (model prog w) A (eval e env) (fun o s₁ => wpAny (model prog w) A (getAttr o f true) Q E s₁) E s) : wpAny (model prog w) A (eval (.Attribute e f pos) env) Q E s :=
  Attribute_any_ h (by rw [arm_eval_Attribute, hb])
end

/-! ### readings and rules -/
/-- e.f, an attribute of the instance -/
def tFld (K : PySem.W.Frag) (ta : TE) (f : Str) : TE := fun σ H Q => ta σ H fun x H1 => ∃ a C dx fs v, x = .ref a ∧ H1 a = some (.ins C dx fs) ∧ Cls K C ∧ NoAttr K C f ∧ fs.lookup f = some v ∧ Q v H1
/-- e.f = value -/
def sFld (K : PySem.W.Frag) (ta tv : TE) (f : Str) : TS := fun D σ H => tv σ H fun y H1 => ta σ H1 fun x H2 => ∃ a C dx fs, x = .ref a ∧ H2 a = some (.ins C dx fs) ∧ Cls K C ∧ NoAttr K C f ∧ fs.length < 1000 ∧
  D.nx σ (upd H2 a (.ins C dx (putF f y fs)))
section
variable {X : Cx} {o e value : Expr} {f : Str} {pos pos' tpos : Pos} {ta tv : TE}
theorem pe_fld (he : PE X e ta) (hb : attributeBase e f X.env (eval e X.env) = eval e X.env) : PE X (.Attribute e f pos) (tFld X.K ta f) := by
  intro pins s σ H Q I h
  refine attr_of hb (thn (he pins s σ H _ I h) fun u s1 ⟨x, H1, I1, rx, a, C, dx, fs, v, ex, ea, c, n, l, q⟩ => ?_)
  subst ex
  obtain rfl : u = Value.ref a := rx
  exact getattr_ok I1 ea c n l fun u' s2 I2 ru => ⟨v, H1, I2, ru, q⟩
theorem ps_fld (ha : PE X o ta) (hv : PE X value tv) (hs : swapsWith value (some (.Attribute o f pos')) pos.line X.env = pure false) : PS X (.Assign [.Attribute o f pos'] value pos) (sFld X.K ta tv f) := by
  intro pins s σ H D I h
  refine plainObj_wpAny_Assign_Attribute (thn (hv pins s σ H _ I h) fun u s1 ⟨y, H1, I1, ry, q⟩ => thn (ha pins s1 σ H1 _ I1 q) fun ov s2 ⟨x, H2, I2, rx, a, C, dx, fs, ex, ea, c, n, l, q2⟩ => ?_) hs
  subst ex
  obtain rfl : ov = Value.ref a := rx
  exact setattr_ok I2 ea c n l ry fun s3 I3 => ⟨σ, _, I3, q2⟩
end

/-! ### isinstance -/
section
variable {X : Cx} {pins : List (Addr × Obj)} {σ : St} {H : Hp} {s : Shared} {A : Around} {E : Value → Shared → Prop} {Q : Value → Shared → Prop} {c : Value} {b : Bool}
end
end L2

namespace L2
open PySem PySem.Spec PyProof.Rows

/-! ### room -/
structure Room (k : Nat) (A : Around) : Prop where
  hd : A.handled = none
  dp : A.depth + 3 * k + 5 < recursionLimit
  un : A.units + 16 * k + 200 < cLine
theorem Room.mono {j k : Nat} {A : Around} (r : Room k A) (h : j ≤ k) : Room j A := ⟨r.hd, by have := r.dp; omega, by have := r.un; omega⟩
theorem Room.deeper {k : Nat} {A : Around} (r : Room (k + 1) A) (env : Env) : Room k (A.deeper env) :=
  ⟨r.hd, by have := r.dp; show A.depth + 1 + 3 * k + 5 < _; omega, by have := r.un; show A.units + 3 + 16 * k + 200 < _; omega⟩
theorem make_depth {A : Around} {C : Addr} {us : List Value} {kw : List (Str × Value)} : (A.under (.builtin "type.__call__" ⟨.ref C :: us, kw⟩)).depth = A.depth + 1 := by
  first | rfl | simp [Around.under, Code.weight, Code.isCreation, Code.isGuard, Code.isCaller, Code.frames, Code.isFrame, guardIds]
theorem make_units {A : Around} {C : Addr} {us : List Value} {kw : List (Str × Value)} : (A.under (.builtin "type.__call__" ⟨.ref C :: us, kw⟩)).units = A.units + 1 := by
  first | rfl | simp [Around.under, Code.cUnits, Code.frames, Code.isFrame]
theorem Room.make {k : Nat} {A : Around} (r : Room (k + 1) A) (C : Addr) (us : List Value) (kw : List (Str × Value)) : Room k (A.under (.builtin "type.__call__" ⟨.ref C :: us, kw⟩)) :=
  ⟨r.hd, by have := r.dp; rw [make_depth]; omega, by have := r.un; rw [make_units]; omega⟩
theorem Room.depth {k : Nat} {A : Around} (r : Room k A) : A.depth < recursionLimit := by have := r.dp; omega
theorem Room.units {k : Nat} {A : Around} (r : Room k A) : A.units + 64 < cLine := by have := r.un; omega
theorem Room.units0 {k : Nat} {A : Around} (r : Room k A) : A.units < cLine := by have := r.un; omega

/-! ### argument lists and displays -/
def tNil : TA := fun _ H Q => Q [] H
def tCons (ta : TE) (tr : TA) : TA := fun σ H Q => ta σ H fun x H1 => tr σ H1 fun xs H2 => Q (x :: xs) H2
section
variable {X : Cx} {e : Expr} {es : List Expr} {te : TE} {t : TA} {pos : Pos}
theorem pa_nil : PA X [] tNil := fun _ _ _ _ H Q I h => Calls.spliced_nil ⟨[], H, I, .nil, h⟩
theorem pa_cons (ha : PE X e te) (hr : PA X es t) (hs : starEach (e :: es) X.env = (false, eval e X.env) :: starEach es X.env := by rfl) : PA X (e :: es) (tCons te t) := by
  intro pos pins s σ H Q I h
  rw [hs]
  show wpAny _ _ (spliced ((false, eval e X.env) :: backTo pos (starEach es X.env))) _ _ s
  refine Calls.spliced_cons (thn (ha pins s σ H _ I h) fun u s1 ⟨x, H1, I1, r1, q1⟩ => ?_)
  exact thn (hr pos pins s1 σ H1 _ I1 q1) fun us s2 ⟨xs, H2, I2, r2, q2⟩ => ⟨x :: xs, H2, I2, .cons r1 r2, q2⟩

/-- a tuple, a list of written items -/
def tTup (t : TA) : TE := fun σ H Q => t σ H fun xs H1 => xs.length ≤ sizeLine ∧ ∀ p, H1 p = none → Q (.ref p) (upd H1 p (.tup xs))
def tLst (t : TA) : TE := fun σ H Q => t σ H fun xs H1 => xs.length ≤ sizeLine ∧ ∀ p, H1 p = none → Q (.ref p) (upd H1 p (.lst xs))
theorem pe_tup {x1} (h : PA X es t) : PE X (.Tuple es x1 pos) (tTup t) := by
  intro pins s σ H Q I hq
  refine wpAny_Tuple_spliced (thn (h pos pins s σ H _ I hq) fun us s1 ⟨xs, H1, I1, r, z, q⟩ => ⟨by rw [← r.length]; exact z, ?_⟩)
  have hf : H1 s1.heap.objs.size = none := I1.hok.fresh (Nat.le_refl _)
  refine ⟨.ref s1.heap.objs.size, upd H1 s1.heap.objs.size (.tup xs), I1.laid (t' := s1.toks) (fun b u e => Heap.get?_push_of_some _ e) (Nat.le_refl _) ?_, rfl, q _ hf⟩
  exact ⟨z, us, r, ⟨_, Heap.get?_push_size _ rfl, rfl, _, rfl⟩⟩
theorem pe_lst (h : PA X es t) : PE X (.List es pos) (tLst t) := by
  intro pins s σ H Q I hq
  refine wpAny_List_spliced (thn (h pos pins s σ H _ I hq) fun us s1 ⟨xs, H1, I1, r, z, q⟩ => ⟨by rw [← r.length]; exact z, ?_⟩)
  have hf : H1 s1.heap.objs.size = none := I1.hok.fresh (Nat.le_refl _)
  refine ⟨.ref s1.heap.objs.size, upd H1 s1.heap.objs.size (.lst xs), I1.laid (t' := s1.toks) (fun b u e => Heap.get?_push_of_some _ e) (Nat.le_refl _) ?_, rfl, q _ hf⟩
  exact ⟨z, us, 0, r, Heap.get?_push_size _ rfl⟩
end

/-! ### what a def promises -/
/-- a def's promise: the bound arguments in the parameters' order, the heap, the wanted end, the wanted exception -/
abbrev Sp := List V → Hp → VK → XK → Prop
/-- how an exception lies behind a call (file 08 gives it): the callers' frames, abstract heap and state ahead of the call, the wish, the exception, the state -/
abbrev CXT := List Env → Hp → Shared → XK → Value → Shared → Prop

/-- the state at a call -/
structure Env0 (P : Program) (w : World) (K : PySem.W.Frag) (mg : Str → Option Value) (base : Heap) (A : Around) (outer : List Env) (s : Shared) (H : Hp) : Prop where
  frames : A.frames = some outer
  mod : Mod K mg base
  bs : ∀ b o, base.get? b = some o → s.heap.get? b = some o ∧ H b = none
  bsz : base.objs.size ≤ s.heap.objs.size
  funs : s.heap.FunFrames base outer
  frf : ∀ b ∈ frs outer, H b = none
  hok : HOk P w H s.heap
  bare : AllBare s.gens
/-- a call's end -/
def CE (outer : List Env) (P : Program) (w : World) (H : Hp) (s : Shared) (Q : VK) (u : Value) (s' : Shared) : Prop :=
  ∃ v H', s'.os = s.os ∧ AllBare s'.gens ∧ Un (frs outer) [] H H' s.heap s'.heap ∧ HOk P w H' s'.heap ∧ RelV v u ∧ Q v H'
def CR (CX : CXT) (outer : List Env) (P : Program) (w : World) (H : Hp) (s : Shared) (Q : VK) (E : XK) (r : Result) (s' : Shared) : Prop :=
  match r with
  | .ok (.ret u) => CE outer P w H s Q u s'
  | .ok _ => False
  | .error e => CX outer H s E e s'
structure FnOk (P : Program) (w : World) (K : PySem.W.Frag) (mg : Str → Option Value) (base : Heap) (CX : CXT) (k : Nat) (f : Addr) (fd : FuncData) (ps : List Str) (sp : Sp) : Prop where
  len : ∀ vs H Q E, sp vs H Q E → vs.length = ps.length
  run : ∀ (A : Around) (outer : List Env) (s : Shared) (H : Hp) (args : Args) (us : List Value) (vs : List V) (Q : VK) (E : XK), Room k A → Env0 P w K mg base A outer s H → BindsTo s fd args (ps.zip us) → Vals vs us → sp vs H Q E →
    codeAny (model P w) A (.call (.ref f) args) (CR CX outer P w H s Q E) s
theorem Env0.make {P : Program} {w : World} {K : PySem.W.Frag} {mg : Str → Option Value} {base : Heap} {A : Around} {outer : List Env} {s : Shared} {H : Hp} (e : Env0 P w K mg base A outer s H) (C : Addr) (us : List Value) (kw : List (Str × Value)) :
    Env0 P w K mg base (A.under (.builtin "type.__call__" ⟨.ref C :: us, kw⟩)) outer s H := ⟨by first | exact e.frames | (simpa [Around.under, Code.envs, Code.isFrame, pushEnvs] using e.frames), e.mod, e.bs, e.bsz, e.funs, e.frf, e.hok, e.bare⟩
section
variable {X : Cx} {pins : List (Addr × Obj)} {σ : St} {H : Hp} {s s' : Shared}
/-- from a body: what a callee wants -/
theorem Inv.env0 (I : Inv X pins σ H s) : Env0 X.prog X.w X.K X.mg X.base X.A X.stack s H :=
  ⟨I.ok.frames, I.ok.mod, I.bs, Nat.le_trans I.ok.bsz I.sz, I.stack, I.stkFree, I.hok, I.bare⟩
/-- behind a call -/
theorem Inv.after {Q : VK} {u : Value} (I : Inv X pins σ H s) (h : CE X.stack X.prog X.w H s Q u s') : EP X pins σ Q u s' := by
  obtain ⟨v, H', os, bare, un, hok, r, q⟩ := h
  obtain ⟨hh, g, d, t, os'⟩ := s'
  obtain rfl : os' = s.os := os
  exact ⟨v, H', I.call (h' := hh) (g' := g) (d' := d) (t' := t) (ch := []) un hok bare (fun b z => absurd z (by simp)), r, q⟩
end

/-! ### calls -/
/-- f(..): the written arguments, then the defaults dvs; E: what is wanted of an exception -/
def tCall (sp : Sp) (dvs : List V) (E : XK) (t : TA) : TE := fun σ H Q => t σ H fun vs H1 => sp (vs ++ dvs) H1 Q E
/-- o.m(..) of an instance of the class at C -/
def tMeth (C : Addr) (m : Str) (sp : Sp) (dvs : List V) (E : XK) (ta : TE) (t : TA) : TE := fun σ H Q => ta σ H fun x H1 => ∃ a dx fs, x = .ref a ∧ H1 a = some (.ins C dx fs) ∧ fs.lookup m = none ∧
  t σ H1 fun vs H2 => sp (x :: (vs ++ dvs)) H2 Q E
/-- how the parameters are bound: us the positional arguments, kw the keywords' values by name, ds the defaults that fill up -/
def Binds (K : PySem.W.Frag) (fd : FuncData) (ps : List Str) (ds : List Value) : Prop :=
  ∀ (s : Shared) (us : List Value), K.In s.heap → (us ++ ds).length = ps.length → BindsTo s fd ⟨us, []⟩ (ps.zip (us ++ ds))
/-- every parameter is given -/
theorem Binds.all {K : PySem.W.Frag} {fd : FuncData} {ps : List Str} (h : ∀ us : List Value, us.length = ps.length → bindArgs fd ⟨us, []⟩ = pure (ps.zip us)) : Binds K fd ps [] := fun s us _ hl => by
  rw [List.append_nil] at hl ⊢
  exact .of_eq (h us hl)

/-- an exception of a callee reaches what this body wants of exceptions -/
def Passes (CX : CXT) (X : Cx) (E : XK) : Prop := ∀ (pins : List (Addr × Obj)) (σ : St) (H : Hp) (s : Shared) (e : Value) (s' : Shared), Inv X pins σ H s → CX X.stack H s E e s' → X.xe e s'

section
variable {X : Cx} {CX : CXT} {k : Nat} {f C : Addr} {fd : FuncData} {ps : List Str} {sp : Sp} {dvs : List V} {ds : List Value} {E : XK} {x m : Str} {p pos apos : Pos} {e o : Expr} {es : List Expr} {ta : TE} {t : TA}

/-- the callee runs -/
theorem run_fn {pins : List (Addr × Obj)} {σ : St} {H : Hp} {s : Shared} {Q : VK} {us : List Value} {vs : List V} (F : FnOk X.prog X.w X.K X.mg X.base CX k f fd ps sp) (hr : Room k X.A) (hb : Binds X.K fd ps ds) (hd : Vals dvs ds) (hx : Passes CX X E)
    (I : Inv X pins σ H s) (r : Vals vs us) (h : sp (vs ++ dvs) H Q E) : wpAny (model X.prog X.w) X.A (call (.ref f) us) (EP X pins σ Q) X.xe s := by
  have r2 : Vals (vs ++ dvs) (us ++ ds) := r.append hd
  have hl : (us ++ ds).length = ps.length := by rw [← r2.length]; exact F.len _ _ _ _ h
  refine wpAny_call (codeAny_mono (F.run X.A X.stack s H ⟨us, []⟩ (us ++ ds) (vs ++ dvs) Q E hr I.env0 (hb s us I.kIn hl) r2 h) fun r s' hq => ?_)
  cases r with
  | error e => exact hx pins σ H s e s' I hq
  | ok fl =>
    cases fl with
    | ret u => exact I.after hq
    | next => exact False.elim hq
    | brk => exact False.elim hq
    | cont => exact False.elim hq

theorem pe_call (F : FnOk X.prog X.w X.K X.mg X.base CX k f fd ps sp) (hr : Room k X.A) (hg : Gl X x) (hm : X.mg x = some (.ref f)) (hk : PySem.W.keepIn X.K (.ref f) = true) (hb : Binds X.K fd ps ds) (hd : Vals dvs ds) (hx : Passes CX X E)
    (ha : PA X (e :: es) t) (hdb : (x == ("__debug__" : Str)) = false := by decide) (he : starEach (e :: es) X.env = (false, eval e X.env) :: starEach es X.env := by rfl) (hpl : (backTo pos (starEach es X.env)).any (·.1) = false := by rfl) :
    PE X (.Call (.Name x p) (e :: es) [] pos) (tCall sp dvs E t) := by
  intro pins s σ H Q I h
  refine wpAny_Call_Name_kw (ld_glob I hg hm ?_ hdb)
  refine PySem.W.callWith_K (h₀ := X.base) I.ok.mod.kin hk (thn (ha pos pins s σ H _ I h) fun us s1 ⟨vs, H1, I1, r, q⟩ => ⟨I1.kIn, ?_⟩) he hpl
  exact run_fn F hr hb hd hx I1 r q
/-- o.m(e, ..) -/
theorem pe_meth {pl : Sem Bool} (he : PE X o ta) (c : Cls X.K C) (hm : Meth X.K C m f) (F : FnOk X.prog X.w X.K X.mg X.base CX k f fd ps sp) (hr : Room k X.A) (hb : Binds X.K fd ps ds) (hd : Vals dvs ds) (hx : Passes CX X E) (ha : PA X (e :: es) t)
    (hst : starEach (e :: es) X.env = (false, eval e X.env) :: starEach es X.env := by rfl) (hpl : (backTo pos (starEach es X.env)).any (·.1) = false := by rfl)
    (ht : eval (.Call (.Attribute o m apos) (e :: es) [] pos) X.env = (do
      let ov ← eval o X.env
      standAt apos.atName
      let (f, first) ← holding [ov] (getMethod ov m pl)
      callWith pos f first (backTo pos (starEach (e :: es) X.env)) (backToKw pos (keywordEach [] X.env))) := by rfl) :
    PE X (.Call (.Attribute o m apos) (e :: es) [] pos) (tMeth C m sp dvs E ta t) := by
  intro pins s σ H Q I h
  refine PySem.W.methodCall_KW (pl := pl) (thn (he pins s σ H _ I h) fun u s1 ⟨x, H1, I1, rx, a, dx, fs, ex, ea, l, q⟩ => ?_) ht
  subst ex
  obtain rfl : u = Value.ref a := rx
  refine getmeth_ok I1 ea c hm l ?_
  refine PySem.W.callWith_K (first := [.ref a]) (h₀ := X.base) I.ok.mod.kin hm.kp (thn (ha pos pins s1 σ H1 _ I1 q) fun us s2 ⟨vs, H2, I2, r, q2⟩ => ⟨I2.kIn, ?_⟩) hst hpl
  exact run_fn (us := .ref a :: us) (vs := .ref a :: vs) F hr hb hd hx I2 (.cons rfl r) q2
/-- what a class must have to be made -/
structure Mk (K : PySem.W.Frag) (C f : Addr) : Prop where
  makes : PySem.W.makesIn K C = true
  init : PySem.W.findIn K (.ref C) "__init__" = some (some (.ref f))
  fn : PySem.W.isFn K (.ref f) = true
  kp : PySem.W.keepIn K (.ref C) = true

theorem run_make {pins : List (Addr × Obj)} {σ : St} {H : Hp} {s : Shared} {Q : VK} {us : List Value} {vs : List V} (M : Mk X.K C f) (F : FnOk X.prog X.w X.K X.mg X.base CX k f fd ps sp) (hr : Room (k + 1) X.A) (hb : Binds X.K fd ps ds) (hd : Vals dvs ds)
    (hx : Passes CX X E) (I : Inv X pins σ H s) (r : Vals vs us)
    (h : ∀ x dx, H x = none → H dx = none → dx ≠ x → sp (.ref x :: (vs ++ dvs)) (upd (upd H dx (.own x)) x (.ins C dx [])) (fun v H2 => v = .non ∧ Q (.ref x) H2) E) :
    wpAny (model X.prog X.w) X.A (call (.ref C) us) (EP X pins σ Q) X.xe s := by
  have hq := h (s.heap.objs.size + 1) s.heap.objs.size (I.hok.fresh (Nat.le_succ _)) (I.hok.fresh (Nat.le_refl _)) (Nat.ne_of_lt (Nat.lt_succ_self _))
  have I2 := Inv.made (C := C) I
  have r2 : Vals (V.ref (s.heap.objs.size + 1) :: (vs ++ dvs)) (Value.ref (s.heap.objs.size + 1) :: (us ++ ds)) := .cons rfl (r.append hd)
  have hl : (Value.ref (s.heap.objs.size + 1) :: us ++ ds).length = ps.length := by
    have e := r2.length
    rw [F.len _ _ _ _ hq] at e
    exact e.symm
  refine wpAny_call (make_map (f := f) I.kIn M.makes M.init (beq_iff_eq.mp M.fn) (codeAny_mono (F.run _ X.stack _ _ ⟨Value.ref (s.heap.objs.size + 1) :: us, []⟩ (Value.ref (s.heap.objs.size + 1) :: (us ++ ds)) _ _ E (hr.make C us [])
    (I2.env0.make C us []) (hb _ (Value.ref (s.heap.objs.size + 1) :: us) I2.kIn hl) r2 hq) fun r s' hq' => ?_))
  cases r with
  | error e => exact hx pins σ _ _ e s' I2 hq'
  | ok fl =>
    cases fl with
    | ret u =>
      obtain ⟨v, H', I3, rv, ev, q3⟩ := I2.after hq'
      subst ev
      exact ⟨rv, ⟨V.ref (s.heap.objs.size + 1), H', I3, rfl, q3⟩⟩
    | next => exact False.elim hq'
    | brk => exact False.elim hq'
    | cont => exact False.elim hq'
end

/-! ### keywords -/
section
variable {X : Cx} {CX : CXT} {k : Nat} {f C : Addr} {fd : FuncData} {ps ks : List Str} {sp : Sp} {E : XK} {x m : Str} {p pos apos kpos : Pos} {e o : Expr} {es : List Expr} {kws : List Keyword} {te ta : TE} {t tk : TA} {nm : Option Str}
variable {g : List Value → List Value → List Value} {gV : List V → List V → List V}
end

/-! ### a def's body keeps its promise -/
/-- names: the parameters first -/
structure FnScope (N P : List Str) (sc : Scope) : Prop where
  kind : sc.kind = .function
  co : sc.isCoroutine = false
  gen : sc.isGenerator = false
  nd : N.Nodup
  pre : N.take P.length = P
  par : ∀ x ∈ P, sc.names.lookup x = some .local ∨ sc.names.lookup x = some .cell
  nofree : ∀ y ∈ sc.names, y.2 ≠ .free

theorem bindL_out {kindOf : Str → Option NameKind} {x : Str} : ∀ {binds : List (Str × Value)} {m : Str → Option Value}, (∀ v, (x, v) ∉ binds) → bindL kindOf binds m x = m x
  | [], _, _ => rfl
  | (n, v) :: r, m, h => by
    unfold bindL
    rw [bindL_out fun w hw => h w (List.mem_cons_of_mem _ hw)]
    split
    · have : x ≠ n := by rintro rfl; exact h v List.mem_cons_self
      simp [this]
    · rfl
theorem bindC_out {kindOf : Str → Option NameKind} {x : Str} : ∀ {binds : List (Str × Value)} {m : Str → Option Value}, (∀ v, (x, v) ∉ binds) → bindC kindOf binds m x = m x
  | [], _, _ => rfl
  | (n, v) :: r, m, h => by
    unfold bindC
    rw [bindC_out fun w hw => h w (List.mem_cons_of_mem _ hw)]
    split
    · rfl
    · have : x ≠ n := by rintro rfl; exact h v List.mem_cons_self
      simp [this]
theorem bindL_get {kindOf : Str → Option NameKind} {x : Str} {v : Value} : ∀ {P : List Str} {vs : List Value} {i : Nat} {m : Str → Option Value}, P.Nodup → P[i]? = some x → vs[i]? = some v → kindOf x = some .local →
    bindL kindOf (P.zip vs) m x = some v
  | [], _, _, _, _, h, _, _ => by simp at h
  | _ :: _, [], _, _, _, _, h, _ => by simp at h
  | p :: P, w :: vs, 0, m, nd, h1, h2, hk => by
    simp at h1 h2; subst h1; subst h2
    show bindL kindOf ((p, w) :: P.zip vs) m p = _
    unfold bindL
    rw [bindL_out fun v hv => (List.nodup_cons.mp nd).1 (List.of_mem_zip hv).1, if_pos hk]
    simp
  | p :: P, w :: vs, i + 1, m, nd, h1, h2, hk => by
    show bindL kindOf ((p, w) :: P.zip vs) m x = _
    unfold bindL
    exact bindL_get (i := i) (List.nodup_cons.mp nd).2 (by simpa using h1) (by simpa using h2) hk
theorem bindC_get {kindOf : Str → Option NameKind} {x : Str} {v : Value} : ∀ {P : List Str} {vs : List Value} {i : Nat} {m : Str → Option Value}, P.Nodup → P[i]? = some x → vs[i]? = some v → kindOf x ≠ some .local →
    bindC kindOf (P.zip vs) m x = some v
  | [], _, _, _, _, h, _, _ => by simp at h
  | _ :: _, [], _, _, _, _, h, _ => by simp at h
  | p :: P, w :: vs, 0, m, nd, h1, h2, hk => by
    simp at h1 h2; subst h1; subst h2
    show bindC kindOf ((p, w) :: P.zip vs) m p = _
    unfold bindC
    rw [bindC_out fun v hv => (List.nodup_cons.mp nd).1 (List.of_mem_zip hv).1, if_neg hk]
    simp
  | p :: P, w :: vs, i + 1, m, nd, h1, h2, hk => by
    show bindC kindOf ((p, w) :: P.zip vs) m x = _
    unfold bindC
    exact bindC_get (i := i) (List.nodup_cons.mp nd).2 (by simpa using h1) (by simpa using h2) hk

/-- the names' values at the entry -/
def start (N : List Str) (vs : List V) : St := vs.map some ++ List.replicate (N.length - vs.length) none

/-- the context of a def's body, at its entry; an exception leaves the frame, then lies as CX says -/
def cxOf (CX : CXT) (P : Program) (w : World) (K : PySem.W.Frag) (mg : Str → Option Value) (base : Heap) (N : List Str) (qual : Str) (scope : Scope) (f : Addr) (cd : Value) (A : Around) (outer : List Env) (s : Shared) (H : Hp) (E : XK) : Cx where
  prog := P
  w := w
  K := K
  mg := mg
  base := base
  A := A.deeper (envOfC qual scope s.heap.objs.size f cd)
  N := N
  s₀ := s
  H₀ := H
  env := envOfC qual scope s.heap.objs.size f cd
  outer := outer
  stack := envOfC qual scope s.heap.objs.size f cd :: outer
  ex := []
  calm := true
  fn := fun _ => true
  pn := []
  xe := fun e s' => wpAny (model P w) (A.deeper (envOfC qual scope s.heap.objs.size f cd)) (leaving (envOfC qual scope s.heap.objs.size f cd) e) (fun _ s'' => CX outer H s E e s'') (fun e' s'' => CX outer H s E e' s'') s'

theorem cell_has {sc : Scope} {n : Nat} {x : Str} (h : sc.names.lookup x = some .cell) : ∃ c, (cellsFrom n sc.names []).lookup x = some c := by
  have q := PySem.W.cellsFrom_some sc.names n [] (.inl h)
  exact Option.isSome_iff_exists.mp q

theorem inv_start {CX : CXT} {P : Program} {w : World} {K : PySem.W.Frag} {mg : Str → Option Value} {base : Heap} {N ps : List Str} {qual : Str} {scope : Scope} {f : Addr} {cd : Value} {A : Around} {outer : List Env} {s s1 : Shared} {H : Hp} {E : XK} {us : List Value} {vs : List V}
    (S : FnScope N ps scope) (hd : A.handled = none) (e0 : Env0 P w K mg base A outer s H) (hl : vs.length = ps.length) (r : Vals vs us)
    (x : InCallC s s.heap.objs.size (bindL (envOfC qual scope s.heap.objs.size f cd).kindOf (ps.zip us) fun _ => none) (cellsFrom (s.heap.objs.size + 1) scope.names []) (bindC (envOfC qual scope s.heap.objs.size f cd).kindOf (ps.zip us) fun _ => none) s1) :
    Inv (cxOf CX P w K mg base N qual scope f cd A outer s H E) [] (start N vs) H s1 := by
  have hpl : ps.length ≤ N.length := by have := congrArg List.length S.pre; rw [List.length_take] at this; omega
  obtain ⟨h1, tk, rfl, hk⟩ := x.done
  have noA : ∀ b : Addr, b ∉ (cxOf CX P w K mg base N qual scope f cd A outer s H E).ex := fun b z => absurd (show b ∈ ([] : List Addr) from z) (by simp)
  refine ⟨⟨e0.mod, S.kind, rfl, rfl, Nat.le_refl _, fun y z c h1 h2 => ?_, fun y hy => ?_, fun y c _ h => ?_, fun _ => hd, Around.frames_deeper e0.frames, .inr ⟨rfl, rfl⟩, fun b z => absurd z (noA b), e0.bs, e0.bsz, fun b _ _ => noA b, fun b z => absurd z (noA b), e0.funs, e0.frf⟩,
    rfl, e0.bare, Un.kept hk, ⟨_, x.toInCall.ns, fun i y v h1 h2 h3 => ?_⟩, fun y c h => ⟨_, x.cell y c h⟩, e0.hok.fresh (Nat.le_refl _), fun y c h => ?_, fun p hp => absurd (show p ∈ ([] : List (Addr × Obj)) from hp) (by simp), e0.hok.kept hk, ?_⟩
  · exact name_of_addr x.apart (PySem.mem_of_lookup h1) (PySem.mem_of_lookup h2)
  · have hy : scope.names.lookup y = some .cell ∨ scope.names.lookup y = some .free := hy
    rcases hy with hy | hy
    · exact cell_has hy
    · exact absurd rfl (S.nofree _ (PySem.mem_of_lookup hy))
  · exact Nat.le_of_lt (x.above y c (PySem.mem_of_lookup h))
  · have hi : i < vs.length := by
      unfold start at h2
      by_cases hi : i < vs.length
      · exact hi
      · rw [List.getElem?_append_right (by simpa using hi)] at h2
        rw [List.getElem?_replicate] at h2
        split at h2 <;> cases h2
    have ha : vs[i]? = some v := by
      unfold start at h2
      rw [List.getElem?_append_left (by simpa using hi), List.getElem?_map] at h2
      cases e : vs[i]? with
      | none => rw [e] at h2; cases h2
      | some a => rw [e] at h2; cases h2; rfl
    obtain ⟨u, hu, rv⟩ := r.get ha
    have hp : ps[i]? = some y := by
      rw [← S.pre, List.getElem?_take_of_lt (by omega)]; exact h1
    have ndP : ps.Nodup := by rw [← S.pre]; exact S.nd.sublist (List.take_sublist _ _)
    refine ⟨u, rv, ?_⟩
    rcases S.par y (List.mem_of_getElem? hp) with k | k
    · exact .inl ⟨k, bindL_get ndP hp hu k⟩
    · obtain ⟨c, e⟩ := cell_has (n := s.heap.objs.size + 1) k
      refine .inr ⟨.inl k, c, e, ?_⟩
      have q := x.cell y c e
      rw [bindC_get ndP hp hu (by show scope.names.lookup y ≠ _; rw [k]; decide)] at q
      exact q
  · exact e0.hok.fresh (Nat.le_of_lt (x.above y c (PySem.mem_of_lookup h)))
  · unfold start
    show _ = N.length
    rw [List.length_append, List.length_map, List.length_replicate]
    omega

/-- THE RULE: a def (or a method) of the text, by its body. The body's reading t is chosen for each entry; it is run at the parameters' values -/
theorem fn_of {CX : CXT} {P : Program} {w : World} {K : PySem.W.Frag} {mg : Str → Option Value} {base : Heap} {k : Nat} {f : Addr} {name qual : Str} {params : Arguments} {body : List Stmt} {scope : Scope} {dV kV doc pm cdv ct oc : Value} {an od : Option Addr}
    {osl : Array (Option Value)} {N ps : List Str} {sp : Sp} (lk : K.lookup f = some ⟨oc, od, .func (PySem.W.fnOf name qual params body scope dV kV doc pm an cdv ct), osl⟩) (hcd : PySem.W.codeIn K cdv qual = true) (S : FnScope N ps scope)
    (len : ∀ vs H Q E, sp vs H Q E → vs.length = ps.length)
    (hbody : ∀ (A : Around) (outer : List Env) (s : Shared) (H : Hp) (vs : List V) (Q : VK) (E : XK), Room k (A.deeper (envOfC qual scope s.heap.objs.size f cdv)) → sp vs H Q E →
      ∃ t, PSs (cxOf CX P w K mg base N qual scope f cdv A outer s H E) body t ∧ t { nx := fun _ H' => Q .non H', rt := Q } (start N vs) H) :
    FnOk P w K mg base CX (k + 1) f (PySem.W.fnOf name qual params body scope dV kV doc pm an cdv ct) ps sp := by
  refine ⟨len, fun A outer s H args us vs Q E hr e0 hb r hsp => ?_⟩
  have hl := len _ _ _ _ hsp
  have KX : K.In s.heap := e0.mod.kin.keeps fun b o e => (e0.bs b o e).1
  have lim : s.heap.NoLimit := e0.mod.nolimit.keeps fun b o e => (e0.bs b o e).1
  have hkind : ∀ y ∈ ps.zip us, scope.names.lookup y.1 = some .local ∨ (scope.names.lookup y.1 = some .cell ∧ ((cellsFrom (s.heap.objs.size + 1) scope.names []).lookup y.1).isSome = true) := fun ⟨n, v⟩ hy => by
    rcases S.par n (List.of_mem_zip hy).1 with q | q
    · exact .inl q
    · exact .inr ⟨q, PySem.W.cellsFrom_some _ _ _ (.inl q)⟩
  refine codeAny_call_function hr.depth (KX _ _ lk) rfl S.co S.gen rfl (PySem.W.codeRec_of KX hcd) (hb _ _ _ _ ?_)
  refine wpAny_newFunctionEnv_cells S.kind hkind fun env he s1 x => ?_
  subst he
  refine ⟨lim.keeps x.toInCall.keep, codeAny_func ?_⟩
  obtain ⟨t, ht, hq⟩ := hbody A outer s H vs Q E (hr.deeper _) hsp
  have I : Inv (cxOf CX P w K mg base N qual scope f cdv A outer s H E) [] (start N vs) H s1 := inv_start S hr.hd e0 hl r x
  refine wpAny_mono (ht [] s1 (start N vs) H _ I hq) (fun fl s' hs => ?_) fun e s' hs => hs
  have fin : ∀ {σ' : St} {H' : Hp} {v : V} {u : Value}, Inv (cxOf CX P w K mg base N qual scope f cdv A outer s H E) [] σ' H' s' → RelV v u → Q v H' → CE outer P w H s Q u s' :=
    fun {σ' H' v u} J rv q => ⟨v, H', J.os, J.bare, J.base, J.hok, rv, q⟩
  cases fl with
  | ret u =>
    obtain ⟨v, σ', H', J, rv, q⟩ := hs
    exact fin J rv q
  | next =>
    obtain ⟨σ', H', J, q⟩ := hs
    exact fin (v := V.non) (u := Value.none) J rfl q
  | brk =>
    obtain ⟨_, _, _, q⟩ := hs
    exact False.elim q
  | cont =>
    obtain ⟨_, _, _, q⟩ := hs
    exact False.elim q
end L2

namespace L2
open PySem PySem.Spec PyProof.Rows
section
variable {X : Cx} {x : Str} {p pos : Pos} {e : Expr} {es : List Expr} {t : TA} {id T : String} {r : List V → Hp → VK → Prop}

def tCB (r : List V → Hp → VK → Prop) (t : TA) : TE := fun σ H Q => t σ H fun vs H1 => r vs H1 Q
/-- f(e, ..), f a built-in function -/
theorem pe_callB (hc : CallR X (.builtin id) r) (hg : Gl X x) (hm : X.mg x = none) (hv : bootBuiltins x = some (.builtin id)) (ha : PA X (e :: es) t) (hn : x ≠ "__name__" := by decide) (hdb : (x == ("__debug__" : Str)) = false := by decide)
    (he : starEach (e :: es) X.env = (false, eval e X.env) :: starEach es X.env := by rfl) (hpl : (backTo pos (starEach es X.env)).any (·.1) = false := by rfl) : PE X (.Call (.Name x p) (e :: es) [] pos) (tCB r t) := by
  intro pins s σ H Q I h
  refine wpAny_Call_Name_kw (ld_blt I hg hm hv ?_ hn hdb)
  exact PyProof.Rows.callWith_builtin1 (thn (ha pos pins s σ H _ I h) fun us s1 ⟨vs, H1, I1, r1, q1⟩ => hc pins s1 σ H1 vs us Q I1 r1 q1) he hpl
/-- T(e, ..), T a built-in type -/
theorem pe_callTy (hc : CallR X (.type T) r) (hg : Gl X x) (hm : X.mg x = none) (hv : bootBuiltins x = some (.type T)) (ha : PA X (e :: es) t) (hn : x ≠ "__name__" := by decide) (hdb : (x == ("__debug__" : Str)) = false := by decide)
    (he : starEach (e :: es) X.env = (false, eval e X.env) :: starEach es X.env := by rfl) (hpl : (backTo pos (starEach es X.env)).any (·.1) = false := by rfl) : PE X (.Call (.Name x p) (e :: es) [] pos) (tCB r t) := by
  intro pins s σ H Q I h
  refine wpAny_Call_Name_kw (ld_blt I hg hm hv ?_ hn hdb)
  exact PyProof.Rows.callWith_type1 (thn (ha pos pins s σ H _ I h) fun us s1 ⟨vs, H1, I1, r1, q1⟩ => hc pins s1 σ H1 vs us Q I1 r1 q1) he hpl
end
end L2

namespace HT
open PySem PyProof.Rows

section
open PySem.SeqAt
open PySem.AutoSeq1 (wpAny_loadPart')
open PySem.MeetsSeq PySem.MeetsSeq2 PySem.MeetsSeq3

end

section
variable {prog : Program} {w : World} {A : Around} {E : Value → Shared → Prop} {s : Shared}

/-! ### t[a:b], not the whole -/
/-- a slice's bound as a place among n (d where it is left out) -/
def sIx (n d : Nat) : Option Int → Nat
  | none => d
  | some v => if v < 0 then (v + (n : Int)).toNat else min v.toNat n
theorem sIx_none (n d : Nat) : sIx n d none = d := rfl
theorem sIx_le (n d : Nat) (hd : d ≤ n) (o : Option Int) : sIx n d o ≤ n := by
  cases o with
  | none => exact hd
  | some v =>
    show (if v < 0 then (v + (n : Int)).toNat else min v.toNat n) ≤ n
    by_cases hv : v < 0
    · rw [if_pos hv]; omega
    · rw [if_neg hv]; exact Nat.min_le_right _ _
theorem clip_eq (v : Int) (n d : Nat) : (if v < 0 then max (v + (n : Int)) 0 else min v (n : Int)) = ((sIx n d (some v) : Nat) : Int) := by
  show (if v < 0 then max (v + (n : Int)) 0 else min v (n : Int)) = (((if v < 0 then (v + (n : Int)).toNat else min v.toNat n) : Nat) : Int)
  by_cases hv : v < 0
  · simp only [if_pos hv]; omega
  · simp only [if_neg hv]; omega
theorem adjust_gen (lo hi : Option Int) (n : Nat) : Builtin.Slice.sliceAdjust lo hi 1 (n : Int) = (((sIx n 0 lo : Nat) : Int), ((sIx n n hi : Nat) : Int)) := by
  have h1 : ¬ ((1 : Int) < 0) := by omega
  unfold Builtin.Slice.sliceAdjust
  simp only [h1, if_false]
  refine Prod.ext ?_ ?_
  · cases lo with
    | none => rfl
    | some v => exact clip_eq v n 0
  · cases hi with
    | none => rfl
    | some v => exact clip_eq v n n
theorem places_gen (i j : Nat) : Builtin.Slice.slicePlaces (i : Int) (j : Int) 1 = j - i := by
  unfold Builtin.Slice.slicePlaces
  have h1 : (1 : Int) > 0 := by omega
  simp only [h1, if_true, Int.ediv_one]
  split <;> omega
theorem slicePart_ {v : Value} {o : Option Int} {Q : Option Int → Shared → Prop} (p : IsPart v o) (h : Q o s) : wpAny (model prog w) A (Builtin.Slice.slicePartIndex v) Q E s := by
  cases p with
  | none => exact slicePart_none h
  | int i t => exact slicePart_int h
theorem sliceApplied_gen {sl : Addr} {vl vu : Value} {lo hi : Option Int} {n : Nat} {Q : Int × Int × Nat → Shared → Prop} (hs : s.heap.IsSliceOf sl vl vu .none) (pl : IsPart vl lo) (pu : IsPart vu hi)
    (h : Q (((sIx n 0 lo : Nat) : Int), 1, sIx n n hi - sIx n 0 lo) s) : wpAny (model prog w) A (Builtin.Slice.sliceApplied (.ref sl) (pure (n : Int))) Q E s := by
  obtain ⟨os, hos, hcs, hds⟩ := id hs
  unfold Builtin.Slice.sliceApplied Builtin.Slice.sliceFields
  refine wpAny_bind (wpAny_bind (wpAny_field hos hds (x := vl) rfl (wpAny_bind (wpAny_field hos hds (x := vu) rfl (wpAny_bind (wpAny_field hos hds (x := .none) rfl (wpAny_pure ?_)))))))
  refine wpAny_bind (slicePart_none ?_)
  show wpAny _ _ (if ((1 : Int) == 0) = true then _ else _) _ _ s
  rw [if_neg (by decide)]
  refine wpAny_bind (slicePart_ pl (wpAny_bind (slicePart_ pu (wpAny_bind (wpAny_pure ?_)))))
  show wpAny _ _ (match Builtin.Slice.sliceAdjust lo hi 1 (n : Int) with | (lo, hi) => pure (lo, (1 : Int), Builtin.Slice.slicePlaces lo hi 1)) _ _ s
  rw [adjust_gen lo hi n]
  show wpAny _ _ (pure (((sIx n 0 lo : Nat) : Int), (1 : Int), Builtin.Slice.slicePlaces ((sIx n 0 lo : Nat) : Int) ((sIx n n hi : Nat) : Int) 1)) _ _ s
  rw [places_gen]
  exact wpAny_pure h
theorem pick_gen (xs : Array Value) (i k : Nat) : ((List.range k).filterMap fun (m : Nat) => xs[((i : Int) + (m : Int) * 1).toNat]?).toArray = ((xs.toList.drop i).take k).toArray := by
  have e : (fun (m : Nat) => xs[((i : Int) + (m : Int) * 1).toNat]?) = fun m => xs[i + m]? := by
    funext m
    have : ((i : Int) + (m : Int) * 1).toNat = i + m := by omega
    rw [this]
  rw [e]
  have := pick_run xs i k
  rw [List.filterMap_map] at this
  have e2 : ((fun x => xs[x]?) ∘ fun x => i + x) = fun m => xs[i + m]? := rfl
  rw [e2] at this
  rw [this]

theorem getItem_tuple_cut {t sl : Addr} {items : Array Value} {vl vu : Value} {lo hi : Option Int} {Q : Value → Shared → Prop} (ht : IsTup s.heap t items) (hs : s.heap.IsSliceOf sl vl vu .none) (pl : IsPart vl lo) (pu : IsPart vu hi)
    (hw : ¬ (sIx items.size 0 lo = 0 ∧ sIx items.size items.size hi = items.size))
    (h : Q (.ref s.heap.objs.size) { s with heap := s.heap.push { cls := .type "tuple", data := .seq ((items.toList.drop (sIx items.size 0 lo)).take (sIx items.size items.size hi - sIx items.size 0 lo)).toArray } })
    (hsz : items.size ≤ sizeLine) : wpAny (model prog w) A (getItem (.ref t) (.ref sl)) Q E s := by
  have htake : sizeOk (.seq ((items.toList.drop (sIx items.size 0 lo)).take (sIx items.size items.size hi - sIx items.size 0 lo)).toArray) := by
    show ((items.toList.drop (sIx items.size 0 lo)).take (sIx items.size items.size hi - sIx items.size 0 lo)).toArray.size ≤ sizeLine
    rw [List.size_toArray, List.length_take, List.length_drop, Array.length_toList]
    omega
  have hj : sIx items.size items.size hi ≤ items.size := sIx_le _ _ (Nat.le_refl _) hi
  obtain ⟨os, hos, hcs, hds⟩ := id hs
  have hTs : s.TypeIs (.ref sl) "slice" := ⟨os, hos, hcs⟩
  unfold getItem
  try with_reducible refine wpAny_holding ?_
  first | refine wpAny_bind (wpAny_pure ?_) | skip
  refine wpAny_bind (wpAny_sequenceKey ht.typeIs (by decide) ?_)
  refine wpAny_bind (wpAny_callSpecial?_slot (name := Str.ofString "__getitem__") ht.typeIs PyProof.Rows.slot_tuple_getitem
    (wpAny_call_entry PyProof.Rows.slot_tuple_getitem ht.typeIs entry_tuple_getitem ?_ (args_tuple_getitem _ _)))
  show wpAny _ _ (Builtin.Tuple.tupleItemsOf (.ref t) >>= _) _ _ s
  refine wpAny_bind (tupleItemsOf_ ht ?_)
  refine wpAny_bind (wpAny_typeOf hTs ?_)
  rw [if_pos (by decide)]
  refine wpAny_bind (sliceApplied_gen hs pl pu ?_)
  have hno : ¬ ((((sIx items.size 0 lo : Nat) : Int) == 0 && (1 : Int) == 1 && (sIx items.size items.size hi - sIx items.size 0 lo) == items.size) = true) := by
    intro q
    rw [Bool.and_eq_true, Bool.and_eq_true] at q
    have q1 : ((sIx items.size 0 lo : Nat) : Int) = 0 := eq_of_beq q.1.1
    have q2 : sIx items.size items.size hi - sIx items.size 0 lo = items.size := eq_of_beq q.2
    exact hw ⟨by omega, by omega⟩
  show wpAny _ _ (if (((sIx items.size 0 lo : Nat) : Int) == 0 && (1 : Int) == 1 && (sIx items.size items.size hi - sIx items.size 0 lo) == items.size) = true then _ else _) _ _ s
  rw [if_neg hno, pick_gen]
  first
    | exact wpAny_bind (m := Builtin.Tuple.tupleExact _) (wpAny_newObj_type (wpAny_pure ⟨_, rfl, wpAny_pure h⟩) htake)
    | exact wpAny_bind (m := Builtin.Tuple.tupleExact _) (wpAny_newObj_type (wpAny_bind (wpAny_pure (wpAny_pure ⟨_, rfl, wpAny_pure h⟩))) htake)
    | exact wpAny_bind (wpAny_bind (m := Builtin.Tuple.tupleExact _) (wpAny_newObj_type (wpAny_pure (wpAny_pure ⟨_, rfl, wpAny_pure h⟩)) htake))
    | exact wpAny_bind (wpAny_bind (m := Builtin.Tuple.tupleExact _) (wpAny_newObj_type (wpAny_pure ⟨_, rfl, wpAny_pure h⟩) htake))
end
end HT

namespace L2
open PySem PySem.Spec PyProof.Rows

/-! ### the parts of a slice -/
abbrev TO := St → Hp → (Option Int → Hp → Prop) → Prop
/-- a slice's part (left out, or an int) -/
def PO (X : Cx) (e : Option Expr) (t : TO) : Prop :=
  ∀ (pins : List (Addr × Obj)) (s : Shared) (σ : St) (H : Hp) (Q : Option Int → Hp → Prop), Inv X pins σ H s → t σ H Q →
    wpAny (model X.prog X.w) X.A (evalPart e X.env) (fun u s' => ∃ o H', Inv X pins σ H' s' ∧ IsPart u o ∧ Q o H') X.xe s
def tNoPart : TO := fun _ H Q => Q none H
def tPart (t : TE) : TO := fun σ H Q => t σ H fun x H1 => ∃ i, x = .int i ∧ Q (some i) H1

section
variable {X : Cx} {e : Expr} {te : TE} {lo hi : Option Expr} {tl th : TO} {pos p2 : Pos}

theorem po_none : PO X none tNoPart := by
  intro pins s σ H Q I h
  rw [evalPart_none]
  exact wpAny_pure ⟨none, H, I, .none, h⟩
theorem po_some (h : PE X e te) : PO X (some e) (tPart te) := by
  intro pins s σ H Q I hw
  rw [evalPart_some]
  refine thn (h pins s σ H _ I hw) fun u s1 ⟨x, H1, I1, r1, q1⟩ => ?_
  obtain ⟨i, rfl, q⟩ := q1
  obtain ⟨t, rfl⟩ := r1
  exact ⟨some i, H1, I1, .int i t, q⟩

/-- what a slice of a value is, by values: the slice object stands at sl -/
def SlR (X : Cx) (r : V → Option Int → Option Int → Hp → VK → Prop) : Prop :=
  ∀ (pins : List (Addr × Obj)) (s : Shared) (σ : St) (H : Hp) (x : V) (v vl vu : Value) (lo hi : Option Int) (sl : Addr) (Q : VK), Inv X pins σ H s → RelV x v → s.heap.IsSliceOf sl vl vu .none → IsPart vl lo → IsPart vu hi → r x lo hi H Q →
    ∃ T id, typeLookup (.type T) "__getitem__" = pure (some (.builtin id)) ∧ s.TypeIs v T ∧ wpAny (model X.prog X.w) X.A (getItem v (.ref sl)) (EP X pins σ Q) X.xe s
def tSl (r : V → Option Int → Option Int → Hp → VK → Prop) (te : TE) (tl th : TO) : TE := fun σ H Q => te σ H fun x H1 => tl σ H1 fun l H2 => th σ H2 fun u H3 => r x l u H3 Q
/-- a[lo:hi], any a -/
theorem pe_slice {r : V → Option Int → Option Int → Hp → VK → Prop} (hr : SlR X r) (he : PE X e te) (hl : PO X lo tl) (hu : PO X hi th) : PE X (.Subscript e (.Slice lo hi none p2) pos) (tSl r te tl th) := by
  intro pins s σ H Q I h
  refine Subscript_ (thn (he pins s σ H _ I h) fun v s1 ⟨x, H1, I1, r1, q1⟩ => ?_)
  refine wpAny_Slice (thn (hl pins s1 σ H1 _ I1 q1) fun vl s2 ⟨l, H2, I2, pl, q2⟩ => thn (hu pins s2 σ H2 _ I2 q2) fun vu s3 ⟨u, H3, I3, pu, q3⟩ => ?_)
  rw [evalPart_none]
  refine wpAny_pure ?_
  have I4 : Inv X pins σ H3 { s3 with heap := s3.heap.push { cls := .type "slice", data := .fields #[vl, vu, .none] } } := I3.kept (t' := s3.toks) fun b ob q => Heap.get?_push_of_some _ q
  obtain ⟨T, id, hT, ht, hg⟩ := hr pins { s3 with heap := s3.heap.push { cls := .type "slice", data := .fields #[vl, vu, .none] } } σ H3 x v vl vu l u s3.heap.objs.size Q I4 r1 (Heap.IsSliceOf.new ..) pl pu q3
  show wpAny (model X.prog X.w) X.A (subscriptTail e (.Slice lo hi none p2) v (.ref s3.heap.objs.size)) (EP X pins σ Q) X.xe { s3 with heap := s3.heap.push { cls := .type "slice", data := .fields #[vl, vu, .none] } }
  exact tail_any (ops := [.ref s3.heap.objs.size, v]) ht hT hg (by with_unfolding_all rfl)

/-- the items of xs[lo:hi] -/
def cutV (xs : List V) (lo hi : Option Int) : List V := (xs.drop (HT.sIx xs.length 0 lo)).take (HT.sIx xs.length xs.length hi - HT.sIx xs.length 0 lo)
theorem cutV_length (xs : List V) (lo hi : Option Int) : (cutV xs lo hi).length ≤ xs.length := by
  unfold cutV
  rw [List.length_take, List.length_drop]
  omega
/-- t[lo:hi], not the whole of it (the whole would be t itself) -/
def rSlT (K : PySem.W.Frag) : V → Option Int → Option Int → Hp → VK → Prop := fun x lo hi H Q => ∃ a xs, x = .ref a ∧ SqT K H a xs ∧
  ¬ (HT.sIx xs.length 0 lo = 0 ∧ HT.sIx xs.length xs.length hi = xs.length) ∧ ∀ p, H p = none → Q (.ref p) (upd H p (.tup (cutV xs lo hi)))
theorem sl_tup : SlR X (rSlT X.K) := by
  intro pins s σ H x v vl vu lo hi sl Q I rx hs pl pu h
  obtain ⟨a, xs, rfl, hx, hw, q⟩ := h
  cases rx
  obtain ⟨its, r, ht, hz⟩ := I.tuple hx
  have hlen : its.toArray.size = xs.length := by rw [List.size_toArray]; exact r.length.symm
  refine ⟨"tuple", _, PyProof.Rows.slot_tuple_getitem.lookup, ht.typeIs, ?_⟩
  refine HT.getItem_tuple_cut ht hs pl pu (by rw [hlen]; exact hw) ?_ (by rw [hlen]; exact hz)
  rw [hlen]
  refine ⟨.ref s.heap.objs.size, _, I.laid (t' := s.toks) (o := .tup (cutV xs lo hi)) (fun b ob q => Heap.get?_push_of_some _ q) (Nat.le_refl _) ?_, rfl, q _ (I.hok.fresh (Nat.le_refl _))⟩
  exact ⟨Nat.le_trans (cutV_length xs lo hi) hz, _, (r.drop (HT.sIx xs.length 0 lo)).take (HT.sIx xs.length xs.length hi - HT.sIx xs.length 0 lo), IsTup.new _ _⟩

/-! ### t < u, t + u -/
end
end L2

namespace L2
open PySem PySem.Spec PyProof.Rows

/-! ### places -/
/-- the place that an index of any sign means -/
def ixN (n : Nat) (i : Int) : Option Nat := if 0 ≤ i then (if i < n then some i.toNat else none) else if -(n : Int) ≤ i then some (i + n).toNat else none
def atI {α : Type} (xs : List α) (i : Int) : Option α := (ixN xs.length i).bind fun j => xs[j]?
theorem ixN_seq {n : Nat} {i : Int} {j : Nat} (h : ixN n i = some j) : seqIndex? i n = some j ∧ j < n ∧ -(n : Int) ≤ i ∧ i < n := by
  unfold ixN at h
  by_cases h0 : 0 ≤ i
  · rw [if_pos h0] at h
    by_cases h1 : i < n
    · rw [if_pos h1] at h
      have e : i.toNat = j := Option.some.inj h
      exact ⟨by rw [seqIndex_of h0 h1, e], by omega, by omega, h1⟩
    · rw [if_neg h1] at h; cases h
  · rw [if_neg h0] at h
    by_cases h1 : -(n : Int) ≤ i
    · rw [if_pos h1] at h
      have e : (i + n).toNat = j := Option.some.inj h
      exact ⟨by rw [seqIndex_neg (by omega) h1, e], by omega, h1, by omega⟩
    · rw [if_neg h1] at h; cases h
theorem atI_get {α : Type} {xs : List α} {i : Int} {v : α} (h : atI xs i = some v) : ∃ j, seqIndex? i xs.length = some j ∧ xs[j]? = some v ∧ j < xs.length ∧ -(xs.length : Int) ≤ i ∧ i < xs.length := by
  unfold atI at h
  cases e : ixN xs.length i with
  | none => rw [e] at h; cases h
  | some j =>
    rw [e] at h
    obtain ⟨h1, h2, h3, h4⟩ := ixN_seq e
    exact ⟨j, h1, h, h2, h3, h4⟩
theorem atI_nat {α : Type} {xs : List α} {j : Nat} {v : α} (h : xs[j]? = some v) : atI xs (j : Int) = some v := by
  have hj : j < xs.length := (List.getElem?_eq_some_iff.mp h).1
  have e : ixN xs.length (j : Int) = some j := by
    unfold ixN
    rw [if_pos (by omega), if_pos (by omega)]; simp
  unfold atI; rw [e]; exact h
/-! ### what may be subscripted -/
/-- what stands as an index of a plain subscript -/
def PlainIx (b : Expr) : Prop := ∀ o i, subscripted b false o i = operate [o, i] (getItem o i)
/-- a subscript by values -/
def IxR (X : Cx) (r : R2) : Prop :=
  ∀ (value slice : Expr) (pins : List (Addr × Obj)) (s : Shared) (σ : St) (H : Hp) (x y : V) (v u : Value) (Q : VK), Inv X pins σ H s → RelV x v → RelV y u → r x y H Q →
    subscripted slice false v u = operate [v, u] (getItem v u) → wpAny (model X.prog X.w) X.A (subscriptTail value slice v u) (EP X pins σ Q) X.xe s
/-- a call of a builtin's method by values: the receiver, the arguments -/
def MtR (X : Cx) (id : String) (r : V → List V → Hp → VK → Prop) : Prop :=
  ∀ (pins : List (Addr × Obj)) (s : Shared) (σ : St) (H : Hp) (x : V) (xs : List V) (v : Value) (us : List Value) (Q : VK), Inv X pins σ H s → RelV x v → Vals xs us → r x xs H Q →
    wpAny (model X.prog X.w) X.A (call (.builtin id) (v :: us)) (EP X pins σ Q) X.xe s
section
variable {X : Cx} {a b : Expr} {ta tb : TE} {pos : Pos}
/-- a[b] -/
theorem pe_ix {r : R2} (hr : IxR X r) (ha : PE X a ta) (hb : PE X b tb) (hs : PlainIx b) : PE X (.Subscript a b pos) (tOp r ta tb) := by
  intro pins s σ H Q I h
  exact Subscript_ (binT ha hb I h fun v u s2 x y H2 I2 rx ry q => hr a b pins s2 σ H2 x y v u Q I2 rx ry q (hs _ _))

def rIxL (K : PySem.W.Frag) : R2 := fun x y H Q => ∃ p xs i v, x = .ref p ∧ y = .int i ∧ SqL K H p xs ∧ atI xs i = some v ∧ Q v H
def rIxT (K : PySem.W.Frag) : R2 := fun x y H Q => ∃ p xs i v, x = .ref p ∧ y = .int i ∧ SqT K H p xs ∧ atI xs i = some v ∧ Q v H
def rIxS : R2 := fun x y H Q => ∃ z i c, x = .str z ∧ y = .int i ∧ z.length ≤ sizeLine ∧ atI z.cps.toList i = some c ∧ Q (.str ⟨#[c]⟩) H
theorem ix_list : IxR X (rIxL X.K) := by
  intro value slice pins s σ H x y v u Q I rx ry h hs
  obtain ⟨p, xs, i, z, rfl, rfl, hq, he, q⟩ := h
  cases rx
  obtain ⟨t, rfl⟩ := ry
  obtain ⟨its, r, pl, hz⟩ := I.list hq
  obtain ⟨j, h1, h2, h3, h4, h5⟩ := atI_get he
  obtain ⟨w, ew, rw'⟩ := r.get h2
  have hl := r.length
  have hn := line63
  have fin : EP X pins σ Q w s := ⟨z, H, I, rw', q⟩
  by_cases h0 : 0 ≤ i
  · have hj : i.toNat = j := by
      rw [seqIndex_of h0 h5] at h1
      exact Option.some.inj h1
    exact item_listR pl.isList h0 (by omega) (by rw [hj]; simpa using ew) fin hs
  · have hj : (i + (its.toArray.size : Int)).toNat = j := by
      rw [seqIndex_neg (by omega) h4] at h1
      rw [List.size_toArray, ← hl]
      exact Option.some.inj h1
    exact subscriptTail_builtinR (x := w) pl.isList.typeIs slot_list_getitem.lookup
      (wpAny_getItem_list_neg (Q := fun r s' => r = w ∧ EP X pins σ Q r s') pl.isList (by omega) (by rw [List.size_toArray] <;> omega) (by omega) (by rw [hj]; simpa using ew) ⟨rfl, fin⟩) hs
theorem ix_tup : IxR X (rIxT X.K) := by
  intro value slice pins s σ H x y v u Q I rx ry h hs
  obtain ⟨p, xs, i, z, rfl, rfl, hq, he, q⟩ := h
  cases rx
  obtain ⟨t, rfl⟩ := ry
  obtain ⟨its, r, pl, hz⟩ := I.tuple hq
  obtain ⟨j, h1, h2, h3, h4, h5⟩ := atI_get he
  obtain ⟨w, ew, rw'⟩ := r.get h2
  have hl := r.length
  have hn := line63
  have fin : EP X pins σ Q w s := ⟨z, H, I, rw', q⟩
  exact subscriptTail_builtinR (x := w) pl.typeIs slot_tuple_getitem.lookup
    (getItem_tuple (j := j) (Q := fun r s' => r = w ∧ EP X pins σ Q r s') pl (by omega) (by omega) (by rw [List.size_toArray, ← hl]; exact h1) (by simpa using ew) ⟨rfl, fin⟩) hs
theorem ix_str : IxR X rIxS := by
  intro value slice pins s σ H x y v u Q I rx ry h hs
  obtain ⟨z, i, c, rfl, rfl, hz, he, q⟩ := h
  obtain ⟨t, rfl⟩ := rx
  obtain ⟨t', rfl⟩ := ry
  obtain ⟨j, h1, h2, h3, h4, h5⟩ := atI_get he
  have hl : z.cps.toList.length = z.length := by simp [Str.length]
  rw [hl] at h1 h4 h5
  have hn := line63
  exact tail_any (typeIs_str s z t) slot_str_getitem.lookup (getItem_str (c := c) (by
    have e1 : decide (i < -(2 ^ 63 : Int)) = false := decide_eq_false (by omega)
    have e2 : decide (i ≥ 2 ^ 63) = false := decide_eq_false (by omega)
    rw [e1, e2, Bool.or_false]) (by rw [h1]; simpa using h2) ⟨.str ⟨#[c]⟩, H, I.tok _, ⟨_, rfl⟩, q⟩) hs
/-! ### xs[i] = v, any sign -/
/-! ### slices -/
theorem slice_bounds (lo hi : Option Int) (n : Nat) : (sliceBounds lo hi none n).1 = ((HT.sIx n 0 lo : Nat) : Int) ∧ (sliceBounds lo hi none n).2.1 = ((HT.sIx n n hi : Nat) : Int) ∧ (sliceBounds lo hi none n).2.2 = 1 := by
  refine ⟨?_, ?_, rfl⟩
  · cases lo with
    | none => simp [sliceBounds, HT.sIx]
    | some i =>
      simp only [sliceBounds, HT.sIx, Option.getD_none, show (1 : Int) > 0 by decide, if_true]
      by_cases h : i < 0
      · simp only [h, if_true] <;> omega
      · simp only [h, if_false] <;> omega
  · cases hi with
    | none => simp [sliceBounds, HT.sIx]
    | some i =>
      simp only [sliceBounds, HT.sIx, Option.getD_none, show (1 : Int) > 0 by decide, if_true]
      by_cases h : i < 0
      · simp only [h, if_true] <;> omega
      · simp only [h, if_false] <;> omega
theorem slicePick_cut (its : List Value) (lo hi : Option Int) : slicePick its.toArray lo hi none = ((its.drop (HT.sIx its.length 0 lo)).take (HT.sIx its.length its.length hi - HT.sIx its.length 0 lo)).toArray := by
  obtain ⟨h1, h2, h3⟩ := slice_bounds lo hi its.toArray.size
  unfold slicePick
  rw [h1, h2, h3]
  simp only [sliceRange_one, pick_run, List.size_toArray] <;> rfl
/-- xs[lo:hi] of a list: a new list -/
def rSlL (K : PySem.W.Frag) : V → Option Int → Option Int → Hp → VK → Prop := fun x lo hi H Q => ∃ a xs, x = .ref a ∧ SqL K H a xs ∧ ∀ p, H p = none → Q (.ref p) (upd H p (.lst (cutV xs lo hi)))
theorem sl_list : SlR X (rSlL X.K) := by
  intro pins s σ H x v vl vu lo hi sl Q I rx hs pl pu h
  obtain ⟨a, xs, rfl, hx, q⟩ := h
  cases rx
  obtain ⟨its, r, ht, hz⟩ := I.list hx
  have hlen := r.length
  refine ⟨"list", _, slot_list_getitem.lookup, ht.isList.typeIs, ?_⟩
  refine wpAny_getItem_list_slice ht.isList hs pl pu .none (by simp) ?_ (by rw [List.size_toArray] <;> omega)
  rw [slicePick_cut, ← hlen]
  refine ⟨.ref s.heap.objs.size, _, I.laid (t' := s.toks) (o := .lst (cutV xs lo hi)) (fun b ob q => Heap.get?_push_of_some _ q) (Nat.le_refl _) ?_, rfl, q _ (I.hok.fresh (Nat.le_refl _))⟩
  exact ⟨Nat.le_trans (cutV_length xs lo hi) hz, _, 0, (r.drop (HT.sIx xs.length 0 lo)).take (HT.sIx xs.length xs.length hi - HT.sIx xs.length 0 lo), Heap.get?_push_size _ rfl⟩

/-! ### in, not in: flat items -/
def flatV : V → Bool
  | .non => true
  | .bl _ => true
  | .int _ => true
  | .str _ => true
  | _ => false
/-- == of flat values -/
def eqV : V → V → Bool
  | .non, .non => true
  | .bl a, .bl b => a == b
  | .bl a, .int b => (if a then 1 else 0) == b
  | .int a, .bl b => a == (if b then 1 else 0)
  | .int a, .int b => a == b
  | .str a, .str b => a == b
  | _, _ => false
theorem eqAt_V {A : Around} {s : Shared} {y x : V} {u v : Value} (ry : RelV y u) (rx : RelV x v) (fy : flatV y = true) (fx : flatV x = true) : SeqAt.EqAt A s u v (eqV y x) := by
  cases y with
  | non =>
    cases ry
    cases x with
    | non => cases rx; exact SeqAt.EqAt.same _
    | bl b => cases rx; exact SeqAt.EqAt.none_bool b
    | int b => obtain ⟨t, rfl⟩ := rx; exact SeqAt.EqAt.none_int b t
    | str b => obtain ⟨t, rfl⟩ := rx; exact SeqAt.EqAt.none_str b t
    | _ => exact absurd (show false = true from fx) Bool.false_ne_true
  | bl a =>
    cases ry
    cases x with
    | non => cases rx; exact SeqAt.EqAt.bool_none a
    | bl b => cases rx; exact SeqAt.EqAt.bool_bool a b
    | int b => obtain ⟨t, rfl⟩ := rx; exact SeqAt.EqAt.bool_int a b t
    | str b => obtain ⟨t, rfl⟩ := rx; exact SeqAt.EqAt.bool_str a b t
    | _ => exact absurd (show false = true from fx) Bool.false_ne_true
  | int a =>
    obtain ⟨t', rfl⟩ := ry
    cases x with
    | non => cases rx; exact SeqAt.EqAt.int_none a t'
    | bl b => cases rx; exact SeqAt.EqAt.int_bool a t' b
    | int b => obtain ⟨t, rfl⟩ := rx; exact SeqAt.EqAt.int_int a t' b t
    | str b => obtain ⟨t, rfl⟩ := rx; exact SeqAt.EqAt.int_str a t' b t
    | _ => exact absurd (show false = true from fx) Bool.false_ne_true
  | str a =>
    obtain ⟨t', rfl⟩ := ry
    cases x with
    | non => cases rx; exact SeqAt.EqAt.str_none a t'
    | bl b => cases rx; exact SeqAt.EqAt.str_bool a t' b
    | int b => obtain ⟨t, rfl⟩ := rx; exact SeqAt.EqAt.str_int a t' b t
    | str b => obtain ⟨t, rfl⟩ := rx; exact SeqAt.EqAt.str_str a t' b t
    | _ => exact absurd (show false = true from fx) Bool.false_ne_true
  | _ => exact absurd (show false = true from fy) Bool.false_ne_true
/-! ### len, list(x), tuple(x) of any list or tuple that is read -/
theorem call_len_seq : CallR X (.builtin "len") (fun xs H Q => ∃ p ys, xs = [.ref p] ∧ (SqL X.K H p ys ∨ SqT X.K H p ys) ∧ Q (.int ys.length) H) := by
  intro pins s σ H xs us Q I r h
  obtain ⟨p, ys, rfl, hq, q⟩ := h
  obtain ⟨u, rfl, rx⟩ := vals1 r
  cases rx
  have hn := line63
  rcases hq with hq | hq
  · obtain ⟨its, r', pl, hz⟩ := I.list hq
    have hlen := r'.length
    exact Calls.call_len_list pl.isList (by simp only [List.size_toArray] <;> omega) ⟨.int ys.length, H, I.tok _, ⟨s.toks + 1, by rw [List.size_toArray, hlen]⟩, q⟩
  · obtain ⟨its, r', pl, hz⟩ := I.tuple hq
    have hlen := r'.length
    exact len_tuple pl (by simp only [List.size_toArray] <;> omega) ⟨.int ys.length, H, I.tok _, ⟨s.toks + 1, by rw [List.size_toArray, hlen]⟩, q⟩
theorem call_len_str : CallR X (.builtin "len") (fun xs H Q => ∃ z, xs = [.str z] ∧ z.length ≤ sizeLine ∧ Q (.int z.length) H) := by
  intro pins s σ H xs us Q I r h
  obtain ⟨z, rfl, hz, q⟩ := h
  obtain ⟨u, rfl, t, rfl⟩ := vals1 r
  have hn := line63
  exact len_str (by omega) ⟨.int z.length, H, I.tok _, ⟨_, rfl⟩, q⟩
theorem call_list_of : CallR X (.type "list") (fun xs H Q => ∃ p ys, xs = [.ref p] ∧ (SqL X.K H p ys ∨ SqT X.K H p ys) ∧ ∀ l, H l = none → Q (.ref l) (upd H l (.lst ys))) := by
  intro pins s σ H xs us Q I r h
  obtain ⟨p, ys, rfl, hq, q⟩ := h
  obtain ⟨u, rfl, rx⟩ := vals1 r
  cases rx
  have fin : ∀ (its : List Value), Vals ys its → ys.length ≤ sizeLine → ∀ (h' : Heap) (c' : Nat), (∀ b o', s.heap.get? b = some o' → h'.get? b = some o') →
      h'.get? s.heap.objs.size = some { cls := .type "list", dict := none, data := .seq its.toArray c', slots := #[] } → EP X pins σ Q (.ref s.heap.objs.size) { s with heap := h' } := fun its r' hz h' c' kp e =>
    ⟨.ref s.heap.objs.size, _, I.laid (t' := s.toks) kp (Nat.le_refl _) (show ObjOk X.prog X.w _ h' _ (.lst ys) from ⟨hz, its, c', r', e⟩), rfl, q _ (I.hok.fresh (Nat.le_refl _))⟩
  rcases hq with hq | hq
  · obtain ⟨its, r', pl, hz⟩ := I.list hq
    have hlen := r'.length
    obtain ⟨o, ho, hc, n, hd⟩ := pl.isList
    exact call_list_seq p (.inl rfl) ho hc hd (fun h' c' kp e => fin its r' hz h' c' kp e) (by simp only [List.size_toArray] <;> omega)
  · obtain ⟨its, r', pl, hz⟩ := I.tuple hq
    have hlen := r'.length
    obtain ⟨o, ho, hc, n, hd⟩ := pl
    exact call_list_seq p (.inr rfl) ho hc hd (fun h' c' kp e => fin its r' hz h' c' kp e) (by simp only [List.size_toArray] <;> omega)
/-! ### the call of a builtin's method: o.m(..) -/
/-- the value is of that builtin type -/
def tyV (K : PySem.W.Frag) (T : String) (x : V) (H : Hp) : Prop := match x with
  | .str _ => T = "str"
  | .int _ => T = "int"
  | .ref p => (T = "list" ∧ ∃ xs, SqL K H p xs) ∨ (T = "tuple" ∧ ∃ o, K.lookup p = some o ∧ o.cls = .type "tuple" ∧ o.dict = none) ∨
      (T = "dict" ∧ ((∃ kvs, H p = some (.dK kvs)) ∨ ∃ kvs, H p = some (.dT kvs))) ∨ (T = "set" ∧ ∃ S n, H p = some (.set S n))
  | _ => False
theorem tyV_is {pins : List (Addr × Obj)} {σ : St} {H : Hp} {s : Shared} {T : String} {x : V} {v : Value} (I : Inv X pins σ H s) (r : RelV x v) (ty : tyV X.K T x H) :
    s.TypeIs v T ∧ ∀ a, v = .ref a → ∃ ob, s.heap.get? a = some ob ∧ ob.dict = none := by
  cases x with
  | str z =>
    obtain ⟨t, rfl⟩ := r
    cases (show T = "str" from ty)
    exact ⟨typeIs_str s z t, fun _ e => nomatch e⟩
  | int i =>
    obtain ⟨t, rfl⟩ := r
    cases (show T = "int" from ty)
    exact ⟨typeIs_int s i t, fun _ e => nomatch e⟩
  | ref p =>
    cases r
    rcases ty with ⟨rfl, xs, hq⟩ | ⟨rfl, o, hk, hc, hd⟩ | ⟨rfl, hk⟩ | ⟨rfl, S, n, hk⟩
    · obtain ⟨its, _, pl, _⟩ := I.list hq
      refine ⟨pl.isList.typeIs, fun a e => ?_⟩
      cases e
      obtain ⟨o, n, e, c, hd, _⟩ := pl
      exact ⟨o, e, hd⟩
    · refine ⟨⟨o, I.kIn p o hk, hc⟩, fun a e => ?_⟩
      cases e
      exact ⟨o, I.kIn _ o hk, hd⟩
    · have z : ∃ o, s.heap.get? p = some o ∧ o.ExactDict := by
        rcases hk with ⟨kvs, hk⟩ | ⟨kvs, hk⟩
        · obtain ⟨_, _, _, _, o, _, _, e, ex, _⟩ := I.hok p _ hk
          exact ⟨o, e, ex⟩
        · obtain ⟨_, _, _, _, o, _, _, e, ex, _⟩ := I.hok p _ hk
          exact ⟨o, e, ex⟩
      obtain ⟨o, e, ex⟩ := z
      refine ⟨⟨o, e, ex.1⟩, fun a e2 => ?_⟩
      cases e2
      exact ⟨o, e, ex.2.1⟩
    · obtain ⟨o, _, _, _, e, ex, _⟩ := I.hok p _ hk
      refine ⟨⟨o, e, ex.1⟩, fun a e2 => ?_⟩
      cases e2
      exact ⟨o, e, ex.2.1⟩
  | _ => exact False.elim ty
def tBM0 (K : PySem.W.Frag) (T : String) (r : V → List V → Hp → VK → Prop) (to : TE) : TE := fun σ H Q => to σ H fun x H1 => tyV K T x H1 ∧ r x [] H1 Q
def tBM (K : PySem.W.Frag) (T : String) (r : V → List V → Hp → VK → Prop) (to : TE) (t : TA) : TE := fun σ H Q => to σ H fun x H1 => tyV K T x H1 ∧ t σ H1 fun xs H2 => r x xs H2 Q
variable {o e : Expr} {es : List Expr} {to : TE} {t : TA} {name : Str} {apos cpos : Pos} {T id : String} {r : V → List V → Hp → VK → Prop}
theorem pe_bm0 (pa : PlainAttrs T) (slot : Slot T name id) (hty : typeOf (.builtin id) = pure (.type "method_descriptor")) (hm : MtR X id r) (ho : PE X o to)
    (hbase : attributeBase o name X.env (eval o X.env) = eval o X.env := by rfl) (hline : (apos.endLine == cpos.line) = true := by rfl) : PE X (.Call (.Attribute o name apos) [] [] cpos) (tBM0 X.K T r to) := by
  intro pins s σ H Q I h
  refine wpAny_Call_method0_late hbase hline (thn (ho pins s σ H _ I h) fun v s1 ⟨x, H1, I1, r1, ty, q1⟩ => ?_)
  obtain ⟨h1, h2⟩ := tyV_is I1 r1 ty
  exact ⟨T, id, pa, slot, hty, h1, h2, Calls.callWith_builtin rfl (PySem.evalArgs_none (hm pins s1 σ H1 x [] v [] Q I1 r1 .nil q1))⟩
theorem pe_bm (pa : PlainAttrs T) (slot : Slot T name id) (hty : typeOf (.builtin id) = pure (.type "method_descriptor")) (hm : MtR X id r) (ho : PE X o to) (ha : PA X (e :: es) t)
    (hbase : attributeBase o name X.env (eval o X.env) = eval o X.env := by rfl)
    (hfew : ((backTo cpos (starEach (e :: es) X.env)).all (fun x => !x.1) && (backToKw cpos (keywordEach [] X.env)).all (fun x => x.1.isSome)
      && decide ((e :: es).length + ([] : List Keyword).length + (if ([] : List Keyword).isEmpty then 0 else 1) < 30)) = true := by rfl)
    (hline : (apos.endLine == cpos.line) = true := by rfl) (hs : starEach (e :: es) X.env = (false, eval e X.env) :: starEach es X.env := by rfl) (hplain : (backTo cpos (starEach es X.env)).any (·.1) = false := by rfl) :
    PE X (.Call (.Attribute o name apos) (e :: es) [] cpos) (tBM X.K T r to t) := by
  intro pins s σ H Q I h
  refine wpAny_Call_method_late hbase hfew hline rfl (thn (ho pins s σ H _ I h) fun v s1 ⟨x, H1, I1, r1, ty, q1⟩ => ?_)
  obtain ⟨h1, h2⟩ := tyV_is I1 r1 ty
  refine ⟨T, id, pa, slot, hty, h1, h2, ?_⟩
  have hA := ha cpos pins s1 σ H1 _ I1 q1
  rw [hs] at hA ⊢
  refine Calls.callWith_builtin (by show (false || (backTo cpos (starEach es X.env)).any (·.1)) = false; rw [hplain] <;> rfl) (Calls.evalArgs_plain ?_)
  exact thn hA fun us s2 ⟨vs, H2, I2, r2, q2⟩ => hm pins s2 σ H2 x vs v us Q I2 r1 r2 q2
/- xs.append(e), list.index on a module's tuple .. are MtR facts of 06m -/
end
end L2

namespace L2
open PySem PySem.Spec PyProof.Rows

def MtM (X : Cx) (id : String) (r : V → List V → Hp → VK → Prop) : Prop :=
  ∀ (pins : List (Addr × Obj)) (s : Shared) (σ : St) (H : Hp) (x : V) (xs : List V) (v : Value) (us : List Value) (Q : VK), Inv X pins σ H s → RelV x v → Vals xs us → r x xs H Q →
    wpAny (model X.prog X.w) X.A (call (.builtin id) (v :: us)) (EP X pins σ Q) X.xe s

/-! ### lists of values -/
theorem Vals.one : ∀ {x : V} {us : List Value}, Vals [x] us → ∃ u, us = [u] ∧ RelV x u
  | _, _, .cons r .nil => ⟨_, rfl, r⟩
theorem Vals.two : ∀ {x y : V} {us : List Value}, Vals [x, y] us → ∃ u v, us = [u, v] ∧ RelV x u ∧ RelV y v
  | _, _, _, .cons r (.cons q .nil) => ⟨_, _, rfl, r, q⟩
theorem Vals.zero : ∀ {us : List Value}, Vals [] us → us = []
  | _, .nil => rfl
section
variable {X : Cx} {pins : List (Addr × Obj)} {σ : St} {H : Hp} {s : Shared} {l b : Addr} {xs ys zs : List V}

/-! ### the two steps: a tracked list is rewritten, a new list is laid -/
theorem Inv.lset {its its' : List Value} {n : Nat} {f : Array Value → Array Value} {t' : Nat} (I : Inv X pins σ H s) (hH : H l = some (.lst xs))
    (e : s.heap.get? l = some { cls := .type "list", data := .seq its.toArray n }) (hf : f its.toArray = its'.toArray) (hv : Vals ys its') (hz : ys.length ≤ sizeLine) :
    Inv X pins σ (upd H l (.lst ys)) { s with heap := s.heap.update l (Obj.mapSeq f), toks := t' } := by
  have q := PySem.IsL.update e f
  rw [hf] at q
  refine I.write (x := l) (e := l) (by rw [hH]; exact trivial) (.inl rfl) (fun b' u hb hu => (Heap.get?_update_other s.heap (Obj.mapSeq f) (Ne.symm hb)).trans hu) ⟨_, q⟩ ?_
  exact ⟨hz, its', _, hv, q⟩
theorem Inv.lnew {its : List Value} {t' : Nat} (I : Inv X pins σ H s) (hv : Vals ys its) (hz : ys.length ≤ sizeLine) :
    Inv X pins σ (upd H s.heap.objs.size (.lst ys)) { s with heap := s.heap.push { cls := .type "list", data := .seq its.toArray }, toks := t' } :=
  I.laid (fun _ _ q => Heap.get?_push_of_some _ q) (Nat.le_refl _) ⟨hz, its, 0, hv, Heap.get?_push_size _ rfl⟩
theorem Inv.fresh (I : Inv X pins σ H s) : H s.heap.objs.size = none := I.hok.fresh (Nat.le_refl _)
theorem Inv.lstM (I : Inv X pins σ H s) (hH : H l = some (.lst xs)) : xs.length ≤ sizeLine ∧ ∃ (its : List Value) (n : Nat), Vals xs its ∧ xs.length = its.length ∧ s.heap.get? l = some { cls := .type "list", data := .seq its.toArray n } := by
  obtain ⟨z, its, n, r, e⟩ := I.hok l _ hH
  exact ⟨z, its, n, r, r.length, e⟩

theorem notLongL {n : Nat} (h : n ≤ sizeLine) : Builtin.List.listTooLong n = false := by
  unfold Builtin.List.listTooLong
  exact decide_eq_false (by omega)
end

section
variable {X : Cx}

/-! ### methods -/
def rAppend : V → List V → Hp → VK → Prop := fun x vs H Q => ∃ l xs y, x = .ref l ∧ vs = [y] ∧ H l = some (.lst xs) ∧ xs.length < sizeLine ∧ Q .non (upd H l (.lst (xs ++ [y])))
theorem mt_append : MtM X "list.append" rAppend := by
  intro pins s σ H x vs v us Q I rx rv h
  obtain ⟨l, xs, y, rfl, rfl, hH, hz, q⟩ := h
  cases rx
  obtain ⟨u, rfl, ru⟩ := rv.one
  obtain ⟨z, its, n, r, hl, e⟩ := I.lstM hH
  refine call_meets F.slot_list_append ⟨_, e, rfl⟩ F.entry_list_append (F.args_list_append_2 _ _) (PySem.list_append l its.toArray n u (by rw [List.size_toArray]; omega)) ⟨e, ?_⟩
  refine ⟨.non, _, I.lset (its' := its ++ [u]) hH e (by simp) (r.append (.cons ru .nil)) ?_, rfl, q⟩
  rw [List.length_append, List.length_singleton]
  omega

def rClear : V → List V → Hp → VK → Prop := fun x vs H Q => ∃ l xs, x = .ref l ∧ vs = [] ∧ H l = some (.lst xs) ∧ Q .non (upd H l (.lst []))
theorem mt_clear : MtM X "list.clear" rClear := by
  intro pins s σ H x vs v us Q I rx rv h
  obtain ⟨l, xs, rfl, rfl, hH, q⟩ := h
  cases rx
  have hus := rv.zero
  subst hus
  obtain ⟨z, its, n, r, hl, e⟩ := I.lstM hH
  refine call_meets F.slot_list_clear ⟨_, e, rfl⟩ F.entry_list_clear (F.args_list_clear_1 _) (AutoSeq1.list_clear_list_0 l its.toArray n (by rw [List.size_toArray]; omega)) ⟨e, ?_⟩
  exact ⟨.non, _, I.lset (its' := []) (ys := []) hH e rfl .nil (Nat.zero_le _), rfl, q⟩

/-! ### list + list, list += list, list * int -/
def rCat : R2 := fun x y H Q => ∃ l b xs zs, x = .ref l ∧ y = .ref b ∧ H l = some (.lst xs) ∧ H b = some (.lst zs) ∧ xs.length + zs.length ≤ sizeLine ∧ ∀ p, H p = none → Q (.ref p) (upd H p (.lst (xs ++ zs)))
theorem op_cat : OpR X (binaryOp .Add) rCat := by
  intro pins s σ H x y v u Q I rx ry h
  obtain ⟨l, b, xs, zs, rfl, rfl, hH, hB, hz, q⟩ := h
  cases rx
  cases ry
  obtain ⟨z, its, n, r, hl, e⟩ := I.lstM hH
  obtain ⟨z2, its2, n2, r2, hl2, e2⟩ := I.lstM hB
  refine PySem.P.add_list e e2 ?_ (by rw [List.size_toArray, List.size_toArray]; omega)
  have ea : its.toArray ++ its2.toArray = (its ++ its2).toArray := by simp
  rw [ea]
  exact ⟨.ref _, _, I.lnew (t' := s.toks) (r.append r2) (by rw [List.length_append]; omega), rfl, q _ I.fresh⟩
/-! ### del xs[i] -/
end

/-! ### xs[a:b] = ys -/
section
variable {prog : Program} {w : World} {A : Around} {E : Value → Shared → Prop} {s : Shared}
end

section
variable {X : Cx}
end
end L2

namespace Att
open PySem PySem.W PySem.Calls PyProof.Rows

/-! ### the script -/
theorem ints_of_wellAll {P : Params} {h : Heap} : ∀ (ns : List Int) (vs : List Value), WellAll P h vs (ns.map WData.int) → IntsAre vs ns := by
  intro ns
  induction ns with
  | nil =>
    intro vs w
    rw [List.map_nil] at w
    cases w
    exact .nil
  | cons n ns ih =>
    intro vs w
    rw [List.map_cons] at w
    cases w with
    | cons a b =>
      cases a
      exact .cons _ _ (ih _ b)

theorem script_of {l : OpenLaw} {n : Nat} (hn : l.most = some n) {P : Params} {h : Heap} {args : List WData} {vals : List Value}
    (hpre : l.row.toRowW.claim.pre args = true) (hwl : WellAll P h vals args) :
    ∃ a vs ns, vals = [Value.ref a] ∧ args = [WData.list (ns.map WData.int)] ∧ h.get? a = some { cls := .type "list", data := .seq vs.toArray } ∧ IntsAre vs ns ∧ ns.length ≤ n := by
  have hsh : WShape.hasAll [] args [.list .int] = true := (pre_splitW hpre).1
  have hc : l.pre.holds [] { args := args } = true := (pre_splitW hpre).2
  obtain ⟨d, r, rfl, h1, h2⟩ := hasAllW_cons hsh
  obtain rfl := hasAllW_nil h2
  obtain ⟨xs, rfl, h3⟩ := hasW_list h1
  obtain ⟨ns, rfl⟩ := items_int h3
  have hlen : ns.length ≤ n := by
    unfold OpenLaw.pre at hc
    have h4 : (WTm.not (.lt (.lit (.int (n : Int))) (.len (.arg 0)))).holds [] { args := [.list (ns.map .int)] } = true := by
      have h4 := (holds_andW hc).1
      rw [hn] at h4
      exact h4
    have h5 := condW_of h4 (w_not (w_lt w_lit (w_len_list (w_arg rfl))))
    rw [List.length_map] at h5
    refine Nat.le_of_not_lt fun q => ?_
    have q' : (n : Int) < ((ns.length : Nat) : Int) := by omega
    first
      | (rw [decide_eq_true q'] at h5; exact absurd h5 (by decide))
      | (simp at h5; omega)
  cases hwl with
  | cons w1 w2 =>
    cases w2
    cases w1 with
    | list ho hall => exact ⟨_, _, ns, rfl, rfl, ho, ints_of_wellAll ns _ hall, hlen⟩

theorem post_true (l : OpenLaw) (args : List WData) : l.row.toRowW.claim.post args (.bool true) args = true :=
  postW_of (r := l.row.toRowW) (X := (true == true))
    (show WShape.has [] (.bool true) .bool = true by first | rfl | decide | simp [WShape.has, WShape.arms, WShape.armsAll])
    (show (WTm.eq .res (.lit (.bool true))).value [] { args := args, res := some (.bool true), after := args } = some (.bool (true == true)) from w_eq_bool (w_res rfl) w_lit) rfl

/-! ### the attachment: holds_open's last premise (the goal 'hc' behind k_head) from a wpAny of the law's body -/
/-- the same from a codeAny of the CALL (for a layer whose function contracts speak of calls) -/
theorem attach_call {l : OpenLaw} {n : Nat} {q : Program} {loose : List Str} {XP : (Str → Option Value) → Heap → Prop} {YP : World → Heap → Prop} {d : DefRec}
    (hn : l.most = some n) (hdf : d.params.defaults = [])
    (call : ∀ (w : World) (s₀ s₁ : Shared) (mg mb : Str → Option Value) (fa : Addr) (o : Obj) (pm cd doc : Value) (a : Addr) (vs : List Value) (ns : List Int),
      Ground q loose [] XP w s₀ mg mb s₁.heap → YP w s₁.heap →
      s₁.heap.get? fa = some o → o.data = .func (docDef d.name d.params d.body d.scope pm cd doc) → s₁.heap.CodeRec cd d.name → mg d.name = some (.ref fa) →
      s₁.heap.get? a = some { cls := .type "list", data := .seq vs.toArray } → IntsAre vs ns → ns.length ≤ n → s₁.gens = #[] →
      codeAny (model l.prog w) callerA (.call (.ref fa) ⟨[.ref a], []⟩) (fun r s' => r = .ok (.ret (.bool true)) ∧ OldK s₁.heap s'.heap ∧ s'.os = s₁.os ∧ AllBare s'.gens) s₁) :
    WalkO q loose XP YP l.row.toRowW d [] (fun f vs => PySem.call f vs) := by
  intro w s₀ s₁ mg mb G Y fa o pm cd doc dV kV ho hd hcd hD hmg hg args vals as hpre hlay hrd hwl hlo
  obtain rfl : dV = .none := Dflts.none hD hdf
  obtain rfl : kV = .none := Dflts.noKw hD
  obtain ⟨a, vs, ns, rfl, rfl, hobj, hints, hlen⟩ := script_of hn hpre hwl
  refine enter_call (codeAny_mono (call w s₀ s₁ mg mb fa o pm cd doc a vs ns G Y ho (fd_plain hd) hcd hmg hobj hints hlen hg) fun r s' hq => ?_)
  obtain ⟨rfl, h2, h3, h4⟩ := hq
  exact ⟨.inl ⟨.bool true, .bool true, [], rfl, fun _ => rfl, .bool true, post_true l _, fun _ => ⟨List.Pairwise.nil, fun _ hm => (nomatch hm)⟩⟩, h2, h3, h4⟩

/-! ### rules over ANY heap (no ledger) from facts about the written part K: the library's own take a ledger (News) for what they write -/
section
variable {prog : Program} {w : World} {A : Around} {E : Value → Shared → Prop} {s : Shared} {K : Frag}

/-! the whole heap as the ledger: makes every rule that writes through a ledger a rule over any heap -/
end
end Att

namespace L2
open PySem PySem.Spec PyProof.Rows

theorem vals_ints : ∀ {vs : List Value} {ns : List Int}, IntsAre vs ns → Vals (ns.map V.int) vs
  | _, _, .nil => .nil
  | _, _, .cons n t h => .cons ⟨t, rfl⟩ (vals_ints h)

/-- nothing is tracked but the script, known to the object (or it is an object of the module) -/
def Only (H : Hp) : Prop := ∀ b, H b = none ∨ ∃ o xs, H b = some (.frz o (.lst xs))

/-- THE HEAD: the law's promise, at the heap behind the top. F, the promise of the law's def, may use that base is part of the heap (so K.In base, base.Ns mainGlobals mg stand in Mod) -/
theorem law_call {P : Program} {w : World} {K : PySem.W.Frag} {mg mb : Str → Option Value} {CX : CXT} {k : Nat} {fa a : Addr} {fd : FuncData} {x : Str} {sp : Sp} {s₁ : Shared} {vs : List Value} {ns : List Int}
    (KX : K.In s₁.heap) (hns : s₁.heap.Ns mainGlobals mg) (hb : s₁.heap.Ns builtinsNs mb) (hbb : ∀ x : Str, x ≠ "__name__" → mb x = bootBuiltins x) (hlim : s₁.heap.NoLimit) (hg : s₁.gens = #[])
    (ha : s₁.heap.get? a = some { cls := .type "list", data := .seq vs.toArray }) (hi : IntsAre vs ns) (hl : ns.length ≤ sizeLine) (hr : Room k callerA)
    (F : ∀ base : Heap, K.In base → base.Ns mainGlobals mg → FnOk P w K mg base CX k fa fd [x] sp) (hbind : ∀ (s : Shared) (u : Value), BindsTo s fd ⟨[u], []⟩ [(x, u)])
    (hsp : ∀ H : Hp, Only H → SqL K H a (ns.map V.int) → sp [.ref a] H (fun v _ => v = .bl true) fun _ _ _ => False)
    (hCX : ∀ H e s', CX [] H s₁ (fun _ _ _ => False) e s' → False) :
    codeAny (model P w) callerA (.call (.ref fa) ⟨[.ref a], []⟩) (fun r s' => r = .ok (.ret (.bool true)) ∧ OldK s₁.heap s'.heap ∧ s'.os = s₁.os ∧ AllBare s'.gens) s₁ := by
  have rv := vals_ints hi
  have lenV := hi.length
  -- from an abstract heap in which nothing but the script may be tracked
  have core : ∀ H : Hp, Only H → SqL K H a (ns.map V.int) → HOk P w H s₁.heap → (∀ b, H b ≠ none → b = a) → (H a ≠ none → K.lookup a = none) →
      codeAny (model P w) callerA (.call (.ref fa) ⟨[.ref a], []⟩) (fun r s' => r = .ok (.ret (.bool true)) ∧ OldK s₁.heap s'.heap ∧ s'.os = s₁.os ∧ AllBare s'.gens) s₁ := by
    intro H hO hS hok hA hK
    have base_of : ∀ {b : Addr} {o : Obj}, s₁.heap.get? b = some o → H b = none → (hidT s₁.heap H).get? b = some o := fun e n => hidT_get e n
    have noA : ∀ {b : Addr} {o : Obj} {es : Array DictEntry} {ep : Nat}, s₁.heap.get? b = some o → o.data = .dict es ep → H b = none := fun {b o es ep} e d => by
      cases q : H b with
      | none => rfl
      | some u =>
        have e' : b = a := hA b (by rw [q]; simp)
        subst e'
        rw [ha] at e; cases e
        have d' : Data.seq vs.toArray _ = Data.dict es ep := d
        cases d'
    have nsK : ∀ {b : Addr} {m : Str → Option Value}, s₁.heap.Ns b m → (hidT s₁.heap H).Ns b m := fun {b m} ⟨o, es, ep, e, d, r⟩ => ⟨o, es, ep, base_of e (noA e d), d, r⟩
    have hKb : K.In (hidT s₁.heap H) := fun b o e => base_of (KX b o e) (by
      cases q : H b with
      | none => rfl
      | some u =>
        have e' : b = a := hA b (by rw [q]; simp)
        subst e'
        rw [hK (by rw [q]; simp)] at e; cases e)
    have hM : Mod K mg (hidT s₁.heap H) := ⟨hKb, nsK hns, ⟨mb, nsK hb, hbb⟩, let ⟨mc, h1, h2⟩ := hlim; ⟨mc, nsK h1, h2⟩⟩
    have e0 : Env0 P w K mg (hidT s₁.heap H) callerA [] s₁ H := ⟨rfl, hM, fun b o e => of_hidT e, Nat.le_of_eq (hidT_size _ _), trivial, fun b hb => absurd (show b ∈ ([] : List Addr) from hb) (by simp), hok, .of_eq hg⟩
    refine codeAny_mono ((F _ hKb (nsK hns)).run callerA [] s₁ H ⟨[.ref a], []⟩ [.ref a] [.ref a] _ _ hr e0 (hbind s₁ (.ref a)) (.cons rfl .nil) (hsp H hO hS)) fun r s' h => ?_
    cases r with
    | error e => exact (hCX H e s' h).elim
    | ok fl =>
      cases fl with
      | next => exact False.elim h
      | brk => exact False.elim h
      | cont => exact False.elim h
      | ret u =>
        obtain ⟨v, H', os, bare, un, hok', r', q⟩ := h
        have q' : v = .bl true := q
        subst q'
        obtain rfl : u = Value.bool true := r'
        refine ⟨rfl, OldK.of_keep fun b o e => ?_, os, bare⟩
        cases q : H b with
        | none => exact un.keep b o e q (by intro z; exact absurd (show b ∈ ([] : List Addr) from z) (by simp)) (by simp)
        | some u =>
          rcases hO b with z | ⟨ob, xs, z⟩
          · rw [q] at z; cases z
          · have z2 := un.frzs b ob _ z
            obtain ⟨e1, _⟩ := hok b _ z
            obtain ⟨e2, _⟩ := hok' b _ z2
            rw [e] at e1; cases e1
            exact e2
  cases hk : K.lookup a with
  | some o =>
    -- the script is one of the module's own objects
    have e := KX a o hk
    rw [ha] at e
    cases e
    refine core (fun _ => none) (fun _ => .inl rfl) (.inr ⟨_, vs.toArray, _, hk, rfl, rfl, rfl, by rw [List.size_toArray, lenV]; exact hl, by simpa using rv⟩) (fun b u z => by have z' : (none : Option HO) = some u := z; cases z') (fun b z => absurd rfl z) fun z => absurd rfl z
  | none =>
    refine core (fun b => if b = a then some (.frz { cls := .type "list", data := .seq vs.toArray } (.lst (ns.map V.int))) else none) (fun b => ?_) (.inl (.inr ⟨{ cls := .type "list", data := .seq vs.toArray }, if_pos rfl⟩)) (fun b u z => ?_) (fun b z => ?_) fun _ => hk
    · by_cases hb : b = a
      · exact .inr ⟨_, _, if_pos hb⟩
      · exact .inl (if_neg hb)
    · by_cases hb : b = a
      · have z' := (if_pos hb).symm.trans z
        cases z'
        subst hb
        exact ⟨ha, by rw [List.length_map]; exact hl, vs, _, rv, ha⟩
      · have z' := (if_neg hb).symm.trans z
        cases z'
    · by_cases hb : b = a
      · exact hb
      · exact absurd (if_neg hb) z
end L2

namespace L2
open PySem PySem.Spec PyProof.Rows

/-- the goal that k_head leaves (case hc), from the law's promise. F gives the function object fd (K's own) once, then the promise over every base -/
theorem walk_of {l : PySem.W.OpenLaw} {n k : Nat} {q : Program} {loose : List Str} {XP : (Str → Option Value) → Heap → Prop} {YP : World → Heap → Prop} {d : DefRec} {K : Params → PySem.W.Frag} {CX : World → CXT} {sp : World → Sp} {x : Str}
    (hn : l.most = some n) (hn2 : n ≤ sizeLine) (hdf : d.params.defaults = []) (hr : Room k callerA)
    (hY : ∀ (w : World) (h : Heap), YP w h → (K w.params).In h)
    (F : ∀ (w : World) (mg : Str → Option Value) (fa : Addr) (h : Heap), (K w.params).In h → h.Ns mainGlobals mg → mg d.name = some (.ref fa) →
      ∃ fd : FuncData, (∀ (s : Shared) (u : Value), BindsTo s fd ⟨[u], []⟩ [(x, u)]) ∧
        ∀ base : Heap, (K w.params).In base → base.Ns mainGlobals mg → FnOk l.prog w (K w.params) mg base (CX w) k fa fd [x] (sp w))
    (hsp : ∀ (w : World) (H : Hp) (a : Addr) (ns : List Int), ns.length ≤ n → Only H → SqL (K w.params) H a (ns.map V.int) → sp w [.ref a] H (fun v _ => v = .bl true) fun _ _ _ => False)
    (hCX : ∀ (w : World) (H : Hp) (s : Shared) (e : Value) (s' : Shared), CX w [] H s (fun _ _ _ => False) e s' → False) :
    PySem.W.WalkO q loose XP YP l.row.toRowW d [] (fun f vs => PySem.call f vs) := by
  refine Att.attach_call hn hdf fun w s₀ s₁ mg mb fa o pm cd doc a vs ns G Y ho hd hcd hmg hobj hints hlen hg => ?_
  have KX := hY w _ Y
  obtain ⟨fd, hb, hF⟩ := F w mg fa _ KX G.T.g hmg
  exact law_call KX G.T.g G.T.b G.T.builtins G.T.nolimit hg hobj hints (Nat.le_trans hlen hn2) hr hF hb (fun H hO hS => hsp w H a ns hlen hO hS) fun H e s' => hCX w H s₁ e s'
end L2

/-! SHORT WORDS over the layer: a def of the text, its body, what a loop and a test want. -/
namespace L2
open PySem PySem.Spec PyProof.Rows

/-! ### the text by places -/
/-- the j-th statement of a class's body -/
def inClass (s : Stmt) (j : Nat) : Stmt := match s with
  | .ClassDef _ _ _ body _ _ _ _ _ _ _ => body.getD j (.Pass ⟨0, 0, 0, 0⟩)
  | _ => .Pass ⟨0, 0, 0, 0⟩
def defArgs (s : Stmt) : Arguments := match s with
  | .FunctionDef _ a _ _ _ _ _ _ _ _ => a
  | _ => { posonlyargs := [], args := [], vararg := none, kwonlyargs := [], kw_defaults := [], kwarg := none, defaults := [] }
def defBody (s : Stmt) : List Stmt := match s with
  | .FunctionDef _ _ b _ _ _ _ _ _ _ => b
  | _ => []
def defScope (s : Stmt) : Scope := match s with
  | .FunctionDef _ _ _ _ _ _ sc _ _ _ => sc
  | _ => { kind := .function, names := [], isGenerator := false, isCoroutine := false }

/-! ### no exception leaves a def -/
abbrev CX0 : CXT := fun _ _ _ _ _ _ => False
abbrev E0 : XK := fun _ _ _ => False
theorem pass0 {X : Cx} : Passes CX0 X E0 := fun _ _ _ _ _ _ _ h => h.elim

/-! ### a def (or method) of the text as it stands behind the top -/
structure Fun (K : PySem.W.Frag) (x qual : Str) (st : Stmt) (f : Addr) (fd : FuncData) : Prop where
  ex : ∃ (oc : Value) (od : Option Addr) (kV doc pm : Value) (an : Option Addr) (cdv ct : Value) (osl : Array (Option Value)),
    fd = PySem.W.fnOf x qual (defArgs st) (defBody st) (defScope st) .none kV doc pm an cdv ct ∧ K.lookup f = some ⟨oc, od, .func fd, osl⟩ ∧ PySem.W.codeIn K cdv qual = true
  kp : PySem.W.keepIn K (.ref f) = true
section
variable {P : Program} {w : World} {K : PySem.W.Frag} {mg : Str → Option Value} {base : Heap}
/-- THE RULE for a def: its body as a term of rules, and the reading of that term -/
theorem Fun.ok {x qual : Str} {st : Stmt} {f : Addr} {fd : FuncData} {N ps : List Str} {k : Nat} {sp : Sp} (F : Fun K x qual st f fd) (S : FnScope N ps (defScope st)) (len : ∀ vs H Q E, sp vs H Q E → vs.length = ps.length)
    (hbody : ∀ (cdv : Value) (A : Around) (outer : List Env) (s : Shared) (H : Hp) (vs : List V) (Q : VK) (E : XK), Room k (A.deeper (envOfC qual (defScope st) s.heap.objs.size f cdv)) → sp vs H Q E →
      ∃ t, PSs (cxOf CX0 P w K mg base N qual (defScope st) f cdv A outer s H E).nox (defBody st) t ∧ t { nx := fun _ H' => Q .non H', rt := Q } (start N vs) H) : FnOk P w K mg base CX0 (k + 1) f fd ps sp := by
  obtain ⟨oc, od, kV, doc, pm, an, cdv, ct, osl, rfl, lk, hcd⟩ := F.ex
  refine fn_of lk hcd S len fun A outer s H vs Q E hr hsp => ?_
  obtain ⟨t, h, q⟩ := hbody cdv A outer s H vs Q E hr hsp
  exact ⟨t, h.nox, q⟩
/-- how its arguments bind (no defaults): h is «fun _ _ _ _ _ _ us hl => match us, hl with | [_, _], _ => rfl», one _ a parameter -/
theorem Fun.binds {x qual : Str} {st : Stmt} {f : Addr} {fd : FuncData} {ps : List Str} (F : Fun K x qual st f fd)
    (h : ∀ (kV doc pm : Value) (an : Option Addr) (cdv ct : Value) (us : List Value), us.length = ps.length → bindArgs (PySem.W.fnOf x qual (defArgs st) (defBody st) (defScope st) .none kV doc pm an cdv ct) ⟨us, []⟩ = pure (ps.zip us)) : Binds K fd ps [] := by
  obtain ⟨oc, od, kV, doc, pm, an, cdv, ct, osl, rfl, lk, hcd⟩ := F.ex
  exact .all (h kV doc pm an cdv ct)
theorem fun_mk {x qual : Str} {st : Stmt} {f : Addr} {oc : Value} {od an : Option Addr} {osl : Array (Option Value)} {kV doc pm cdv ct : Value} (l : K.lookup f = some ⟨oc, od, .func (PySem.W.fnOf x qual (defArgs st) (defBody st) (defScope st) .none kV doc pm an cdv ct), osl⟩)
    (c : PySem.W.codeIn K cdv qual = true) (k : PySem.W.keepIn K (.ref f) = true) : Fun K x qual st f (PySem.W.fnOf x qual (defArgs st) (defBody st) (defScope st) .none kV doc pm an cdv ct) := ⟨⟨oc, od, kV, doc, pm, an, cdv, ct, osl, rfl, l, c⟩, k⟩
end
theorem hu_of {A : Around} {k : Nat} (hr : Room k A) : A.units + 1 < cLine := Nat.lt_of_le_of_lt (Nat.add_le_add_left (by decide : 1 ≤ 64) _) hr.units
/-! ### expressions in short: the name that stands in the i-th slot -/
section
variable {X : Cx}
theorem pv (i : Nat) {x : Str} {pos : Pos} (hN : X.N[i]? = some x := by rfl) (hv : Vis X.env.scope x := by first | exact Or.inl rfl | exact Or.inr (Or.inl rfl) | exact Or.inr (Or.inr rfl)) (hd : (x == ("__debug__" : Str)) = false := by decide)
    (hcd : (x == ("__classdict__" : Str)) = false := by decide) : PE X (.Name x pos) (tVar i) := pe_var hN hv hd hcd
end

/-! ### tests -/
theorem iteF {A B : Prop} (h : B) : if false = true then A else B := by
  rw [if_neg Bool.false_ne_true]
  exact h
theorem iteT {A B : Prop} (h : A) : if true = true then A else B := by
  rw [if_pos rfl]
  exact h
theorem ite2 {c A B : Prop} [Decidable c] (h1 : c → A) (h2 : ¬ c → B) : if c then A else B := by
  by_cases h : c
  · rw [if_pos h]
    exact h1 h
  · rw [if_neg h]
    exact h2 h
theorem iteNS {c A B : Prop} [Decidable c] (hc : c) (h : B) : if (!decide c) = true then A else B := by
  rw [decide_eq_true hc]
  exact iteF h

/-! ### heaps -/
/-- all that was tracked is as it was -/
def Same (H H' : Hp) : Prop := ∀ b o, H b = some o → H' b = some o
theorem Same.refl (H : Hp) : Same H H := fun _ _ h => h
theorem Same.trans {H H1 H2 : Hp} (a : Same H H1) (b : Same H1 H2) : Same H H2 := fun c o h => b c o (a c o h)
theorem Same.free {H H' : Hp} (e : Same H H') {l : Addr} (h : H' l = Option.none) : H l = Option.none := by
  cases q : H l with
  | none => rfl
  | some o =>
    rw [e l o q] at h
    cases h
theorem Same.seq {K : PySem.W.Frag} {H H' : Hp} {a : Addr} {xs : List V} (e : Same H H') (h : SqL K H a xs) : SqL K H' a xs := by
  rcases h with (h | ⟨o, h⟩) | h
  · exact .inl (.inl (e _ _ h))
  · exact .inl (.inr ⟨o, e _ _ h⟩)
  · exact .inr h

end L2

set_option linter.all false
set_option maxRecDepth 100000
set_option maxHeartbeats 4000000
/-! Comprehensions for the hand layer. -/
namespace L2
open PySem PySem.Spec PyProof.Rows

theorem closureFor_ok {scope : Scope} {env : Env} (h : ∀ y ∈ scope.names, y.2 = .free → ∃ c, env.cells.lookup y.1 = some c) :
    ∃ cl, closureFor scope env = pure cl ∧ (∀ y ∈ scope.names, y.2 = NameKind.free → cl.lookup y.1 = env.cells.lookup y.1) ∧ (∀ x c, cl.lookup x = some c → env.cells.lookup x = some c) := by
  have key : ∀ (names : List (Str × NameKind)) (acc : List (Str × Addr)) (f : Str × NameKind → List (Str × Addr) → Sem (ForInStep (List (Str × Addr)))),
      (∀ x cs, f x cs = if (x.2 == NameKind.free) = true then (cellOf env x.1 >>= fun a => pure (ForInStep.yield ((x.1, a) :: cs))) else pure (ForInStep.yield cs)) →
      (∀ y ∈ names, y.2 = .free → ∃ c, env.cells.lookup y.1 = some c) → (∀ x c, acc.lookup x = some c → env.cells.lookup x = some c) →
      ∃ cl, forIn names acc f = pure cl ∧ (∀ x c, acc.lookup x = some c → cl.lookup x = env.cells.lookup x) ∧ (∀ y ∈ names, y.2 = NameKind.free → cl.lookup y.1 = env.cells.lookup y.1) ∧ (∀ x c, cl.lookup x = some c → env.cells.lookup x = some c) := by
    intro names
    induction names with
    | nil =>
      intro acc f _ _ ha
      exact ⟨acc, rfl, fun x c e => by rw [e, ha x c e], fun _ h => (nomatch h), ha⟩
    | cons y r ih =>
      intro acc f hf hn ha
      obtain ⟨n, k⟩ := y
      rw [List.forIn_cons, hf]
      by_cases hk : k = .free
      · subst hk
        obtain ⟨c, hc⟩ := hn (n, .free) List.mem_cons_self rfl
        have hc' : cellOf env n = pure c := by unfold cellOf; rw [hc]
        have ha' : ∀ x d, ((n, c) :: acc).lookup x = some d → env.cells.lookup x = some d := fun x d e => by
          rw [List.lookup_cons] at e
          cases hx : x == n with
          | true =>
            rw [hx] at e
            have e' : c = d := Option.some.inj e
            have hx' : x = n := by simpa using hx
            rw [hx', hc, e']
          | false =>
            rw [hx] at e
            exact ha x d e
        obtain ⟨cl, e, h1, h2, h3⟩ := ih ((n, c) :: acc) f hf (fun y hy => hn y (List.mem_cons_of_mem _ hy)) ha'
        refine ⟨cl, ?_, fun x d ex => ?_, fun y hy hyf => ?_, h3⟩
        · rw [if_pos (by rfl)]
          show ((cellOf env n >>= fun a => pure (ForInStep.yield ((n, a) :: acc))) >>= _) = pure cl
          rw [hc', pure_bind, pure_bind]
          exact e
        · by_cases hxn : x = n
          · subst hxn
            exact h1 x c (by rw [List.lookup_cons, beq_self_eq_true])
          · refine h1 x d ?_
            rw [List.lookup_cons, beq_eq_false_iff_ne.mpr hxn]
            exact ex
        · rcases List.mem_cons.mp hy with rfl | hy
          · exact h1 _ c (by rw [List.lookup_cons, beq_self_eq_true])
          · exact h2 y hy hyf
      · have hb : (k == NameKind.free) = false := by simpa using hk
        obtain ⟨cl, e, h1, h2, h3⟩ := ih acc f hf (fun y hy => hn y (List.mem_cons_of_mem _ hy)) ha
        refine ⟨cl, ?_, h1, fun y hy hyf => ?_, h3⟩
        · show ((if (k == NameKind.free) = true then _ else pure (ForInStep.yield acc)) >>= _) = pure cl
          rw [if_neg (by rw [hb]; exact Bool.false_ne_true), pure_bind]
          exact e
        · rcases List.mem_cons.mp hy with rfl | hy
          · exact absurd hyf hk
          · exact h2 y hy hyf
  have z := key scope.names [] (fun x cs => if (x.2 == NameKind.free) = true then (cellOf env x.1 >>= fun a => pure (ForInStep.yield ((x.1, a) :: cs))) else pure (ForInStep.yield cs)) (fun _ _ => rfl) h (fun _ _ e => (nomatch e))
  obtain ⟨cl, e, _, h2, h3⟩ := z
  refine ⟨cl, ?_, h2, h3⟩
  show (forIn scope.names [] _ >>= pure) = pure cl
  exact (congrArg (· >>= pure) e).trans (pure_bind _ _)

/-- the context of a comprehension's block -/
abbrev compX (X : Cx) (scope : Scope) (N : List Str) (s₀ : Shared) (H₀ : Hp) (cl : List (Str × Addr)) (C : Addr) (ex : List Addr) : Cx :=
  { prog := X.prog, w := X.w, K := X.K, mg := X.mg, base := X.base, A := X.A, N := N, s₀ := s₀, H₀ := H₀, env := compEnvC scope cl C X.env,
    outer := X.stack, stack := X.stack, ex := ex, fn := fun _ => false, calm := X.calm, pn := [], xe := fun _ _ => False }

/-- the loop of a comprehension, an item at a time; nothing raises -/
theorem compLoop_any {prog : Program} {w : World} {A : Around} {R : Result → Shared → Prop} {s : Shared} {elt target iter : Expr} {ifs : List Expr} {scope : Scope} {pos : Pos} {it acc : Value} {env : Env} (I : Nat → Shared → Prop)
    (turn : ∀ n s, I n s → wpAny (model prog w) A (pyNext it) (fun r s₁ => match r with
      | none => R (.ok .next) s₁
      | some v => wpAny (model prog w) A (letOwnedTupleGo target it v) (fun _ s₁' => wpAny (model prog w) A (assign target env v) (fun _ s₂ =>
          wpAny (model prog w) A (forIn ifs true fun c r => if r = true then do let ok ← isTrue c env (eval c env); pure (ForInStep.yield ok) else pure (ForInStep.yield r)) (fun ok s₃ =>
            if ok = true then wpAny (model prog w) A (eval elt env) (fun x s₄ =>
              wpAny (model prog w) A (call (.builtin "list.append") [acc, x]) (fun _ s₅ => ∃ m, m < n ∧ I m s₅) (fun _ _ => False) s₄) (fun _ _ => False) s₃
            else ∃ m, m < n ∧ I m s₃) (fun _ _ => False) s₂) (fun _ _ => False) s₁') (fun _ _ => False) s₁) (fun _ _ => False) s)
    (n : Nat) (h : I n s) :
    codeAny (model prog w) A (.compLoop (.ListComp elt [⟨target, iter, ifs, 0⟩] scope pos) 0 it acc env) R s := by
  refine codeAny_loop rfl I (fun n s hI => ?_) n h
  show wpAny _ A ((compTurn (.ListComp elt [⟨target, iter, ifs, 0⟩] scope pos) 0 it acc env).onRaise (fun x => do noteFrame x env; theTreesLotGoes x)) _ _ s
  refine wpAny_noted ?_
  rw [compTurn_list]
  refine wpAny_bind (wpAny_standAt (wpAny_bind (wpAny_mono (turn n s hI) (fun r s₁ h₁ => ?_) fun _ _ z => z.elim)))
  cases r with
  | none => exact wpAny_pure h₁
  | some v =>
    refine wpAny_bind (wpAny_mono h₁ (fun _ s₁' h₁' => ?_) fun _ _ z => z.elim)
    refine wpAny_bind (wpAny_mono h₁' (fun _ s₂ h₂ => wpAny_bind (wpAny_mono h₂ (fun ok s₃ h₃ => ?_) fun _ _ z => z.elim)) fun _ _ z => z.elim)
    cases ok with
    | false => exact wpAny_pure ⟨rfl, h₃⟩
    | true =>
      exact wpAny_bind (wpAny_bind (wpAny_mono h₃ (fun x s₄ h₄ => wpAny_bind (wpAny_mono h₄ (fun _ s₅ h₅ => wpAny_pure (wpAny_pure ⟨rfl, h₅⟩)) fun _ _ z => z.elim)) fun _ _ z => z.elim))

/-- the tests of a comprehension -/
def PIfs (X : Cx) (ifs : List Expr) (t : TT) : Prop :=
  ∀ (pins : List (Addr × Obj)) (s : Shared) (σ : St) (H : Hp) (Q : Bool → Hp → Prop), Inv X pins σ H s → t σ H Q →
    wpAny (model X.prog X.w) X.A (forIn ifs true fun c r => if r = true then do let ok ← isTrue c X.env (eval c X.env); pure (ForInStep.yield ok) else pure (ForInStep.yield r)) (TP X pins σ Q) X.xe s
def tYes : TT := fun _ H Q => Q true H
theorem pifs_nil {X : Cx} : PIfs X [] tYes := fun _ _ _ H _ I h => wpAny_tests_nil ⟨H, I, h⟩
theorem pifs_one {X : Cx} {c : Expr} {t : TT} (hc : PT X c t) : PIfs X [c] t := fun pins s σ H Q I h => wpAny_tests_one (hc pins s σ H Q I h)

/-- what the loop of a comprehension is worth -/
def CompW (J : It) (H1 : Hp) (σ0 : St) (g : TG) (tc : TT) (te : TE) (Q : VK) : Prop := ∀ D, H1 D = none →
  ∃ W : Nat → Nat → St → List V → Hp → Prop, (∃ m, W 0 m σ0 [] (upd H1 D (.lst []))) ∧ ∀ i m σ1 ys H, W i m σ1 ys H →
    (J.stop i H ∧ Q (.ref D) H) ∨ (J.go i H ∧ ∀ x H', J.yld i H x H' → g x σ1 H' fun σ2 H2 => tc σ2 H2 fun b H3 =>
       if b = true then te σ2 H3 fun y H4 => H4 D = some (.lst ys) ∧ ys.length < sizeLine ∧ ∃ m', m' < m ∧ W (i + 1) m' σ2 (ys ++ [y]) (upd H4 D (.lst (ys ++ [y])))
       else ∃ m', m' < m ∧ W (i + 1) m' σ2 ys H3)
/-- what a comprehension is worth -/
def tComp (wi : TI) (sub : St → St) (g : TG) (tc : TT) (te : TE) : TE := fun σ H Q => wi σ H fun J H1 => CompW J H1 (sub σ) g tc te Q
/-- the block's slots: those that it takes over from the frame -/
def subσ (js : List (Option Nat)) (σ : St) : St := js.map fun o => o.bind fun j => (σ[j]?).join

theorem lookup_relabel_free {env : Env} : ∀ {names : List (Str × NameKind)} {x : Str}, names.lookup x = some .free →
    (names.map fun (n, k) => if (k == NameKind.free && env.scope.kind == .function && env.kindOf n == some .cell) then (n, NameKind.cell) else (n, k)).lookup x = some .cell ∨
    (names.map fun (n, k) => if (k == NameKind.free && env.scope.kind == .function && env.kindOf n == some .cell) then (n, NameKind.cell) else (n, k)).lookup x = some .free
  | [], _, h => by simp at h
  | (n, k) :: r, x, h => by
    have ih := @lookup_relabel_free env r x
    show List.lookup x ((if (k == NameKind.free && env.scope.kind == .function && env.kindOf n == some .cell) = true then (n, NameKind.cell) else (n, k)) :: _) = _ ∨ List.lookup x ((if (k == NameKind.free && env.scope.kind == .function && env.kindOf n == some .cell) = true then (n, NameKind.cell) else (n, k)) :: _) = _
    cases hx : x == n with
    | true =>
      simp only [List.lookup_cons, hx] at h
      cases h
      by_cases hc : (NameKind.free == NameKind.free && env.scope.kind == .function && env.kindOf n == some .cell) = true
      · rw [if_pos hc]; left; simp only [List.lookup_cons, hx]
      · rw [if_neg hc]; right; simp only [List.lookup_cons, hx]
    | false =>
      simp only [List.lookup_cons, hx] at h
      by_cases hc : (k == NameKind.free && env.scope.kind == .function && env.kindOf n == some .cell) = true
      · rw [if_pos hc]; simp only [List.lookup_cons, hx]; exact ih h
      · rw [if_neg hc]; simp only [List.lookup_cons, hx]; exact ih h
/-- a name of the block that is a cell or free there was free in its scope -/
theorem relabel_back {env : Env} : ∀ {names : List (Str × NameKind)} {x : Str}, (∀ y ∈ names, y.2 ≠ NameKind.cell) →
    ((names.map fun (n, k) => if (k == NameKind.free && env.scope.kind == .function && env.kindOf n == some .cell) then (n, NameKind.cell) else (n, k)).lookup x = some .cell ∨
    (names.map fun (n, k) => if (k == NameKind.free && env.scope.kind == .function && env.kindOf n == some .cell) then (n, NameKind.cell) else (n, k)).lookup x = some .free) → (x, NameKind.free) ∈ names
  | [], _, _, h => by simp at h
  | (n, k) :: r, x, hn, h => by
    have ih := @relabel_back env r x fun y hy => hn y (List.mem_cons_of_mem _ hy)
    have hk : k ≠ .cell := hn (n, k) List.mem_cons_self
    change List.lookup x ((if (k == NameKind.free && env.scope.kind == .function && env.kindOf n == some .cell) = true then (n, NameKind.cell) else (n, k)) :: _) = _ ∨ List.lookup x ((if (k == NameKind.free && env.scope.kind == .function && env.kindOf n == some .cell) = true then (n, NameKind.cell) else (n, k)) :: _) = _ at h
    cases hx : x == n with
    | true =>
      have hx' : x = n := by simpa using hx
      subst hx'
      by_cases hc : (k == NameKind.free && env.scope.kind == .function && env.kindOf x == some .cell) = true
      · have : k = .free := by
          have := (Bool.and_eq_true _ _).mp ((Bool.and_eq_true _ _).mp hc).1
          simpa using this.1
        subst this
        exact List.mem_cons_self
      · rw [if_neg hc] at h
        simp only [List.lookup_cons, beq_self_eq_true] at h
        rcases h with h | h
        · exact absurd (Option.some.inj h) hk
        · have := Option.some.inj h
          subst this
          exact List.mem_cons_self
    | false =>
      by_cases hc : (k == NameKind.free && env.scope.kind == .function && env.kindOf n == some .cell) = true
      · rw [if_pos hc] at h; simp only [List.lookup_cons, hx] at h; exact List.mem_cons_of_mem _ (ih h)
      · rw [if_neg hc] at h; simp only [List.lookup_cons, hx] at h; exact List.mem_cons_of_mem _ (ih h)

section
variable {X : Cx} {elt tg iter : Expr} {ifs : List Expr} {scope : Scope} {pos : Pos} {N : List Str} {js : List (Option Nat)} {wi : TI} {g : TG} {tc : TT} {te : TE}
/-- the scope of a comprehension in a frame of scope osc and names ON: no cells of its own; its free names are the frame's cells; the slots taken over bear their names -/
structure CompScope (osc : Scope) (ON : List Str) (scope : Scope) (N : List Str) (js : List (Option Nat)) : Prop where
  kind : scope.kind = .function
  cell : ∀ y ∈ scope.names, y.2 ≠ .cell
  names : ∀ y ∈ scope.names, y.2 = .local → scope.names.lookup y.1 = some .local
  free : ∀ y ∈ scope.names, y.2 = .free → osc.names.lookup y.1 = some .cell ∨ osc.names.lookup y.1 = some .free
  len : js.length = N.length
  slots : (js.zip N).all (fun p => match p.1 with | none => true | some j => decide (ON[j]? = some p.2) && decide (scope.names.lookup p.2 = some .free)) = true
theorem CompScope.sub {osc : Scope} {ON : List Str} {scope : Scope} {N : List Str} {js : List (Option Nat)} (cs : CompScope osc ON scope N js) : ∀ (i j : Nat), js[i]? = some (some j) → ∃ x, N[i]? = some x ∧ ON[j]? = some x ∧ scope.names.lookup x = some .free := by
  intro i j h
  have hi : i < js.length := (List.getElem?_eq_some_iff.mp h).1
  have hN : N[i]? = some (N[i]'(by rw [← cs.len]; exact hi)) := List.getElem?_eq_getElem _
  have hz : (js.zip N)[i]? = some (some j, N[i]'(by rw [← cs.len]; exact hi)) := by
    rw [List.getElem?_zip_eq_some]
    exact ⟨h, hN⟩
  have hm := List.all_eq_true.mp cs.slots _ (List.mem_of_getElem? hz)
  have hm2 := (Bool.and_eq_true _ _).mp hm
  exact ⟨_, hN, of_decide_eq_true hm2.1, of_decide_eq_true hm2.2⟩

theorem mem_of_lookup {α : Type} : ∀ {l : List (Str × α)} {x : Str} {k : α}, l.lookup x = some k → (x, k) ∈ l
  | [], _, _, h => by simp at h
  | (n, v) :: r, x, k, h => by
    rw [List.lookup_cons] at h
    cases hx : x == n with
    | true =>
      rw [hx] at h
      have hx' : x = n := by simpa using hx
      have : v = k := Option.some.inj h
      subst hx' this
      exact List.mem_cons_self
    | false =>
      rw [hx] at h
      exact List.mem_cons_of_mem _ (mem_of_lookup h)

theorem pe_comp {osc : Scope} {ON : List Str} (cs : CompScope osc ON scope N js) (ho : X.env.scope = osc) (hON : X.N = ON) (hc : X.calm = true) (hi : PI X tg iter wi)
    (hg : ∀ s₀ H₀ cl C ex, PG (compX X scope N s₀ H₀ cl C ex) tg g) (hif : ∀ s₀ H₀ cl C ex, PIfs (compX X scope N s₀ H₀ cl C ex) ifs tc) (he : ∀ s₀ H₀ cl C ex, PE (compX X scope N s₀ H₀ cl C ex) elt te)
    (hs : ∀ x, foldedSetIterable iter X.env x = pure x := by intro _; rfl) : PE X (.ListComp elt [⟨tg, iter, ifs, 0⟩] scope pos) (tComp wi (subσ js) g tc te) := by
  intro pins s σ H Q I h
  subst ho hON
  obtain ⟨cl, hcl, cl1, cl2⟩ := closureFor_ok (scope := scope) (env := X.env) fun y hy hf => I.ok.has y.1 (cs.free y hy hf)
  rw [eval_ListComp]
  refine wpAny_comprehension_free (use := none) rfl hs hcl cs.kind cs.names ?_
  refine thn (hi pins s σ H _ I h) fun v s1 h1 => thn h1 fun itv s2 h2 => ?_
  obtain ⟨it, fp, tn, J, H2, e, I2, T, st2, f2, hW⟩ := h2
  subst e
  have hD0 : H2 s2.heap.objs.size = none := I2.hok.fresh (Nat.le_refl _)
  obtain ⟨W, ⟨m0, w0⟩, turn⟩ := hW s2.heap.objs.size hD0
  have I3 := I2.lnew (t' := s2.toks) (ys := []) (its := []) .nil (Nat.zero_le _)
  refine wpAny_newObj_type (wpAny_newFunctionEnv cs.cell (by intro y hy; simp at hy) (fun h₁ hns₁ hsb₁ => ?_) cs.kind)
  dsimp only at hns₁ hsb₁ ⊢
  -- the state with the new list: s3
  obtain ⟨s3, hs3⟩ : ∃ s3 : Shared, s3 = { s2 with heap := s2.heap.push { cls := .type "list", data := .seq ([] : List Value).toArray }, toks := s2.toks } := ⟨_, rfl⟩
  rw [← hs3] at I3
  have e3 : s3.heap = s2.heap.push { cls := .type "list", dict := none, data := .seq ([] : List Value).toArray } := by rw [hs3]
  have e3o : s3.os = s2.os := by rw [hs3]
  have e3g : s3.gens = s2.gens := by rw [hs3]
  rw [← e3] at hns₁ hsb₁ ⊢
  obtain ⟨H3, hH3⟩ : ∃ H3 : Hp, H3 = upd H2 s2.heap.objs.size (.lst []) := ⟨_, rfl⟩
  rw [← hH3] at I3 w0
  have up1 : ∀ b o, s2.heap.get? b = some o → s3.heap.get? b = some o := fun b o q => by rw [e3]; exact Heap.get?_push_of_some _ q
  have up2 : ∀ b o, s3.heap.get? b = some o → h₁.get? b = some o := fun b o q => hsb₁.extBut b o (Nat.ne_of_lt (Heap.lt_size q)) (Heap.get?_push_of_some _ q)
  have fpo : ∀ b ∈ fp, ∃ o, s3.heap.get? b = some o := fun b hb => by
    obtain ⟨o, ho, _⟩ := T.obj 0 _ st2 b hb
    exact ⟨o, up1 b o ho⟩
  have fr3 : ∀ b ∈ fp, H3 b = none := fun b hb => by
    obtain ⟨o, ho, _⟩ := T.obj 0 _ st2 b hb
    rw [hH3, upd_ne (Nat.ne_of_lt (Heap.lt_size ho))]
    exact (f2 b hb).1
  have fpC : ∀ b ∈ fp, b ≠ s3.heap.objs.size := fun b hb => by
    obtain ⟨o, ho⟩ := fpo b hb
    exact Nat.ne_of_lt (Heap.lt_size ho)
  have fpS : ∀ b ∈ fp, b ∉ frs X.stack := fun b hb hs' => by
    rcases List.mem_cons.mp (I2.stkSub b hs') with z | z
    · exact (f2 b hb).2.1 z
    · exact (f2 b hb).2.2.1 z
  have ok' : (compX X scope N s3 H3 cl s3.heap.objs.size fp).Ok := by
    refine ⟨I.ok.mod, cs.kind, I.ok.glob, I.ok.blt, Nat.le_refl _, fun x y c e1 e2 => I.ok.inj x y c (cl2 x c e1) (cl2 y c e2), fun x hx => ?_, fun x c hf => (nomatch hf), I.ok.hd, I.ok.frames, .inl rfl, fun b hb => ⟨fpC b hb, fun x c e => (f2 b hb).2.2.2.2.1 x c (cl2 x c e)⟩,
      I3.bs, Nat.le_trans I.ok.bsz I3.sz, fun b o e hb => ?_, fun b hb => fpS b hb, I3.stack, I3.stkFree⟩
    · have hm : (x, NameKind.free) ∈ scope.names := relabel_back cs.cell hx
      obtain ⟨c, hc⟩ := I.ok.has x (cs.free _ hm rfl)
      exact ⟨c, (cl1 _ hm rfl).trans hc⟩
    · rcases (f2 b hb).2.2.2.1 with z | z
      · exact I.ok.noex b o e z
      · exact absurd (Nat.lt_of_lt_of_le (Heap.lt_size e) (Nat.le_trans I.ok.bsz z)) (Nat.lt_irrefl _)
  have cellK : ∀ c v, s3.heap.IsCell c v → h₁.IsCell c v := fun c v ⟨o, ho, hd⟩ => ⟨o, up2 c o ho, hd⟩
  have I4 : ∀ t : Nat, Inv (compX X scope N s3 H3 cl s3.heap.objs.size fp) [] (subσ js σ) H3 { s2 with heap := h₁, toks := t } := fun t => by
    refine ⟨ok', e3o.symm, I2.bare, Un.kept up2, ⟨_, hns₁, fun i x v hi hv hx => ?_⟩, fun x c e => ?_, I3.hok.fresh (Nat.le_refl _), fun x c e => I3.freeC x c (cl2 x c e), fun p hp => (nomatch hp), I3.hok.kept up2, ?_⟩
    · -- a slot taken over
      have hv' : ∃ j, js[i]? = some (some j) ∧ σ[j]? = some (some v) := by
        unfold subσ at hv
        rw [List.getElem?_map] at hv
        cases hj : js[i]? with
        | none => rw [hj] at hv; cases hv
        | some o =>
          rw [hj] at hv
          cases o with
          | none => cases hv
          | some j =>
            refine ⟨j, rfl, ?_⟩
            have hv2 : (σ[j]?).join = some v := Option.some.inj hv
            cases hs2 : σ[j]? with
            | none => rw [hs2] at hv2; cases hv2
            | some u => rw [hs2] at hv2; exact congrArg some hv2
      obtain ⟨j, hj, hσ⟩ := hv'
      obtain ⟨x', h1', h2', h3'⟩ := cs.sub i j hj
      have hxx : x = x' := Option.some.inj (hi.symm.trans h1')
      subst hxx
      have hm : (x, NameKind.free) ∈ scope.names := mem_of_lookup h3'
      have hk := cs.free _ hm rfl
      obtain ⟨m, hn, hl⟩ := id I3.loc
      obtain ⟨u, ru, lk⟩ := hl j x v h2' hσ (by rcases hk with z | z; exact .inr (.inl z); exact .inr (.inr z))
      refine ⟨u, ru, ?_⟩
      rcases lk with ⟨k1, _⟩ | ⟨k1, c, e1, z⟩
      · rcases hk with z | z <;> (rw [show X.env.kindOf x = _ from z] at k1; cases k1)
      · exact .inr ⟨lookup_relabel_free h3', c, (cl1 _ hm rfl).trans e1, cellK c _ z⟩
    · obtain ⟨v, z⟩ := I3.cell x c (cl2 x c e)
      exact ⟨v, cellK c v z⟩
    · unfold subσ
      rw [List.length_map]
      exact cs.len
  have hst₁ : tn 0 h₁ := T.keep 0 _ _ st2 fun b hb o q => up2 b o (up1 b o q)
  have stat : ∀ {H' : Hp}, (∀ b ∈ fp, H' b = none) → ∀ b ∈ fp, FpOk (compX X scope N s3 H3 cl s3.heap.objs.size fp) [] H' b := fun hn b hb =>
    ⟨hn b hb, fpC b hb, fpS b hb, .inl hb, fun x c e => (f2 b hb).2.2.2.2.1 x c (cl2 x c e), fun p hp => (nomatch hp)⟩
  have loop : ∀ s4 : Shared, (∃ t, s4 = { s2 with heap := h₁, toks := t }) →
      codeAny (model X.prog X.w) X.A (.compLoop (.ListComp elt [⟨tg, iter, ifs, 0⟩] scope pos) 0 (.ref it) (.ref s2.heap.objs.size) (compEnvC scope cl s3.heap.objs.size X.env))
        (compPost (model X.prog X.w) X.A X.xe none (EP X pins σ Q) (.ref s2.heap.objs.size) s3.heap.objs.size) s4 := by
    rintro s4 ⟨t, rfl⟩
    refine compLoop_any (fun n s' => ∃ i σ' ys H', Inv (compX X scope N s3 H3 cl s3.heap.objs.size fp) [] σ' H' s' ∧ tn i s'.heap ∧ (∀ b ∈ fp, H' b = none) ∧ W i n σ' ys H') ?_ m0 ⟨0, _, [], H3, I4 t, hst₁, fr3, w0⟩
    rintro n s5 ⟨i, σ5, ys, H5, I5, st5, fr5, w5⟩
    rcases turn i n σ5 ys H5 w5 with ⟨stop, qn⟩ | ⟨go, step⟩
    · refine thn (T.done (compX X scope N s3 H3 cl s3.heap.objs.size fp) rfl rfl rfl hc i [] s5 σ5 H5 _ I5 (stat fr5) st5 stop) fun r s6 ⟨hr, I6⟩ => ?_
      subst hr
      obtain ⟨m, hn, _⟩ := id I6.loc
      refine ⟨m, hn, fun h' hs' => ⟨.ref s2.heap.objs.size, H5, ?_, rfl, qn⟩⟩
      have neC : ∀ b o, s3.heap.get? b = some o → b ≠ s3.heap.objs.size := fun b o q => Nat.ne_of_lt (Heap.lt_size q)
      have un : Un (frs X.stack) fp H3 H5 s3.heap h' :=
        ⟨fun b o q n1 hb hx => (hs'.2 b (neC b o q)).trans (I6.base.keep b o q n1 hb hx),
         fun b o q n1 hb hx => by
           obtain ⟨sl, e⟩ := I6.base.slot b o q n1 hb hx
           exact ⟨sl, (hs'.2 b (neC b o q)).trans e⟩,
         fun b o q n1 hx => I6.base.free b o q n1 hx,
         fun b o q hx => by
           obtain ⟨o', e⟩ := I6.base.there b o q hx
           exact ⟨o', (hs'.2 b (neC b o q)).trans e⟩,
         I6.base.tups, I6.base.frzs, I6.base.tbls⟩
      refine I3.call' (ch := fp) (s' := { s6 with heap := h' }) I6.os un (fun b ob e => ?_) I6.bare (fun b hb => ⟨(f2 b hb).2.2.2.1, (f2 b hb).2.1, (f2 b hb).2.2.2.2.1, (f2 b hb).2.2.2.2.2⟩)
      refine (I6.hok b ob e).stay (fun c w' hc' q => (hs'.2 c ?_).trans q) (fun _ q => q) fun _ _ q => q
      rintro rfl
      have fC : H5 s3.heap.objs.size = none := I6.free
      rcases hc' with z | z
      · rw [← z, fC] at e; cases e
      · rw [fC] at z; cases z
    · refine thn (T.item (compX X scope N s3 H3 cl s3.heap.objs.size fp) rfl rfl rfl hc i [] s5 σ5 H5 _ I5 (stat fr5) st5 go) fun r s6 ⟨u, hr, h6⟩ => ?_
      subst hr
      refine thn h6 fun _ s7 ⟨x, H7, I7, r7, y7, st7, fr7⟩ => ?_
      have I7' := I7.pinned (stat fr7) (T.obj _ _ st7)
      refine thn (hg _ _ _ _ _ _ s7 σ5 H7 x u _ I7' r7 (step x H7 y7)) fun _ s8 ⟨σ8, H8, I8, q8⟩ => ?_
      refine thn (hif _ _ _ _ _ _ s8 σ8 H8 _ I8 q8) fun ok s9 ⟨H9, I9, q9⟩ => ?_
      have again : ∀ {σ' : St} {H' : Hp} {s' : Shared}, Inv (compX X scope N s3 H3 cl s3.heap.objs.size fp) ([] ++ pinsAt fp s7.heap) σ' H' s' →
          Inv (compX X scope N s3 H3 cl s3.heap.objs.size fp) [] σ' H' s' ∧ tn (i + 1) s'.heap ∧ ∀ b ∈ fp, H' b = none := fun {σ' H' s'} I' => by
        refine ⟨I'.unpinned, T.keep _ _ _ st7 fun b hb o e => (I'.pin (b, o) (List.mem_append_right _ (List.mem_append_right _ (mem_pinsAt hb e)))).1, fun b hb => ?_⟩
        obtain ⟨o, e, d⟩ := T.obj _ _ st7 b hb
        exact (I'.pin (b, o) (List.mem_append_right _ (List.mem_append_right _ (mem_pinsAt hb e)))).2.1
      cases ok with
      | false =>
        rw [if_neg Bool.false_ne_true] at q9 ⊢
        obtain ⟨m', hm, w9⟩ := q9
        obtain ⟨a1, a2, a3⟩ := again I9
        exact ⟨m', hm, i + 1, σ8, ys, H9, a1, a2, a3, w9⟩
      | true =>
        rw [if_pos rfl] at q9 ⊢
        refine thn (he _ _ _ _ _ _ s9 σ8 H9 _ I9 q9) fun yv s10 ⟨y, H10, I10, r10, q10⟩ => ?_
        obtain ⟨hD, hz, m', hm, w10⟩ := q10
        refine thn (mt_append (X := compX X scope N s3 H3 cl s3.heap.objs.size fp) _ s10 σ8 H10 (.ref s2.heap.objs.size) [y] (.ref s2.heap.objs.size) [yv] (fun v H' => H' = upd H10 s2.heap.objs.size (.lst (ys ++ [y]))) I10 rfl (.cons r10 .nil)
          ⟨s2.heap.objs.size, ys, y, rfl, rfl, hD, hz, rfl⟩) fun _ s11 ⟨v11, H11, I11, _, e11⟩ => ?_
        have e11' : H11 = upd H10 s2.heap.objs.size (.lst (ys ++ [y])) := e11
        subst e11'
        obtain ⟨a1, a2, a3⟩ := again I11
        exact ⟨m', hm, i + 1, σ8, ys ++ [y], _, a1, a2, a3, w10⟩
  exact codeAny_compStart_list (loop _ ⟨_, rfl⟩) (T.self X.A 0 _ _ _ hst₁ (loop _ ⟨_, rfl⟩))
end

/-! ### the forms one uses -/
/-- an iterator that hands out xs, in this order, whatever grows beside it -/
structure Hands (J : It) (H0 : Hp) (xs : List V) : Prop where
  go : ∀ i H, Same H0 H → i < xs.length → J.go i H
  yld : ∀ i H x H', Same H0 H → i < xs.length → J.yld i H x H' → H' = H ∧ xs[i]? = some x
  stop : ∀ H, Same H0 H → J.stop xs.length H
theorem hands_list {K : PySem.W.Frag} {a : Addr} {H : Hp} {xs : List V} (h : SqL K H a xs) : Hands (Itl K a) H xs where
  go := fun i H' s hi => ⟨xs, xs[i], s.seq h, by simp [hi]⟩
  yld := fun i H' x H'' s hi y => ⟨y.1, y.2 xs (s.seq h)⟩
  stop := fun H' s => ⟨xs, s.seq h, Nat.le_refl _⟩
theorem hands_range {H : Hp} (lo : Int) (n : Nat) : Hands (Itr lo n) H ((List.range n).map fun i => .int (lo + (i : Nat))) where
  go := fun i H' s hi => by rw [List.length_map, List.length_range] at hi; exact hi
  yld := fun i H' x H'' s hi y => by
    rw [List.length_map, List.length_range] at hi
    refine ⟨y.1, ?_⟩
    rw [List.getElem?_map, List.getElem?_range hi]
    exact congrArg some y.2.symm
  stop := fun H' s => by rw [List.length_map, List.length_range]; exact Nat.le_refl _

theorem same_new {H : Hp} {p : Addr} (h : H p = none) (o : HO) : Same H (upd H p o) := fun b u q => by rw [upd_ne (ne_of_none q h)]; exact q
theorem Same.upd {H H' : Hp} {p : Addr} {o : HO} (s : Same H H') (h : H p = none) : Same H (upd H' p o) := fun b u q => by rw [upd_ne (ne_of_none q h)]; exact s b u q

/-- [e for x in xs if c]: what is told of each item; the slot of x is k -/
theorem comp_by {J : It} {H : Hp} {xs : List V} {σ0 : St} {k : Nat} {tc : TT} {te : TE} {Q : VK} (p : V → Bool) (f : V → V) (hJ : Hands J H xs) (hx : xs.length ≤ 1000000)
    (hc : ∀ x ∈ xs, ∀ H', Same H H' → ∀ R : Bool → Hp → Prop, (∀ H'', Same H' H'' → R (p x) H'') → tc (σ0.set k (some x)) H' R)
    (he : ∀ x ∈ xs, p x = true → ∀ H', Same H H' → ∀ R : VK, (∀ H'', Same H' H'' → R (f x) H'') → te (σ0.set k (some x)) H' R)
    (hQ : ∀ D H', H D = none → Same H H' → H' D = some (.lst ((xs.filter p).map f)) → Q (.ref D) H') :
    CompW J H σ0 (gName k) tc te Q := by
  intro D hD
  refine ⟨fun i m σ1 ys H' => m = xs.length - i ∧ i ≤ xs.length ∧ (σ1 = σ0 ∨ ∃ v, σ1 = σ0.set k v) ∧ ys = ((xs.take i).filter p).map f ∧ H' D = some (.lst ys) ∧ Same H H', ⟨xs.length, by simp, Nat.zero_le _, .inl rfl, rfl, upd_same, same_new hD _⟩, ?_⟩
  rintro i m σ1 ys H' ⟨rfl, hi, hσ, rfl, hDD, hs⟩
  by_cases hlt : i < xs.length
  · refine .inr ⟨hJ.go i H' hs hlt, fun x H'' hy => ?_⟩
    obtain ⟨e1, hx1⟩ := hJ.yld i H' x H'' hs hlt hy
    subst e1
    have hm : x ∈ xs := List.mem_of_getElem? hx1
    have hset : σ1.set k (some x) = σ0.set k (some x) := by
      rcases hσ with rfl | ⟨v, rfl⟩
      · rfl
      · rw [List.set_set]
    show tc (σ1.set k (some x)) H'' _
    rw [hset]
    have tk : ((xs.take (i + 1)).filter p).map f = ((xs.take i).filter p).map f ++ (if p x = true then [f x] else []) := by
      rw [List.take_add_one, hx1, List.filter_append, List.map_append]
      cases hp : p x <;> simp [hp]
    refine hc x hm H'' hs _ fun H3 s3 => ?_
    have s03 : Same H H3 := hs.trans s3
    have lenk : (((xs.take i).filter p).map f).length < sizeLine := by
      have h1 := List.length_filter_le p (xs.take i)
      rw [List.length_take] at h1
      rw [List.length_map]
      have : (1000001 : Nat) ≤ sizeLine := by decide
      omega
    refine ite2 (fun hp => ?_) (fun hp => ?_)
    · refine he x hm hp H3 s03 _ fun H4 s4 => ⟨s4 _ _ (s3 _ _ hDD), lenk, xs.length - (i + 1), by omega, rfl, hlt, .inr ⟨_, rfl⟩, ?_, ?_, ?_⟩
      · rw [tk, if_pos hp]
      · exact upd_same
      · exact (s03.trans s4).upd hD
    · refine ⟨xs.length - (i + 1), by omega, rfl, hlt, .inr ⟨_, rfl⟩, ?_, s3 _ _ hDD, s03⟩
      rw [tk, if_neg hp, List.append_nil]
  · have e : i = xs.length := by omega
    subst e
    refine .inl ⟨hJ.stop H' hs, hQ D H' hD hs ?_⟩
    rw [hDD, List.take_length]
/-- [e for x in xs] -/
theorem comp_map {J : It} {H : Hp} {xs : List V} {σ0 : St} {k : Nat} {te : TE} {Q : VK} (f : V → V) (hJ : Hands J H xs) (hx : xs.length ≤ 1000000)
    (he : ∀ x ∈ xs, ∀ H', Same H H' → ∀ R : VK, (∀ H'', Same H' H'' → R (f x) H'') → te (σ0.set k (some x)) H' R)
    (hQ : ∀ D H', H D = none → Same H H' → H' D = some (.lst (xs.map f)) → Q (.ref D) H') :
    CompW J H σ0 (gName k) tYes te Q :=
  comp_by (fun _ => true) f hJ hx (fun x _ H' _ R hR => hR H' (Same.refl _)) (fun x hm _ => he x hm) (fun D H' h1 h2 h3 => hQ D H' h1 h2 (by rw [h3, List.filter_eq_self.mpr fun _ _ => rfl]))
end L2

set_option linter.all false
set_option maxRecDepth 100000
set_option maxHeartbeats 4000000
/-! Texts for the hand layer: signs walked, slices, join, zip of two texts, all, any, isinstance. -/
namespace L2
open PySem PySem.Spec PyProof.Rows

/-- a text by the list of its codes -/
abbrev T (l : List Nat) : V := .str ⟨l.toArray⟩
theorem T_inj {a b : List Nat} (h : T a = T b) : a = b := by
  have h1 : (⟨a.toArray⟩ : Str) = ⟨b.toArray⟩ := V.str.inj h
  have h2 : a.toArray = b.toArray := congrArg Str.cps h1
  simpa using h2
theorem T_len (l : List Nat) : (⟨l.toArray⟩ : Str).length = l.length := by simp [Str.length]
theorem T_app (a b : List Nat) : (⟨a.toArray⟩ : Str) ++ ⟨b.toArray⟩ = ⟨(a ++ b).toArray⟩ := by
  show (⟨a.toArray ++ b.toArray⟩ : Str) = _
  simp
section
variable {X : Cx}
theorem pe_txt {x : Str} {l : List Nat} {j pos} (h : x = ⟨l.toArray⟩) : PE X (.Constant (.str x) j pos) (tC (T l)) := by subst h; exact pe_str
/-- t + u -/
def rCatS : R2 := fun x y H Q => ∃ a b, x = T a ∧ y = T b ∧ a.length + b.length ≤ sizeLine ∧ Q (T (a ++ b)) H
theorem op_catS : OpR X (binaryOp .Add) rCatS := by
  intro pins s σ H x y v u Q I rx ry h
  obtain ⟨a, b, rfl, rfl, hz, q⟩ := h
  exact op_add_str pins s σ H _ _ v u Q I rx ry ⟨_, _, rfl, rfl, by rw [T_len, T_len]; exact hz, by rw [T_app]; exact q⟩
/-- t[i] -/
def rIxT' : R2 := fun x y H Q => ∃ l i c, x = T l ∧ y = .int i ∧ l.length ≤ sizeLine ∧ atI l i = some c ∧ Q (T [c]) H
theorem ix_txt : IxR X rIxT' := by
  intro value slice pins s σ H x y v u Q I rx ry h hs
  obtain ⟨l, i, c, rfl, rfl, hz, he, q⟩ := h
  exact ix_str value slice pins s σ H _ _ v u Q I rx ry ⟨_, i, c, rfl, rfl, by rw [T_len]; exact hz, by simpa using he, q⟩ hs
theorem op_notinS : OpR X (compareOp .NotIn) (fun x y H Q => ∃ c m, x = T [c] ∧ y = T m ∧ Q (.bl (!decide (c ∈ m))) H) := by
  intro pins s σ H x y v u Q I rx ry h
  obtain ⟨c, m, rfl, rfl, q⟩ := h
  refine op_notin_str pins s σ H _ _ v u Q I rx ry ⟨_, _, rfl, rfl, ?_⟩
  have e := StrLaws.found_one ⟨m.toArray⟩ c
  rw [show (!(Builtin.Str.occurrences ⟨m.toArray⟩ ⟨[c].toArray⟩ 0 (⟨m.toArray⟩ : Str).length 1).isEmpty) = decide (c ∈ m) from by simpa using e]
  exact q
/-- len(t) -/
theorem call_lenS : CallR X (.builtin "len") (fun xs H Q => ∃ l, xs = [T l] ∧ l.length ≤ sizeLine ∧ Q (.int l.length) H) := by
  intro pins s σ H xs us Q I r h
  obtain ⟨l, rfl, hz, q⟩ := h
  exact call_len_str pins s σ H _ us Q I r ⟨_, rfl, by rw [T_len]; exact hz, by rw [T_len]; exact q⟩
end

/-! ### slices -/
def cutN {α : Type} (xs : List α) (lo hi : Option Int) : List α := (xs.drop (HT.sIx xs.length 0 lo)).take (HT.sIx xs.length xs.length hi - HT.sIx xs.length 0 lo)
def clipI (n : Nat) (d : Int) : Option Int → Int
  | none => d
  | some i => max 0 (min (if i < 0 then i + (n : Int) else i) (n : Int))
theorem clipI_eq (n d : Nat) (o : Option Int) : clipI n (d : Int) o = ((HT.sIx n d o : Nat) : Int) := by
  cases o with
  | none => rfl
  | some i =>
    show max 0 (min (if i < 0 then i + (n : Int) else i) (n : Int)) = (((if i < 0 then (i + (n : Int)).toNat else min i.toNat n) : Nat) : Int)
    by_cases hi : i < 0
    · rw [if_pos hi, if_pos hi]; omega
    · rw [if_neg hi, if_neg hi]; omega
theorem run_of (a b : Nat) : sliceRange (a : Int) (b : Int) 1 = (List.range (b - a)).map fun k => a + k := by
  unfold sliceRange
  simp only [show (1 : Int) > 0 by decide, if_true]
  have e1 : (if (a : Int) < (b : Int) then ((b : Int) - (a : Int) + 1 - 1) / 1 else 0).toNat = b - a := by
    split <;> simp <;> omega
  rw [e1]
  refine List.map_congr_left fun k _ => ?_
  omega
theorem strSlice_run (lo hi : Option Int) (n : Nat) : Builtin.Str.strSliceIndices lo hi 1 n = (List.range (HT.sIx n n hi - HT.sIx n 0 lo)).map fun k => HT.sIx n 0 lo + k := by
  have e : Builtin.Str.strSliceIndices lo hi 1 n = sliceRange (clipI n ((0 : Nat) : Int) lo) (clipI n ((n : Nat) : Int) hi) 1 := by
    cases lo <;> cases hi <;> rfl
  rw [e, clipI_eq, clipI_eq, run_of]
theorem pickN (l : List Nat) (i k : Nat) : ((List.range k).map fun m => i + m).filterMap (fun j => l.toArray[j]?) = (l.drop i).take k := by
  induction k generalizing i with
  | zero => simp
  | succ k ih =>
    rw [List.range_succ_eq_map, List.map_cons, List.filterMap_cons, List.map_map]
    have e : ((fun m => i + m) ∘ Nat.succ) = fun m => (i + 1) + m := by funext m; simp; omega
    rw [e, ih (i + 1)]
    by_cases h : i < l.length
    · have : l.toArray[i + 0]? = some l[i] := by simp [h]
      rw [this, List.drop_eq_getElem_cons h, List.take_succ_cons]
    · have : l.toArray[i + 0]? = none := by simp; omega
      rw [this, List.drop_eq_nil_of_le (by omega), List.drop_eq_nil_of_le (by omega)]
      simp
theorem cutN_full {α : Type} {l : List α} {lo hi : Option Int} (h : (cutN l lo hi).length = l.length) : cutN l lo hi = l := by
  unfold cutN at h ⊢
  rw [List.length_take, List.length_drop] at h
  have h2 := HT.sIx_le l.length l.length (Nat.le_refl _) hi
  by_cases h0 : l.length = 0
  · have : l = [] := List.length_eq_zero_iff.mp h0
    subst this; simp
  · have e0 : HT.sIx l.length 0 lo = 0 := by omega
    rw [e0, List.drop_zero]
    exact List.take_of_length_le (by omega)
theorem slice_txt (l : List Nat) (lo hi : Option Int) : Txt.slice ⟨l.toArray⟩ lo hi = ⟨(cutN l lo hi).toArray⟩ := by
  unfold Txt.slice
  rw [T_len, strSlice_run]
  have e := pickN l (HT.sIx l.length 0 lo) (HT.sIx l.length l.length hi - HT.sIx l.length 0 lo)
  have e2 : ((List.range (HT.sIx l.length l.length hi - HT.sIx l.length 0 lo)).map fun k => HT.sIx l.length 0 lo + k).filterMap (fun x => (⟨l.toArray⟩ : Str).cps[x]?) = cutN l lo hi := e
  by_cases h : ((1 : Int) == 1 && ((List.range (HT.sIx l.length l.length hi - HT.sIx l.length 0 lo)).map fun k => HT.sIx l.length 0 lo + k).length == l.length) = true
  · rw [if_pos h]
    have h' : HT.sIx l.length l.length hi - HT.sIx l.length 0 lo = l.length := by
      have := ((Bool.and_eq_true _ _).mp h).2
      simpa using this
    have : (cutN l lo hi).length = l.length := by
      unfold cutN
      rw [List.length_take, List.length_drop]
      have := HT.sIx_le l.length l.length (Nat.le_refl _) hi
      omega
    rw [cutN_full this]
  · rw [if_neg h, e2]
section
variable {X : Cx}
def rSlS : V → Option Int → Option Int → Hp → VK → Prop := fun x lo hi H Q => ∃ l, x = T l ∧ l.length ≤ sizeLine ∧ Q (T (cutN l lo hi)) H
theorem sl_txt : SlR X rSlS := by
  intro pins s σ H x v vl vu lo hi sl Q I rx hs pl pu h
  obtain ⟨l, rfl, hz, q⟩ := h
  obtain ⟨t, rfl⟩ := rx
  refine ⟨"str", _, F.slot_str_getitem.lookup, typeIs_str _ _ _, ?_⟩
  have fin : ∀ t' k, EP X pins σ Q (.str (Txt.slice ⟨l.toArray⟩ lo hi) t') { s with toks := k } := fun t' k => ⟨T (cutN l lo hi), H, I.tok _, ⟨t', by rw [slice_txt]⟩, q⟩
  have hlen : (Txt.slice ⟨l.toArray⟩ lo hi).length ≤ sizeLine := Nat.le_trans (Txt.slice_le _ _ _) (by rw [T_len]; exact hz)
  cases pl with
  | none =>
    cases pu with
    | none => exact wpAny_getItem_str_slice (l := none) (u := none) (st := none) hs rfl (post_val_or_str ⟨hlen, fin⟩)
    | int j uj => exact wpAny_getItem_str_slice (l := none) (u := some (j, uj)) (st := none) hs rfl (post_val_or_str ⟨hlen, fin⟩)
  | int i ui =>
    cases pu with
    | none => exact wpAny_getItem_str_slice (l := some (i, ui)) (u := none) (st := none) hs rfl (post_val_or_str ⟨hlen, fin⟩)
    | int j uj => exact wpAny_getItem_str_slice (l := some (i, ui)) (u := some (j, uj)) (st := none) hs rfl (post_val_or_str ⟨hlen, fin⟩)
end

/-! ### t[::-1] -/
theorem rev_txt (l : List Nat) (u : Tok) : Txt.sliceBy ⟨l.toArray⟩ none none (-1, u) = ⟨l.reverse.toArray⟩ := by
  have h := step_rev_list ⟨l.toArray⟩ u
  have e : ((List.range (⟨l.toArray⟩ : Str).length).map fun k => (⟨l.toArray⟩ : Str).cps.getD ((⟨l.toArray⟩ : Str).length - 1 - k) 0) = l.reverse := by
    rw [T_len]
    refine List.ext_getElem? fun i => ?_
    rw [List.getElem?_map]
    by_cases hi : i < l.length
    · rw [List.getElem?_range hi, List.getElem?_reverse hi]
      have hj : l.length - 1 - i < l.length := by omega
      rw [List.getElem?_eq_getElem hj]
      simp [hj]
    · rw [List.getElem?_eq_none (by simpa using hi), List.getElem?_eq_none (by simpa using hi)]
      rfl
  rw [e] at h
  generalize Txt.sliceBy ⟨l.toArray⟩ none none (-1, u) = z at h
  obtain ⟨⟨zl⟩⟩ := z
  have h' : zl = l.reverse := h
  rw [h']
def tRev (te t3 : TE) : TE := fun σ H Q => te σ H fun x H1 => t3 σ H1 fun y H2 => y = .int (-1) ∧ ∃ l, x = T l ∧ l.length ≤ sizeLine ∧ Q (T l.reverse) H2
theorem pe_rev {X : Cx} {e e3 : Expr} {te t3 : TE} {pos p2 : Pos} (he : PE X e te) (h3 : PE X e3 t3) : PE X (.Subscript e (.Slice none none (some e3) p2) pos) (tRev te t3) := by
  intro pins s σ H Q I h
  refine Subscript_ (thn (he pins s σ H _ I h) fun v s1 ⟨x, H1, I1, r1, q1⟩ => ?_)
  refine wpAny_Slice ?_
  rw [evalPart_none]
  refine wpAny_pure ?_
  refine wpAny_pure ?_
  rw [evalPart_some]
  refine thn (h3 pins s1 σ H1 _ I1 q1) fun vs s2 ⟨y, H2, I2, r2, hy, l, hx, hz, q⟩ => ?_
  subst hy hx
  obtain ⟨t, rfl⟩ := r1
  obtain ⟨uk, rfl⟩ := r2
  have I4 : Inv X pins σ H2 { s2 with heap := s2.heap.push { cls := .type "slice", data := .fields #[.none, .none, .int (-1) uk] } } := I2.kept (t' := s2.toks) fun b ob q => Heap.get?_push_of_some _ q
  have fin : ∀ t' k, EP X pins σ Q (.str (Txt.sliceBy ⟨l.toArray⟩ none none (-1, uk)) t') { s2 with heap := s2.heap.push { cls := .type "slice", data := .fields #[.none, .none, .int (-1) uk] }, toks := k } := fun t' k => ⟨T l.reverse, H2, I4.tok _, ⟨t', by rw [rev_txt]⟩, q⟩
  have hlen : (Txt.sliceBy ⟨l.toArray⟩ none none (-1, uk)).length ≤ sizeLine := Nat.le_trans (Txt.sliceBy_le _ _ _ _ (show (-1 : Int) ≠ 0 by decide)) (by rw [T_len]; exact hz)
  show wpAny (model X.prog X.w) X.A (subscriptTail e (.Slice none none (some e3) p2) (.str ⟨l.toArray⟩ t) (.ref s2.heap.objs.size)) (EP X pins σ Q) X.xe { s2 with heap := s2.heap.push { cls := .type "slice", data := .fields #[.none, .none, .int (-1) uk] } }
  refine tail_any (ops := [.ref s2.heap.objs.size, .str ⟨l.toArray⟩ t]) (typeIs_str _ _ _) F.slot_str_getitem.lookup ?_ (by with_unfolding_all rfl)
  exact wpAny_getItem_str_slice (l := none) (u := none) (st := some (-1, uk)) ⟨_, Heap.get?_push_size _ rfl, rfl, rfl⟩ (by rfl) (post_val_or_str ⟨hlen, fin⟩)

/-! ### the signs of a text, one by one -/
def Its (l : List Nat) : It := ⟨fun i _ => i < l.length, fun i H x H' => H' = H ∧ ∃ c, l[i]? = some c ∧ x = T [c], fun i _ => l.length ≤ i⟩
theorem turn_txt {P : Program} {w : World} {K : PySem.W.Frag} {tg : Expr} {it : Addr} {l : List Nat} {t : Tok} {nm : String} (hn : nm = "str_ascii_iterator" ∨ nm = "str_iterator") :
    Turn P w K tg (Its l) [it] it (fun i h => h.IsStrIter it nm ⟨l.toArray⟩ t i) where
  mem := by simp
  obj := fun i h st b hb => by
    have e : b = it := by simpa using hb
    subst e
    obtain ⟨o, e, c, d⟩ := st
    exact ⟨o, e, fun v z => by rw [d] at z; cases z⟩
  keep := fun i h h' st k => by
    obtain ⟨o, e, r⟩ := st
    exact ⟨o, k it (by simp) o e, r⟩
  item := by
    intro X hP hw hK hc i pins s σ H E I hf st hg
    subst hP hw hK
    obtain ⟨f0, f1, f2, f3, f4, f5⟩ := hf it (by simp)
    have hi : i < l.length := hg
    have hx : (⟨l.toArray⟩ : Str).cps[i]? = some l[i] := by simp [hi]
    have fin : ∀ h', h'.IsStrIter it nm ⟨l.toArray⟩ t (i + 1) → Heap.SameBut it s.heap h' → ∃ u, (some (Value.str ⟨#[l[i]]⟩ s.toks) : Option Value) = some u ∧
        wpAny (model X.prog X.w) X.A (letOwnedTupleGo tg (.ref it) u) (fun _ s2 => ∃ x H', Inv X pins σ H' s2 ∧ RelV x u ∧ (Its l).yld i H x H' ∧ s2.heap.IsStrIter it nm ⟨l.toArray⟩ t (i + 1) ∧ ∀ b ∈ [it], H' b = none) E { s with heap := h', toks := s.toks + 1 } := fun h' st' sb => by
      have I1 : Inv X pins σ H { s with heap := h', toks := s.toks + 1 } := I.turned (t' := s.toks + 1) (fun b o hb e => (sb.2 b hb).trans e) f0 f1 f3 f4 f5
      obtain ⟨o, e, c, d⟩ := id st'
      refine ⟨_, rfl, go_of (s := { s with heap := h', toks := s.toks + 1 }) e c d (by rcases hn with rfl | rfl <;> decide) ⟨T [l[i]], H, I1, ⟨_, rfl⟩, ⟨rfl, l[i], by simp [hi], rfl⟩, st', fun b hb => (hf b hb).1⟩⟩
    rcases hn with rfl | rfl
    · exact wpAny_pyNext_ascii_item st hx fin
    · exact wpAny_pyNext_wide_item st hx fin
  done := by
    intro X hP hw hK hc i pins s σ H E I hf st hg
    subst hP hw hK
    obtain ⟨f0, f1, f2, f3, f4, f5⟩ := hf it (by simp)
    have hi : l.length ≤ i := hg
    have hx : (⟨l.toArray⟩ : Str).cps[i]? = none := by simp; exact hi
    have fin : ∀ h', Heap.ExtBut it s.heap h' → (none : Option Value) = none ∧ Inv X pins σ H { s with heap := h' } := fun h' eb => ⟨rfl, I.turned (t' := s.toks) (fun b o hb e => eb b o hb e) f0 f1 f3 f4 f5⟩
    rcases hn with rfl | rfl
    · exact wpAny_pyNext_ascii_end (I.ok.hd hc) st hx fin
    · exact wpAny_pyNext_wide_end (I.ok.hd hc) st hx fin
  self := fun _ _ _ _ _ st h => by
    rcases hn with rfl | rfl
    · exact wpAny_pyIter_striter_ascii st h
    · exact wpAny_pyIter_striter_wide st h
section
variable {X : Cx} {tg : Expr}
def iTxt (tl : TE) : TI := fun σ H R => tl σ H fun x H1 => ∃ l, x = T l ∧ R (Its l) H1
theorem pi_txt {e : Expr} {tl : TE} (hl : PE X e tl) : PI X tg e (iTxt tl) := by
  intro pins s σ H R I h
  refine thn (hl pins s σ H _ I h) fun v s1 ⟨x, H1, I1, r1, q1⟩ => ?_
  obtain ⟨l, e, q⟩ := q1
  subst e
  obtain ⟨t, rfl⟩ := r1
  have fin : ∀ nm : String, (nm = "str_ascii_iterator" ∨ nm = "str_iterator") → PIE X pins σ tg R (.ref s1.heap.objs.size) { s1 with heap := s1.heap.push { cls := .type nm, data := .fields #[.str ⟨l.toArray⟩ t, .int 0 0] } } := fun nm hn => by
    refine ⟨s1.heap.objs.size, [s1.heap.objs.size], _, _, H1, rfl, I1.kept (t' := s1.toks) fun b o e => Heap.get?_push_of_some _ e, turn_txt (t := t) hn, ⟨_, Heap.get?_push_size _ rfl, rfl, rfl⟩, fun b hb => ?_, q⟩
    have e : b = s1.heap.objs.size := by simpa using hb
    subst e
    exact I1.fpOk (Nat.le_refl _) (I1.hok.fresh (Nat.le_refl _))
  cases ha : (⟨l.toArray⟩ : Str).cps.all (· < 128) with
  | true => exact wpAny_pyIter_ascii ha (fin _ (.inl rfl))
  | false => exact wpAny_pyIter_wide ha (fin _ (.inr rfl))
end
theorem hands_txt {H : Hp} (l : List Nat) : Hands (Its l) H (l.map fun c => T [c]) where
  go := fun i H' s hi => by rw [List.length_map] at hi; exact hi
  yld := fun i H' x H'' s hi y => by
    obtain ⟨e, c, hc, rfl⟩ := y
    exact ⟨e, by rw [List.getElem?_map, hc]; rfl⟩
  stop := fun H' s => by rw [List.length_map]; exact Nat.le_refl _
/-- for x in text -/
theorem for_txt {l : List Nat} {g : TG} {tb : TS} {D : Ends} {σ : St} {H : Hp} (Pv : Nat → St → Hp → Prop) (h0 : Pv 0 σ H)
    (hs : ∀ i c σ H, l[i]? = some c → Pv i σ H → g (T [c]) σ H fun σ2 H2 => tb { D with nx := Pv (i + 1), ct := Pv (i + 1), bk := D.nx } σ2 H2) (hd : ∀ σ H, Pv l.length σ H → D.nx σ H) :
    ∃ W : Nat → Nat → St → Hp → Prop, (∃ m, W 0 m σ H) ∧ ∀ i m σ H, W i m σ H →
      ((Its l).stop i H ∧ D.nx σ H) ∨ ((Its l).go i H ∧ ∃ N : St → Hp → Prop, (∀ σ' H', N σ' H' → ∃ m', m' < m ∧ W (i + 1) m' σ' H') ∧ ∀ x H', (Its l).yld i H x H' → g x σ H' fun σ2 H2 => tb { D with nx := N, ct := N, bk := D.nx } σ2 H2) := by
  refine ⟨fun i m σ H => m = l.length - i ∧ i ≤ l.length ∧ Pv i σ H, ⟨l.length, by simp, Nat.zero_le _, h0⟩, ?_⟩
  rintro i m σ H ⟨rfl, hi, p⟩
  by_cases hlt : i < l.length
  · refine .inr ⟨hlt, Pv (i + 1), fun σ' H' p' => ⟨l.length - (i + 1), by omega, rfl, hlt, p'⟩, fun x H' y => ?_⟩
    obtain ⟨e, c, hc, rfl⟩ := y
    subst e
    exact hs i c σ _ hc p
  · have e : i = l.length := by omega
    subst e
    exact .inl ⟨Nat.le_refl _, hd σ H p⟩

/-! ### ''.join(list) -/
theorem vals_txts : ∀ {ts : List (List Nat)} {us : List Value}, Vals (ts.map T) us → PyProof.Rows.StrsAre us (ts.map fun l => ⟨l.toArray⟩)
  | [], _, h => by cases h; exact .nil
  | l :: r, _, h => by
    cases h with
    | cons r1 r2 =>
      obtain ⟨t, rfl⟩ := r1
      exact .cons _ t (vals_txts r2)
def joinN (sep : List Nat) : List (List Nat) → List Nat
  | [] => []
  | [x] => x
  | x :: y :: r => x ++ sep ++ joinN sep (y :: r)
theorem join_txt (sep : List Nat) : ∀ ts : List (List Nat), Str.join ⟨sep.toArray⟩ (ts.map fun l => ⟨l.toArray⟩) = ⟨(joinN sep ts).toArray⟩
  | [] => rfl
  | [x] => rfl
  | x :: y :: r => by
    show (⟨x.toArray⟩ : Str) ++ ⟨sep.toArray⟩ ++ Str.join ⟨sep.toArray⟩ ((y :: r).map fun l => ⟨l.toArray⟩) = _
    rw [join_txt sep (y :: r), T_app, T_app]
    rfl
theorem joinN_nil : ∀ ts : List (List Nat), joinN [] ts = ts.flatten
  | [] => rfl
  | [x] => by simp [joinN]
  | x :: y :: r => by
    show x ++ [] ++ joinN [] (y :: r) = _
    rw [joinN_nil (y :: r), List.append_nil]
    rfl
theorem sum_ones : ∀ cs : List Nat, (((cs.map fun c => [c]).map List.length).sum) = cs.length
  | [] => rfl
  | c :: r => by
    rw [List.map_cons, List.map_cons, List.sum_cons, sum_ones r]
    simp
    omega
theorem flat_ones : ∀ cs : List Nat, (cs.map fun c => [c]).flatten = cs
  | [] => rfl
  | c :: r => by
    rw [List.map_cons, List.flatten_cons, flat_ones r]
    rfl
section
variable {X : Cx}
def rJoin (K : PySem.W.Frag) : V → List V → Hp → VK → Prop := fun x vs H Q => ∃ sep ts D, x = T sep ∧ vs = [.ref D] ∧ SqL K H D (ts.map T) ∧ (ts.map List.length).sum + ts.length * sep.length ≤ 16777216 ∧ Q (T (joinN sep ts)) H
theorem mt_join : MtR X "str.join" (rJoin X.K) := by
  intro pins s σ H x vs v us Q I rx rv h
  obtain ⟨sep, ts, D, rfl, rfl, hq, hz, q⟩ := h
  obtain ⟨t, rfl⟩ := rx
  obtain ⟨u, rfl, ru⟩ := rv.one
  cases ru
  obtain ⟨its, r, pl, _⟩ := I.list hq
  refine join_list (ys := ts.map fun l => ⟨l.toArray⟩) pl.isList (by simpa using vals_txts r) ?_ fun t' k => ⟨T (joinN sep ts), H, I.tok _, ⟨t', ?_⟩, q⟩
  · rw [List.map_map, List.length_map, T_len]
    have e : ((fun x => x.length) ∘ fun l : List Nat => (⟨l.toArray⟩ : Str)) = List.length := by funext l; exact T_len l
    rw [e]
    exact hz
  · rw [← join_txt]
    show Value.str (Builtin.Str.glued _ _) t' = _
    rw [StrLaws.glued_eq_join]
end
theorem pe_join {X : Cx} {o e : Expr} {to : TE} {t : TA} {apos cpos : Pos} (ho : PE X o to) (ha : PA X [e] t)
    (hbase : attributeBase o "join" X.env (eval o X.env) = eval o X.env := by rfl)
    (hfew : ((backTo cpos (starEach [e] X.env)).all (fun x => !x.1) && (backToKw cpos (keywordEach [] X.env)).all (fun x => x.1.isSome)
      && decide ([e].length + ([] : List Keyword).length + (if ([] : List Keyword).isEmpty then 0 else 1) < 30)) = true := by rfl)
    (hline : (apos.endLine == cpos.line) = true := by rfl) (hs : starEach [e] X.env = (false, eval e X.env) :: starEach [] X.env := by rfl) (hplain : (backTo cpos (starEach [] X.env)).any (·.1) = false := by rfl) :
    PE X (.Call (.Attribute o "join" apos) [e] [] cpos) (tBM X.K "str" (rJoin X.K) to t) :=
  pe_bm F.plainAttrs_str F.slot_str_join F.type_str_join mt_join ho ha hbase hfew hline hs hplain

/-! ### all, any of a list of truths -/
theorem vals_bls {bs : List Bool} {us : List Value} (h : Vals (bs.map V.bl) us) : us = bs.map Value.bool := by
  induction bs generalizing us with
  | nil => cases h; rfl
  | cons b r ih =>
    cases h with
    | cons r1 r2 =>
      cases r1
      rw [ih r2]; rfl
theorem range_any (bs : List Bool) : (List.range bs.length).any (fun i => bs.getD i false) = bs.any id := by
  rw [Bool.eq_iff_iff, List.any_eq_true, List.any_eq_true]
  constructor
  · rintro ⟨i, hi, h⟩
    have hi := List.mem_range.mp hi
    refine ⟨bs[i], List.getElem_mem hi, ?_⟩
    simpa [List.getD_eq_getElem?_getD, hi] using h
  · rintro ⟨b, hb, h⟩
    obtain ⟨i, hi, rfl⟩ := List.mem_iff_getElem.mp hb
    refine ⟨i, List.mem_range.mpr hi, ?_⟩
    simpa [List.getD_eq_getElem?_getD, hi] using h
section
variable {X : Cx}
theorem truth_bls (bs : List Bool) {A : Around} : TruthOf X.prog X.w A (fun i v => (bs.map Value.bool).toArray[i]? = some v) (fun i => bs.getD i false) := fun i v s Q E hP hQ => by
  have : ∃ b, bs[i]? = some b ∧ v = .bool b := by
    have hP' : (bs.map Value.bool).toArray[i]? = some v := hP
    rw [List.getElem?_toArray, List.getElem?_map] at hP'
    cases hb : bs[i]? with
    | none => rw [hb] at hP'; cases hP'
    | some b => rw [hb] at hP'; exact ⟨b, rfl, (Option.some.inj hP').symm⟩
  obtain ⟨b, hb, rfl⟩ := this
  refine wpAny_truthy_bool ?_
  simpa [List.getD_eq_getElem?_getD, hb] using hQ
theorem call_anyB (hc : X.calm = true) : CallR X (.builtin "any") (fun xs H Q => ∃ (D : Addr) (bs : List Bool), xs = [.ref D] ∧ SqL X.K H D (bs.map V.bl) ∧ Q (.bl (bs.any id)) H) := by
  intro pins s σ H xs us Q I r h
  obtain ⟨D, bs, rfl, hq, q⟩ := h
  obtain ⟨u, rfl, ru⟩ := r.one
  cases ru
  obtain ⟨its, rv, pl, _⟩ := I.list hq
  obtain rfl := vals_bls rv
  have hD : D < s.heap.objs.size := by obtain ⟨o, n, e, _⟩ := pl; exact Heap.lt_size e
  refine call_any_walk (wpAny_pyIter_list pl.isList ⟨s.heap.objs.size, _, _, _, _, _, fun i => bs.getD i false, rfl, Walks.list (A := X.A.in1) (I.ok.hd hc) _ D (Nat.ne_of_lt hD) (bs.map Value.bool).toArray,
    ⟨⟨_, Heap.get?_push_size _ rfl, rfl, rfl⟩, pl.isList.push _⟩, truth_bls bs, fun h' tk hk => ?_⟩)
  rw [List.size_toArray, List.length_map, range_any]
  exact ⟨.bl (bs.any id), H, I.kept fun b o e => hk b o (by simpa using Nat.ne_of_lt (Heap.lt_size e)) (Heap.get?_push_of_some _ e), rfl, q⟩

/-! ### isinstance of plain values -/
theorem call_isBl : CallR X (.builtin "isinstance") (fun xs H Q => (∃ b, xs = [.bl b, .ty "bool"] ∧ Q (.bl true) H) ∨ (∃ i, xs = [.int i, .ty "bool"] ∧ Q (.bl false) H) ∨ (∃ i, xs = [.int i, .ty "int"] ∧ Q (.bl true) H) ∨ (∃ x, xs = [.str x, .ty "str"] ∧ Q (.bl true) H) ∨
    (∃ p ys, xs = [.ref p, .ty "list"] ∧ H p = some (.lst ys) ∧ Q (.bl true) H)) := by
  intro pins s σ H xs us Q I r h
  rcases h with ⟨b, rfl, q⟩ | ⟨i, rfl, q⟩ | ⟨i, rfl, q⟩ | ⟨x, rfl, q⟩ | ⟨p, ys, rfl, hp, q⟩
  · obtain ⟨u, v, rfl, r1, r2⟩ := r.two
    cases r1; cases r2
    exact PySem.W.kia_one PySem.W.kitx_bool I.kIn True.intro (by rfl) (fun z => nomatch z) fun tk => ⟨.bl true, H, I.tok _, rfl, q⟩
  · obtain ⟨u, v, rfl, r1, r2⟩ := r.two
    obtain ⟨t, rfl⟩ := r1; cases r2
    exact PySem.W.kia_one PySem.W.kitx_int I.kIn True.intro (by rfl) (fun z => nomatch z) fun tk => ⟨.bl false, H, I.tok _, rfl, q⟩
  · obtain ⟨u, v, rfl, r1, r2⟩ := r.two
    obtain ⟨t, rfl⟩ := r1; cases r2
    exact PySem.W.kia_one PySem.W.kitx_int I.kIn True.intro (by rfl) (fun z => nomatch z) fun tk => ⟨.bl true, H, I.tok _, rfl, q⟩
  · obtain ⟨u, v, rfl, r1, r2⟩ := r.two
    obtain ⟨t, rfl⟩ := r1; cases r2
    exact PySem.W.kia_one PySem.W.kitx_str I.kIn True.intro (by rfl) (fun z => nomatch z) fun tk => ⟨.bl true, H, I.tok _, rfl, q⟩
  · obtain ⟨u, v, rfl, r1, r2⟩ := r.two
    cases r1; cases r2
    obtain ⟨_, its, n, _, h1⟩ := I.hok p _ hp
    exact PySem.W.kia_one PySem.W.kitx_list I.kIn ⟨_, h1, rfl⟩ (by rfl) (fun z => nomatch z) fun tk => ⟨.bl true, H, I.tok _, rfl, q⟩
end
end L2

set_option linter.all false
set_option maxRecDepth 100000
set_option maxHeartbeats 4000000
/-! zip of two texts. -/
namespace L2
open PySem PySem.Spec PyProof.Rows
open Builtin Builtin.Str

section
variable {prog : Program} {w : World} {A : Around} {E : Value → Shared → Prop} {s : Shared}
structure ZipFar (z TI TO i1 i2 : Addr) : Prop where
  TIz : TI ≠ z
  TOz : TO ≠ z
  i1z : i1 ≠ z
  i2z : i2 ≠ z
  TITO : TI ≠ TO
  TIi1 : TI ≠ i1
  TIi2 : TI ≠ i2
  TOi1 : TO ≠ i1
  TOi2 : TO ≠ i2
  i12 : i1 ≠ i2

theorem zipFar_new (n : Nat) : ZipFar (n + 4) (n + 2) (n + 3) n (n + 1) :=
  ⟨Nat.ne_of_lt (by omega), Nat.ne_of_lt (by omega), Nat.ne_of_lt (by omega), Nat.ne_of_lt (by omega), Nat.ne_of_lt (by omega), Nat.ne_of_gt (by omega), Nat.ne_of_gt (by omega), Nat.ne_of_gt (by omega), Nat.ne_of_gt (by omega), Nat.ne_of_lt (by omega)⟩
end

/-- untracked records of ours (an iterator's) have turned -/
theorem Inv.turnedN {X : Cx} {pins : List (Addr × Obj)} {σ : St} {H : Hp} {s : Shared} {h' : Heap} {t' : Nat} {ch : List Addr} (I : Inv X pins σ H s) (k : ∀ b o, b ∉ ch → s.heap.get? b = some o → h'.get? b = some o) (hf : ∀ b ∈ ch, FpOk X pins H b) :
    Inv X pins σ H { s with heap := h', toks := t' } := by
  have nch : ∀ b u, H b = some u → b ∉ ch := fun b u e z => by rw [(hf b z).1] at e; cases e
  refine I.step (g' := s.gens) (d' := s.drawn) (ch := ch) (fun b hb => ?_) (fun b o _ _ hc e _ => k b o hc e) (fun b o _ _ hc e _ => ⟨o.slots, k b o hc e⟩) (fun _ _ _ _ n => n)
    (fun b o hc e => ⟨o, k b o hc e⟩) (fun _ _ e => e) (fun _ _ _ e => e) (fun b ps e => ⟨#[], by rw [e]; simp⟩) (fun m hm => ?_) (fun b u e => ?_) I.bare
  · obtain ⟨f0, f1, f2, f3, f4, f5⟩ := hf b hb
    exact ⟨f3, f1, f4, f5⟩
  · obtain ⟨o, es, ep, ho, r⟩ := hm
    exact ⟨o, es, ep, k _ o (fun z => (hf _ z).2.1 rfl) ho, r⟩
  · refine (I.hok b u e).stay (fun c v hc q => k c v ?_ q) (fun _ q => q) fun _ _ q => q
    rcases hc with z | z
    · rw [z]; exact nch b u e
    · exact nch c _ z

/-! ### zip(t, u) is made -/
section
variable {X : Cx} {es : List Expr} {k : Nat} {tpos : Pos}
end
end L2

set_option linter.all false
set_option maxRecDepth 100000
set_option maxHeartbeats 4000000
/-! a comprehension over zip. -/
namespace L2
open PySem PySem.Spec PyProof.Rows
end L2

set_option linter.all false
set_option maxRecDepth 100000
set_option maxHeartbeats 4000000
/-! Bundles: a def, a method, a class of the text with its promise. -/
namespace L2
open PySem PySem.Spec PyProof.Rows

/-- a def of the module as the top has made it -/
def GF (K : PySem.W.Frag) (mg : Str → Option Value) (x : Str) (st : Stmt) : Prop := ∃ f fd, Fun K x x st f fd ∧ mg x = some (.ref f)
/-- .. with its promise -/
def FnG (P : Program) (w : World) (K : PySem.W.Frag) (mg : Str → Option Value) (base : Heap) (x : Str) (k : Nat) (ps : List Str) (sp : Sp) : Prop :=
  ∃ f fd, FnOk P w K mg base CX0 k f fd ps sp ∧ mg x = some (.ref f) ∧ PySem.W.keepIn K (.ref f) = true ∧ Binds K fd ps []
/-- a method of the class at C -/
def MF (K : PySem.W.Frag) (C : Addr) (m qual : Str) (st : Stmt) : Prop := ∃ f fd, Fun K m qual st f fd ∧ Meth K C m f
def MtG (P : Program) (w : World) (K : PySem.W.Frag) (mg : Str → Option Value) (base : Heap) (C : Addr) (m : Str) (k : Nat) (ps : List Str) (sp : Sp) : Prop :=
  ∃ f fd, FnOk P w K mg base CX0 k f fd ps sp ∧ Cls K C ∧ Meth K C m f ∧ Binds K fd ps []
/-- a class that is made by its __init__ -/
structure CF (K : PySem.W.Frag) (mg : Str → Option Value) (x : Str) (C : Addr) : Prop where
  cl : Cls K C
  mg : mg x = some (.ref C)
  makes : PySem.W.makesIn K C = true
  kp : PySem.W.keepIn K (.ref C) = true
def MkG (P : Program) (w : World) (K : PySem.W.Frag) (mg : Str → Option Value) (base : Heap) (C : Addr) (x : Str) (k : Nat) (ps : List Str) (sp : Sp) : Prop :=
  ∃ f fd, FnOk P w K mg base CX0 k f fd ps sp ∧ Mk K C f ∧ mg x = some (.ref C) ∧ Binds K fd ps []

section
variable {P : Program} {w : World} {K : PySem.W.Frag} {mg : Str → Option Value} {base : Heap}
theorem GF.g {x : Str} {st : Stmt} {N ps : List Str} {k : Nat} {sp : Sp} (F : GF K mg x st) (S : FnScope N ps (defScope st))
    (bnd : ∀ (kV doc pm : Value) (an : Option Addr) (cdv ct : Value) (us : List Value), us.length = ps.length → bindArgs (PySem.W.fnOf x x (defArgs st) (defBody st) (defScope st) .none kV doc pm an cdv ct) ⟨us, []⟩ = pure (ps.zip us))
    (len : ∀ vs H Q E, sp vs H Q E → vs.length = ps.length)
    (hbody : ∀ (f : Addr) (cdv : Value) (A : Around) (outer : List Env) (s : Shared) (H : Hp) (vs : List V) (Q : VK) (E : XK), Room k (A.deeper (envOfC x (defScope st) s.heap.objs.size f cdv)) → sp vs H Q E →
      ∃ t, PSs (cxOf CX0 P w K mg base N x (defScope st) f cdv A outer s H E).nox (defBody st) t ∧ t { nx := fun _ H' => Q .non H', rt := Q } (start N vs) H) : FnG P w K mg base x (k + 1) ps sp := by
  obtain ⟨f, fd, F, m⟩ := F
  exact ⟨f, fd, F.ok S len fun cdv A outer s H vs Q E hr h => hbody f cdv A outer s H vs Q E hr h, m, F.kp, F.binds bnd⟩
theorem MF.g {C : Addr} {m qual : Str} {st : Stmt} {N ps : List Str} {k : Nat} {sp : Sp} (F : MF K C m qual st) (cl : Cls K C) (S : FnScope N ps (defScope st))
    (bnd : ∀ (kV doc pm : Value) (an : Option Addr) (cdv ct : Value) (us : List Value), us.length = ps.length → bindArgs (PySem.W.fnOf m qual (defArgs st) (defBody st) (defScope st) .none kV doc pm an cdv ct) ⟨us, []⟩ = pure (ps.zip us))
    (len : ∀ vs H Q E, sp vs H Q E → vs.length = ps.length)
    (hbody : ∀ (f : Addr) (cdv : Value) (A : Around) (outer : List Env) (s : Shared) (H : Hp) (vs : List V) (Q : VK) (E : XK), Room k (A.deeper (envOfC qual (defScope st) s.heap.objs.size f cdv)) → sp vs H Q E →
      ∃ t, PSs (cxOf CX0 P w K mg base N qual (defScope st) f cdv A outer s H E).nox (defBody st) t ∧ t { nx := fun _ H' => Q .non H', rt := Q } (start N vs) H) : MtG P w K mg base C m (k + 1) ps sp := by
  obtain ⟨f, fd, F, m⟩ := F
  exact ⟨f, fd, F.ok S len fun cdv A outer s H vs Q E hr h => hbody f cdv A outer s H vs Q E hr h, cl, m, F.binds bnd⟩
theorem CF.g {C : Addr} {x : Str} {k : Nat} {ps : List Str} {sp : Sp} (c : CF K mg x C) (G : MtG P w K mg base C "__init__" k ps sp) : MkG P w K mg base C x k ps sp := by
  obtain ⟨f, fd, a, _, m, b⟩ := G
  exact ⟨f, fd, a, ⟨c.makes, m.at_, m.fn, c.kp⟩, c.mg, b⟩
end

section
variable {X : Cx} {x m : Str} {k : Nat} {ps : List Str} {sp : Sp} {C : Addr} {p pos apos : Pos} {e o : Expr} {es : List Expr} {t : TA} {to : TE}
/-- f(e, ..) -/
theorem pe_fn (G : FnG X.prog X.w X.K X.mg X.base x k ps sp) (hr : Room k X.A) (ha : PA X (e :: es) t) (hg : Gl X x := by rfl) (hdb : (x == ("__debug__" : Str)) = false := by decide)
    (he : starEach (e :: es) X.env = (false, eval e X.env) :: starEach es X.env := by rfl) (hpl : (backTo pos (starEach es X.env)).any (·.1) = false := by rfl) : PE X (.Call (.Name x p) (e :: es) [] pos) (tCall sp [] E0 t) := by
  obtain ⟨f, fd, a, b, c, d⟩ := G
  exact pe_call a hr hg b c d .nil pass0 ha hdb he hpl
theorem pe_mt {pl : Sem Bool} (G : MtG X.prog X.w X.K X.mg X.base C m k ps sp) (hr : Room k X.A) (ho : PE X o to) (ha : PA X (e :: es) t)
    (hst : starEach (e :: es) X.env = (false, eval e X.env) :: starEach es X.env := by rfl) (hpl : (backTo pos (starEach es X.env)).any (·.1) = false := by rfl)
    (ht : eval (.Call (.Attribute o m apos) (e :: es) [] pos) X.env = (do
      let ov ← eval o X.env
      standAt apos.atName
      let (f, first) ← holding [ov] (getMethod ov m pl)
      callWith pos f first (backTo pos (starEach (e :: es) X.env)) (backToKw pos (keywordEach [] X.env))) := by rfl) :
    PE X (.Call (.Attribute o m apos) (e :: es) [] pos) (tMeth C m sp [] E0 to t) := by
  obtain ⟨f, fd, a, b, c, d⟩ := G
  exact pe_meth (pl := pl) ho b c a hr d .nil pass0 ha hst hpl ht
/-- a name of a built-in type -/
theorem pe_ty {n : Str} {T : String} (hm : X.mg n = none) (hv : bootBuiltins n = some (.type T)) (hg : Gl X n := by rfl) (hn : n ≠ "__name__" := by decide) (hd : (n == ("__debug__" : Str)) = false := by decide) : PE X (.Name n pos) (tC (.ty T)) :=
  pe_bltn hg hm hv rfl hn hd
end

/-! ### the rules with the written part as a letter of its own (in a comprehension's block the context's own does not stand outside) -/
section
variable {X : Cx} {K : PySem.W.Frag}
theorem ix_listK (h : X.K = K) : IxR X (rIxL K) := h ▸ ix_list
theorem ix_tupK (h : X.K = K) : IxR X (rIxT K) := h ▸ ix_tup
theorem sl_listK (h : X.K = K) : SlR X (rSlL K) := h ▸ sl_list
theorem call_len_seqK (h : X.K = K) : CallR X (.builtin "len") (fun xs H Q => ∃ p ys, xs = [.ref p] ∧ (SqL K H p ys ∨ SqT K H p ys) ∧ Q (.int ys.length) H) := h ▸ call_len_seq
theorem call_anyBK (hc : X.calm = true) (h : X.K = K) : CallR X (.builtin "any") (fun xs H Q => ∃ (D : Addr) (bs : List Bool), xs = [.ref D] ∧ SqL K H D (bs.map V.bl) ∧ Q (.bl (bs.any id)) H) := h ▸ call_anyB hc
theorem pe_fldK {e : Expr} {f : Str} {ta : TE} {pos : Pos} (h : X.K = K) (he : PE X e ta) (hb : attributeBase e f X.env (eval e X.env) = eval e X.env) : PE X (.Attribute e f pos) (tFld K ta f) := h ▸ pe_fld he hb
theorem pe_joinK {o e : Expr} {to : TE} {t : TA} {apos cpos : Pos} (h : X.K = K) (ho : PE X o to) (ha : PA X [e] t)
    (hbase : attributeBase o "join" X.env (eval o X.env) = eval o X.env := by rfl)
    (hfew : ((backTo cpos (starEach [e] X.env)).all (fun x => !x.1) && (backToKw cpos (keywordEach [] X.env)).all (fun x => x.1.isSome)
      && decide ([e].length + ([] : List Keyword).length + (if ([] : List Keyword).isEmpty then 0 else 1) < 30)) = true := by rfl)
    (hline : (apos.endLine == cpos.line) = true := by rfl) (hs : starEach [e] X.env = (false, eval e X.env) :: starEach [] X.env := by rfl) (hplain : (backTo cpos (starEach [] X.env)).any (·.1) = false := by rfl) :
    PE X (.Call (.Attribute o "join" apos) [e] [] cpos) (tBM K "str" (rJoin K) to t) := h ▸ pe_join ho ha hbase hfew hline hs hplain
theorem pi_listK {tg l : Expr} {tl : TE} (h : X.K = K) (hl : PE X l tl) : PI X tg l (iList K tl) := h ▸ pi_list hl
theorem pg_two {i j : Nat} {x y : Str} {px py pos : Pos} {k : Nat} (h : X.K = K) (hc : X.calm = true) (hN : X.N.Nodup) (hi : X.N[i]? = some x) (hj : X.N[j]? = some y) (hx : Loc X.env.scope x) (hy : Loc X.env.scope y)
    (hfx : X.fn x = true ∨ X.env.scope.names.lookup x = some .local := by first | exact .inl rfl | exact .inr rfl | assumption) (hfy : X.fn y = true ∨ X.env.scope.names.lookup y = some .local := by first | exact .inl rfl | exact .inr rfl | assumption) :
    PG X (.Tuple [.Name x px, .Name y py] k pos) (gTup K 2 (gCons (gName i) (gCons (gName j) gNil))) := h ▸ pg_tup hc (pgs_cons (pg_name hN hi hx hfx) (pgs_cons (pg_name hN hj hy hfy) pgs_nil))
end
theorem bt_ty_bool : bootBuiltins "bool" = some (.type "bool") := by decide +kernel
theorem bt_ty_str : bootBuiltins "str" = some (.type "str") := by decide +kernel
theorem bt_ty_list : bootBuiltins "list" = some (.type "list") := by decide +kernel
theorem bt_any : bootBuiltins "any" = some (.builtin "any") := by decide +kernel
theorem bt_isinstance : bootBuiltins "isinstance" = some (.builtin "isinstance") := by decide +kernel

/-- [e for x in xs]: each item has what is said of it -/
theorem comp_all {J : It} {H : Hp} {xs : List V} {σ0 : St} {k : Nat} {te : TE} {Q : VK} (Pe : V → V → Prop) (hJ : Hands J H xs) (hx : xs.length ≤ 1000000)
    (he : ∀ x ∈ xs, ∀ H', Same H H' → ∀ R : VK, (∀ y H'', Pe x y → Same H' H'' → R y H'') → te (σ0.set k (some x)) H' R)
    (hQ : ∀ D H' ys, H D = none → Same H H' → ys.length = xs.length → (∀ (i : Nat) (x y : V), xs[i]? = some x → ys[i]? = some y → Pe x y) → H' D = some (.lst ys) → Q (.ref D) H') :
    CompW J H σ0 (gName k) tYes te Q := by
  intro D hD
  refine ⟨fun i m σ1 ys H' => m = xs.length - i ∧ i ≤ xs.length ∧ (σ1 = σ0 ∨ ∃ v, σ1 = σ0.set k v) ∧ ys.length = i ∧ (∀ (j : Nat) (x y : V), xs[j]? = some x → ys[j]? = some y → Pe x y) ∧ H' D = some (.lst ys) ∧ Same H H',
    ⟨xs.length, by simp, Nat.zero_le _, .inl rfl, rfl, fun j x y _ h => by simp at h, upd_same, same_new hD _⟩, ?_⟩
  rintro i m σ1 ys H' ⟨rfl, hi, hσ, hlen, hP, hDD, hs⟩
  by_cases hlt : i < xs.length
  · refine .inr ⟨hJ.go i H' hs hlt, fun x H'' hy => ?_⟩
    obtain ⟨e1, hx1⟩ := hJ.yld i H' x H'' hs hlt hy
    subst e1
    have hm : x ∈ xs := List.mem_of_getElem? hx1
    have hset : σ1.set k (some x) = σ0.set k (some x) := by
      rcases hσ with rfl | ⟨v, rfl⟩
      · rfl
      · rw [List.set_set]
    unfold gName tYes
    dsimp only
    rw [hset]
    refine iteT ?_
    refine he x hm H'' hs _ fun y H4 hPy s4 => ⟨s4 _ _ hDD, ?_, xs.length - (i + 1), by omega, rfl, hlt, .inr ⟨_, rfl⟩, ?_, ?_, upd_same, (hs.trans s4).upd hD⟩
    · have : (1000001 : Nat) ≤ sizeLine := by decide
      omega
    · rw [List.length_append, List.length_singleton, hlen]
    · intro j x' y' h1 h2
      by_cases hj : j < i
      · rw [List.getElem?_append_left (by omega)] at h2
        exact hP j x' y' h1 h2
      · have hji : j = i := by
          have := (List.getElem?_eq_some_iff.mp h2).1
          rw [List.length_append, List.length_singleton, hlen] at this
          omega
        subst hji
        rw [List.getElem?_append_right (by omega), hlen, Nat.sub_self] at h2
        rw [hx1] at h1
        cases h1
        have : y = y' := by simpa using h2
        subst this
        exact hPy
  · have e : i = xs.length := by omega
    subst e
    exact .inl ⟨hJ.stop H' hs, hQ D H' ys hD hs hlen hP hDD⟩
end L2

set_option linter.all false
set_option maxRecDepth 100000
set_option maxHeartbeats 4000000
/-! == and != of two lists of flat items. -/
namespace L2
open PySem PySem.Spec PyProof.Rows
theorem Vals.rel {xs : List V} {us : List Value} (r : Vals xs us) : ∀ (j : Nat) (h1 : j < xs.length) (h2 : j < us.length), RelV xs[j] us[j] := by
  induction r with
  | nil => intro j h1; simp at h1
  | cons a t ih =>
    intro j h1 h2
    cases j with
    | zero => exact a
    | succ j => exact ih j (by simpa using h1) (by simpa using h2)
def eqVs : List V → List V → Bool
  | [], [] => true
  | x :: xs, y :: ys => eqV x y && eqVs xs ys
  | _, _ => false
theorem eqVs_len : ∀ {xs ys : List V}, xs.length ≠ ys.length → eqVs xs ys = false
  | [], [], h => absurd rfl h
  | [], _ :: _, _ => rfl
  | _ :: _, [], _ => rfl
  | x :: xs, y :: ys, h => by
    have : xs.length ≠ ys.length := fun e => h (by simp [e])
    rw [eqVs, eqVs_len this, Bool.and_false]
theorem eqVs_range : ∀ {xs ys : List V}, xs.length = ys.length → (List.range xs.length).all (fun j => eqV (xs.getD j .non) (ys.getD j .non)) = eqVs xs ys
  | [], [], _ => rfl
  | [], _ :: _, h => by simp at h
  | _ :: _, [], h => by simp at h
  | x :: xs, y :: ys, h => by
    have h' : xs.length = ys.length := by simpa using h
    rw [List.length_cons, List.range_succ_eq_map, List.all_cons, List.all_map, eqVs, ← eqVs_range h']
    rfl
section
variable {X : Cx} {K : PySem.W.Frag}
theorem eq_items {A : Around} {s : Shared} {xs ys : List V} {ia ib : List Value} (ra : Vals xs ia) (rb : Vals ys ib) (fx : xs.all flatV = true) (fy : ys.all flatV = true) :
    ∀ j (h1 : j < ia.toArray.size) (h2 : j < ib.toArray.size), SeqAt.EqAt A s ia.toArray[j] ib.toArray[j] (eqV (xs.getD j .non) (ys.getD j .non)) := by
  intro j h1 h2
  have la := ra.length
  have lb := rb.length
  have g1 : j < ia.length := by simpa using h1
  have g2 : j < ib.length := by simpa using h2
  have e1 : xs.getD j .non = xs[j]'(by omega) := by rw [List.getD_eq_getElem?_getD, List.getElem?_eq_getElem (by omega)]; rfl
  have e2 : ys.getD j .non = ys[j]'(by omega) := by rw [List.getD_eq_getElem?_getD, List.getElem?_eq_getElem (by omega)]; rfl
  rw [e1, e2]
  have k1 := ra.rel j (by omega) g1
  have k2 := rb.rel j (by omega) g2
  have q := eqAt_V (A := A) (s := s) k1 k2 (List.all_eq_true.mp fx _ (List.getElem_mem _)) (List.all_eq_true.mp fy _ (List.getElem_mem _))
  simpa using q
end
end L2

set_option linter.all false
set_option maxRecDepth 100000
set_option maxHeartbeats 4000000
/-! isinstance against own classes; a list taken apart into names. -/
namespace L2
open PySem PySem.Spec PyProof.Rows
section
variable {X : Cx} {K : PySem.W.Frag}
end

section
variable {prog : Program} {w : World} {A : Around} {E : Value → Shared → Prop} {s : Shared}
theorem draw_list {it l : Addr} {items : Array Value} (hne : l ≠ it) : ∀ (n i : Nat) (s : Shared) (Q : List Value → Shared → Prop), s.heap.IsListIter it l i → s.heap.IsList l items → i + n ≤ items.size →
    (∀ h', h'.IsListIter it l (i + n) → Heap.SameBut it s.heap h' → Q ((items.toList.drop i).take n) { s with heap := h' }) → wpAny (model prog w) A (draw (.ref it) n) Q E s
  | 0, i, s, Q, hit, _, _, hQ => by
    show wpAny _ _ (pure []) Q E s
    exact wpAny_pure (by simpa using hQ s.heap hit (Heap.SameBut.refl ..))
  | n + 1, i, s, Q, hit, ht, hle, hQ => by
    have hlt : i < items.size := by omega
    show wpAny _ _ (pyNext (.ref it) >>= _) Q E s
    refine wpAny_bind (wpAny_pyNext_list_item hit ht (x := items[i]) (by simp [hlt]) fun h₁ hit₁ hs₁ => ?_)
    refine wpAny_bind (wpAny_holding (draw_list hne n (i + 1) _ _ hit₁ (ht.extBut hs₁.extBut hne) (by omega) fun h₂ hit₂ hs₂ => wpAny_pure ?_))
    have hd : items.toList.drop i = items[i] :: items.toList.drop (i + 1) := by simp [List.drop_eq_getElem_cons, hlt]
    have := hQ h₂ (by rw [show i + (n + 1) = i + 1 + n by omega]; exact hit₂) (hs₁.trans hs₂)
    rw [hd, List.take_succ_cons] at this
    exact this
theorem unpackItems_list {t : Addr} {items : Array Value} {Q : List Value → Shared → Prop} (hh : A.handled = none) (ht : s.heap.IsList t items)
    (hQ : ∀ h', Heap.ExtBut s.heap.objs.size s.heap h' → Q items.toList { s with heap := h' }) : wpAny (model prog w) A (unpackItems (.ref t) items.size none) Q E s := by
  have hlt : t ≠ s.heap.objs.size := by obtain ⟨o, ho, _⟩ := ht; exact Nat.ne_of_lt (Heap.lt_size ho)
  unfold unpackItems
  refine wpAny_bind ?_
  · unfold notIterableAtAll
    refine wpAny_bind (wpAny_specialOf ht.typeIs slot_list_iter.lookup ?_)
    refine wpAny_pure ?_
    simp only [Bool.false_eq_true, if_false]
    refine wpAny_bind (wpAny_holding (wpAny_pyIter_list ht ?_))
    refine wpAny_bind (wpAny_holding (draw_list hlt items.size 0 _ _ ⟨_, Heap.get?_push_size _ rfl, rfl, rfl⟩ (ht.push _) (by omega) fun h₁ hit₁ hs₁ => ?_))
    have hall : List.take items.size (List.drop 0 items.toList) = items.toList := by
      rw [List.drop_zero]; exact List.take_of_length_le (by simp)
    rw [hall]
    rw [if_neg (by simp)]
    have ht₁ : h₁.IsList t items := (ht.push _).extBut hs₁.extBut hlt
    refine wpAny_bind (wpAny_holding (wpAny_pyNext_list_end hh hit₁ ht₁ (by simp) fun h₂ he₂ => ?_))
    simp only [Option.isSome_none, Bool.false_eq_true, if_false]
    refine wpAny_pure (hQ h₂ fun b o hb e => he₂ b o hb (hs₁.extBut b o hb (Heap.get?_push_of_some _ e)))
theorem unpack_list {t : Addr} {items : Array Value} {targets : List (Bool × (Value → Sem Unit))} {Q : Unit → Shared → Prop} (hh : A.handled = none) (ht : s.heap.IsList t items)
    (hn : targets.length = items.size) (hstar : targets.findIdx? (·.1) = none)
    (h : ∀ h', Heap.ExtBut s.heap.objs.size s.heap h' → wpAny (model prog w) A (assignInOrder (targets.map (·.2)) items.toList) Q E { s with heap := h' }) :
    wpAny (model prog w) A (unpack (.ref t) targets) Q E s := by
  unfold unpack
  rw [hn, hstar]
  exact wpAny_bind (wpAny_holding (unpackItems_list hh ht h))
theorem assign_Tuple_list {env : Env} {elts : List Expr} {x1} {pos : Pos} {t : Addr} {items : Array Value} {Q : Unit → Shared → Prop} (hh : A.handled = none) (ht : s.heap.IsList t items)
    (hn : (assignEach elts env).length = items.size) (hstar : (assignEach elts env).findIdx? (·.1) = none)
    (h : ∀ h', Heap.ExtBut s.heap.objs.size s.heap h' → wpAny (model prog w) A (assignInOrder ((assignEach elts env).map (·.2)) items.toList) Q E { s with heap := h' }) :
    wpAny (model prog w) A (assign (.Tuple elts x1 pos) env (.ref t)) Q E s := by
  rw [assign_Tuple]
  exact wpAny_bind (wpAny_standAt (unpack_list hh ht hn hstar h))
end
section
variable {X : Cx} {K : PySem.W.Frag} {pos : Pos}
def gLst (K : PySem.W.Frag) (n : Nat) (t : TGs) : TG := fun v σ H Q => ∃ a xs, v = .ref a ∧ SqL K H a xs ∧ xs.length = n ∧ t xs σ H Q
theorem pg_lst {es : List Expr} {k : Nat} {t : TGs} {n : Nat} (hc : X.calm = true) (h : PGs X es t)
    (hn : (assignEach es X.env).length = n := by rfl) (hst : (assignEach es X.env).findIdx? (·.1) = none := by rfl) : PG X (.Tuple es k pos) (gLst X.K n t) := by
  intro pins s σ H v u Q I r hw
  obtain ⟨a, xs, e1, hq, hl, hw⟩ := hw
  subst e1
  cases r
  obtain ⟨its, rv, ht, hz⟩ := I.list hq
  refine assign_Tuple_list (I.ok.hd hc) ht.isList (by simp [hn, ← hl, rv.length]) hst fun h' hx => ?_
  have I1 : Inv X pins σ H { s with heap := h' } := I.kept (t' := s.toks) fun b o e => hx b o (Nat.ne_of_lt (Heap.lt_size e)) e
  exact h pins _ σ H xs _ Q I1 (by simpa using rv) hw
end
end L2

set_option linter.all false
set_option maxRecDepth 100000
set_option maxHeartbeats 4000000
/-! zip of two lists. -/
namespace L2
open PySem PySem.Spec PyProof.Rows
theorem ne_cls {h : Heap} {a b : Addr} {o p : Obj} (ha : h.get? a = some o) (hb : h.get? b = some p) (hc : o.cls ≠ p.cls) : a ≠ b := by
  rintro rfl
  rw [ha] at hb
  cases hb
  exact hc rfl
theorem zipApart_of {h : Heap} {z TI TO i1 i2 l1 l2 : Addr} {f0 a b : Value} {k1 k2 : Nat} {xs ys : Array Value} (F : ZipFar z TI TO i1 i2) (hz : IsZip h z TI TO f0) (hTI : IsPair h TI (.ref i1) (.ref i2)) (hTO : IsPair h TO a b)
    (h1 : h.IsListIter i1 l1 k1) (h2 : h.IsListIter i2 l2 k2) (hl1 : h.IsList l1 xs) (hl2 : h.IsList l2 ys) : ZipApart z TI TO i1 i2 l1 l2 := by
  obtain ⟨o1, e1, c1, _⟩ := h1
  obtain ⟨o2, e2, c2, _⟩ := h2
  obtain ⟨p1, q1, d1, _⟩ := hl1
  obtain ⟨p2, q2, d2, _⟩ := hl2
  have n1 : (Value.type "list") ≠ .type "zip" := by intro z; injection z with z; revert z; decide
  have n2 : (Value.type "list") ≠ .type "tuple" := by intro z; injection z with z; revert z; decide
  have n3 : (Value.type "list") ≠ .type "list_iterator" := by intro z; injection z with z; revert z; decide
  exact ⟨F.TIz, F.TOz, F.i1z, F.i2z, F.TITO, F.TIi1, F.TIi2, F.TOi1, F.TOi2, F.i12,
    ne_cls q1 hz (by rw [d1]; exact n1), ne_cls q1 hTO (by rw [d1]; exact n2), ne_cls q1 e1 (by rw [d1, c1]; exact n3), ne_cls q1 e2 (by rw [d1, c2]; exact n3),
    ne_cls q2 hz (by rw [d2]; exact n1), ne_cls q2 hTO (by rw [d2]; exact n2), ne_cls q2 e1 (by rw [d2, c1]; exact n3), ne_cls q2 e2 (by rw [d2, c2]; exact n3)⟩
/-- pairs of items: a new tuple each -/
def Izl (K : PySem.W.Frag) (a b : Addr) : It :=
  ⟨fun i H => ∃ xs ys x y, SqL K H a xs ∧ SqL K H b ys ∧ xs[i]? = some x ∧ ys[i]? = some y,
   fun i H v H' => ∃ p x y, H p = none ∧ (∀ xs, SqL K H a xs → xs[i]? = some x) ∧ (∀ ys, SqL K H b ys → ys[i]? = some y) ∧ v = .ref p ∧ H' = upd H p (.tup [x, y]),
   fun i H => ∃ xs ys, SqL K H a xs ∧ SqL K H b ys ∧ (xs.length ≤ i ∨ ys.length ≤ i)⟩
theorem turn_zipL {P : Program} {w : World} {K : PySem.W.Frag} {es : List Expr} {k : Nat} {pos : Pos} {z TI TO i1 i2 l1 l2 : Addr} (F : ZipFar z TI TO i1 i2) :
    Turn P w K (.Tuple es k pos) (Izl K l1 l2) [z, TI, TO, i1, i2] z (fun i h => IsZip h z TI TO .none ∧ IsPair h TI (.ref i1) (.ref i2) ∧ (∃ a b, IsPair h TO a b) ∧ h.IsListIter i1 l1 i ∧ h.IsListIter i2 l2 i) where
  mem := by simp
  obj := fun i h st b hb => by
    obtain ⟨hz, hTI, ⟨a, b', hTO⟩, ⟨o1, e1, c1, d1⟩, o2, e2, c2, d2⟩ := st
    simp only [List.mem_cons, List.not_mem_nil, or_false] at hb
    rcases hb with rfl | rfl | rfl | rfl | rfl
    · exact ⟨_, hz, fun v q => by cases q⟩
    · exact ⟨_, hTI, fun v q => by cases q⟩
    · exact ⟨_, hTO, fun v q => by cases q⟩
    · exact ⟨o1, e1, fun v q => by rw [d1] at q; cases q⟩
    · exact ⟨o2, e2, fun v q => by rw [d2] at q; cases q⟩
  keep := fun i h h' st kk => by
    obtain ⟨hz, hTI, ⟨a, b', hTO⟩, ⟨o1, e1, r1⟩, o2, e2, r2⟩ := st
    exact ⟨kk z (by simp) _ hz, kk TI (by simp) _ hTI, ⟨a, b', kk TO (by simp) _ hTO⟩, ⟨o1, kk i1 (by simp) _ e1, r1⟩, o2, kk i2 (by simp) _ e2, r2⟩
  item := by
    intro X hP hw hK hc i pins s σ H E I hf st hg
    subst hP hw hK
    obtain ⟨hz, hTI, ⟨a, b, hTO⟩, h1, h2⟩ := st
    obtain ⟨xs, ys, x, y, hq1, hq2, hx, hy⟩ := hg
    obtain ⟨ia, ra, pa, _⟩ := I.list hq1
    obtain ⟨ib, rb, pb, _⟩ := I.list hq2
    obtain ⟨u, hu, ru⟩ := ra.get hx
    obtain ⟨v, hv, rv⟩ := rb.get hy
    have D := zipApart_of F hz hTI hTO h1 h2 pa.isList pb.isList
    obtain ⟨tk, htk⟩ : ∃ tk, tk = s.toks := ⟨_, rfl⟩
    refine wpAny_pyNext_zip_item D hz hTI hTO h1 h2 pa.isList pb.isList (x := u) (y := v) (by simpa using hu) (by simpa using hv) fun h' a1 a2 a3 a4 a5 a6 kp => ?_
    refine ⟨_, rfl, ?_⟩
    refine wpAny_letOwnedTupleGo_zip (s := { s with heap := h', toks := s.toks }) a1 fun h2' hz' hs' => ?_
    replace hs' : Heap.SameBut z h' h2' := hs'
    have zlt : z < s.heap.objs.size := Heap.lt_size hz
    have far : ∀ q ∈ [z, TI, TO, i1, i2], q < s.heap.objs.size := by
      intro q hq
      obtain ⟨o1, e1, _⟩ := h1
      obtain ⟨o2, e2, _⟩ := h2
      simp only [List.mem_cons, List.not_mem_nil, or_false] at hq
      rcases hq with rfl | rfl | rfl | rfl | rfl
      · exact zlt
      · exact Heap.lt_size hTI
      · exact Heap.lt_size hTO
      · exact Heap.lt_size e1
      · exact Heap.lt_size e2
    have fz := hf z (by simp)
    have fTO := hf TO (by simp)
    have f1 := hf i1 (by simp)
    have f2 := hf i2 (by simp)
    -- the four records turn, then the tuple is laid
    have I1 : Inv X pins σ H { s with heap := s.heap.push { cls := .type "tuple", data := .seq #[u, v] }, toks := s.toks } := I.kept fun b o e => Heap.get?_push_of_some _ e
    have keepAll : ∀ b o, b ≠ z → b ≠ TO → b ≠ i1 → b ≠ i2 → s.heap.get? b = some o → h2'.get? b = some o := fun b o b1 b2 b3 b4 e => hs'.extBut _ _ b1 (kp b o b1 b2 b3 b4 e)
    have hnew : H s.heap.objs.size = none := I.hok.fresh (Nat.le_refl _)
    have Tz : s.heap.objs.size ≠ z := Nat.ne_of_gt zlt
    have ht2 : h2'.get? s.heap.objs.size = some { cls := .type "tuple", data := .seq #[u, v] } := hs'.extBut _ _ Tz a5
    have I2 : Inv X pins σ (upd H s.heap.objs.size (.tup [x, y])) { s with heap := h2', toks := s.toks } := by
      have there : ∀ q ∈ [z, TO, i1, i2], ∃ o', h2'.get? q = some o' := by
        intro q hq
        obtain ⟨o1, e1, _⟩ := a3
        obtain ⟨o2, e2, _⟩ := a4
        simp only [List.mem_cons, List.not_mem_nil, or_false] at hq
        rcases hq with rfl | rfl | rfl | rfl
        · exact ⟨_, hz'⟩
        · exact ⟨_, hs'.extBut _ _ F.TOz a2⟩
        · exact ⟨_, hs'.extBut _ _ F.i1z e1⟩
        · exact ⟨_, hs'.extBut _ _ F.i2z e2⟩
      have nch : ∀ b, b ∉ [z, TO, i1, i2] → b ≠ z ∧ b ≠ TO ∧ b ≠ i1 ∧ b ≠ i2 := fun b hb => by
        simp only [List.mem_cons, List.not_mem_nil, or_false, not_or] at hb
        exact hb
      have trk : ∀ b u', H b = some u' → b ≠ z ∧ b ≠ TO ∧ b ≠ i1 ∧ b ≠ i2 := fun b u' e =>
        ⟨fun q => (by rw [q, fz.1] at e; cases e), fun q => (by rw [q, fTO.1] at e; cases e), fun q => (by rw [q, f1.1] at e; cases e), fun q => (by rw [q, f2.1] at e; cases e)⟩
      have okH : HOk X.prog X.w (upd H s.heap.objs.size (.tup [x, y])) h2' := fun b u' e => by
        by_cases hb : b = s.heap.objs.size
        · subst hb
          rw [upd_same] at e
          cases e
          exact ⟨(show 2 ≤ sizeLine by decide), [u, v], .cons ru (.cons rv .nil), ⟨_, ht2, rfl, _, rfl⟩⟩
        · rw [upd_ne hb] at e
          have hx := I.hok b u' e
          refine hx.stay (fun q o hq e2 => ?_) (fun q e2 => ?_) (fun q xs e2 => ?_)
          · rcases hq with rfl | hq
            · obtain ⟨b1, b2, b3, b4⟩ := trk q _ e
              exact keepAll q o b1 b2 b3 b4 e2
            · obtain ⟨b1, b2, b3, b4⟩ := trk q _ hq
              exact keepAll q o b1 b2 b3 b4 e2
          · rw [upd_ne (ne_of_none e2 hnew)]; exact e2
          · rw [upd_ne (ne_of_none e2 hnew)]; exact e2
      refine I.step (g' := s.gens) (d' := s.drawn) (ch := [z, TO, i1, i2]) (fun b hb => ?_) (fun b o _ _ hcb e n => ?_) (fun b o _ _ hcb e n => ?_) (fun b o hcb e n => ?_) (fun b o hcb e => ?_) (fun b xs e => ?_) (fun b o u' e => ?_) (fun b ps e => ?_) (fun m hm => ?_) okH I.bare
      · simp only [List.mem_cons, List.not_mem_nil, or_false] at hb
        rcases hb with rfl | rfl | rfl | rfl
        · exact ⟨fz.2.2.2.1, fz.2.1, fz.2.2.2.2.1, fz.2.2.2.2.2⟩
        · exact ⟨fTO.2.2.2.1, fTO.2.1, fTO.2.2.2.2.1, fTO.2.2.2.2.2⟩
        · exact ⟨f1.2.2.2.1, f1.2.1, f1.2.2.2.2.1, f1.2.2.2.2.2⟩
        · exact ⟨f2.2.2.2.1, f2.2.1, f2.2.2.2.2.1, f2.2.2.2.2.2⟩
      · obtain ⟨b1, b2, b3, b4⟩ := nch b hcb
        exact keepAll b o b1 b2 b3 b4 e
      · obtain ⟨b1, b2, b3, b4⟩ := nch b hcb
        exact ⟨o.slots, keepAll b o b1 b2 b3 b4 e⟩
      · rw [upd_ne (Nat.ne_of_lt (Heap.lt_size e))]; exact n
      · obtain ⟨b1, b2, b3, b4⟩ := nch b hcb
        exact ⟨o, keepAll b o b1 b2 b3 b4 e⟩
      · rw [upd_ne (ne_of_none e hnew)]; exact e
      · rw [upd_ne (ne_of_none e hnew)]; exact e
      · exact ⟨#[], by rw [upd_ne (ne_of_none e hnew), e]; simp⟩
      · obtain ⟨o, es', ep, ho, r⟩ := hm
        exact ⟨o, es', ep, keepAll _ o fz.2.1.symm fTO.2.1.symm f1.2.1.symm f2.2.1.symm ho, r⟩
    refine ⟨.ref s.heap.objs.size, _, I2, rfl, ⟨_, x, y, hnew, fun zs hz => by rw [I.list_inj hz hq1]; exact hx, fun zs hz => by rw [I.list_inj hz hq2]; exact hy, rfl, rfl⟩, ⟨hz', hs'.extBut _ _ F.TIz (kp _ _ F.TIz F.TITO F.TIi1 F.TIi2 hTI), ⟨_, _, hs'.extBut _ _ F.TOz a2⟩, ?_, ?_⟩, fun b hb => ?_⟩
    · obtain ⟨o, e, r⟩ := a3; exact ⟨o, hs'.extBut _ _ F.i1z e, r⟩
    · obtain ⟨o, e, r⟩ := a4; exact ⟨o, hs'.extBut _ _ F.i2z e, r⟩
    · rw [upd_ne (Nat.ne_of_lt (far b hb))]; exact (hf b hb).1
  done := by
    intro X hP hw hK hc i pins s σ H E I hf st hg
    subst hP hw hK
    obtain ⟨hz, hTI, ⟨a, b, hTO⟩, h1, h2⟩ := st
    obtain ⟨xs, ys, hq1, hq2, hg⟩ := hg
    obtain ⟨ia, ra, pa, _⟩ := I.list hq1
    obtain ⟨ib, rb, pb, _⟩ := I.list hq2
    have la := ra.length
    have lb := rb.length
    have D := zipApart_of F hz hTI hTO h1 h2 pa.isList pb.isList
    refine wpAny_pyNext_zip_end (I.ok.hd hc) D hz hTI hTO h1 h2 pa.isList pb.isList (by rcases hg with q | q; exact .inl (by simp; omega); exact .inr (by simp; omega)) fun h' kp => ⟨rfl, ?_⟩
    refine I.turnedN (t' := s.toks) (ch := [z, TO, i1, i2]) (fun b o hb q => ?_) fun b hb => hf b ?_
    · simp only [List.mem_cons, List.not_mem_nil, or_false, not_or] at hb
      exact kp b o hb.1 hb.2.1 hb.2.2.1 hb.2.2.2 q
    · simp only [List.mem_cons, List.not_mem_nil, or_false] at hb ⊢
      rcases hb with q | q | q | q
      · exact .inl q
      · exact .inr (.inr (.inl q))
      · exact .inr (.inr (.inr (.inl q)))
      · exact .inr (.inr (.inr (.inr q)))
  self := fun _ _ _ _ _ st h => wpAny_pyIter_zip st.1 h

section
variable {X : Cx} {es : List Expr} {k : Nat} {tpos : Pos}
def iZipL (K : PySem.W.Frag) (ta : TA) : TI := fun σ H R => ta σ H fun vs H1 => ∃ a b, vs = [.ref a, .ref b] ∧ (∃ xs, SqL K H1 a xs) ∧ (∃ ys, SqL K H1 b ys) ∧ R (Izl K a b) H1
theorem pi_zipL {a b : Expr} {ta : TA} {p pos : Pos} (hg : Gl X "zip") (hm : X.mg "zip" = none) (ha : PA X [a, b] ta) (hv : bootBuiltins "zip" = some (.type "zip") := by decide +kernel) (hs : starEach [a, b] X.env = [(false, eval a X.env), (false, eval b X.env)] := by rfl) (hs2 : starEach [b] X.env = [(false, eval b X.env)] := by rfl) :
    PI X (.Tuple es k tpos) (.Call (.Name "zip" p) [a, b] [] pos) (iZipL X.K ta) := by
  intro pins s σ H R I h
  refine Call_ (ld_blt I hg hm hv (PyProof.Rows.callWith_type1 (thn (ha pos pins s σ H _ I h) fun us s1 ⟨vs, H1, I1, r1, q1⟩ => ?_) (by rw [hs, hs2]) (by rw [hs2]; rfl)))
  obtain ⟨l1, l2, e, ⟨xs, hq1⟩, ⟨ys, hq2⟩, q⟩ := q1
  subst e
  obtain ⟨u, v, rfl, ru, rv⟩ := r1.two
  cases ru; cases rv
  obtain ⟨ia, ra, pa, _⟩ := I1.list hq1
  obtain ⟨ib, rb, pb, _⟩ := I1.list hq2
  refine call_zip_2 pa.isList pb.isList fun h' a1 a2 a3 a4 a5 a6 kp => ?_
  have far : ZipFar (s1.heap.objs.size + 4) (s1.heap.objs.size + 2) (s1.heap.objs.size + 3) s1.heap.objs.size (s1.heap.objs.size + 1) := zipFar_new _
  have I2 : Inv X pins σ H1 { s1 with heap := h' } := I1.kept (t' := s1.toks) kp
  refine wpAny_pyIter_zip a1 ⟨s1.heap.objs.size + 4, [s1.heap.objs.size + 4, s1.heap.objs.size + 2, s1.heap.objs.size + 3, s1.heap.objs.size, s1.heap.objs.size + 1], _, _, H1, rfl, I2, turn_zipL far, ⟨a1, a2, ⟨_, _, a3⟩, a4, a5⟩, fun b hb => ?_, q⟩
  have hb' : s1.heap.objs.size ≤ b := by
    simp only [List.mem_cons, List.not_mem_nil, or_false] at hb
    rcases hb with rfl | rfl | rfl | rfl | rfl
    · exact Nat.le_add_right _ _
    · exact Nat.le_add_right _ _
    · exact Nat.le_add_right _ _
    · exact Nat.le_refl _
    · exact Nat.le_add_right _ _
  exact I1.fpOk hb' (I1.hok.fresh hb')
end
theorem pi_zipLK {X : Cx} {es : List Expr} {k : Nat} {tpos : Pos} {K : PySem.W.Frag} {a b : Expr} {ta : TA} {p pos : Pos} (h : X.K = K) (hg : Gl X "zip") (hm : X.mg "zip" = none) (ha : PA X [a, b] ta) (hv : bootBuiltins "zip" = some (.type "zip") := by decide +kernel) (hs : starEach [a, b] X.env = [(false, eval a X.env), (false, eval b X.env)] := by rfl) (hs2 : starEach [b] X.env = [(false, eval b X.env)] := by rfl) :
    PI X (.Tuple es k tpos) (.Call (.Name "zip" p) [a, b] [] pos) (iZipL K ta) := h ▸ pi_zipL hg hm ha hv hs hs2
/-- for x, y in zip(a, b): lists that stay -/
theorem for_zipL {K : PySem.W.Frag} {a b : Addr} {xs ys : List V} {g : TG} {tb : TS} {D : Ends} {σ : St} {H : Hp} (Pv : Nat → St → Hp → Prop) (h0 : Pv 0 σ H) (hl : ∀ i σ H, i ≤ xs.length → i ≤ ys.length → Pv i σ H → SqL K H a xs ∧ SqL K H b ys)
    (hs : ∀ i x y p σ H, xs[i]? = some x → ys[i]? = some y → H p = none → Pv i σ H → g (.ref p) σ (upd H p (.tup [x, y])) fun σ2 H2 => tb { D with nx := Pv (i + 1), ct := Pv (i + 1), bk := D.nx } σ2 H2) (hd : ∀ i σ H, i = xs.length ∨ i = ys.length → Pv i σ H → D.nx σ H) :
    ∃ W : Nat → Nat → St → Hp → Prop, (∃ m, W 0 m σ H) ∧ ∀ i m σ H, W i m σ H →
      ((Izl K a b).stop i H ∧ D.nx σ H) ∨ ((Izl K a b).go i H ∧ ∃ N : St → Hp → Prop, (∀ σ' H', N σ' H' → ∃ m', m' < m ∧ W (i + 1) m' σ' H') ∧ ∀ x H', (Izl K a b).yld i H x H' → g x σ H' fun σ2 H2 => tb { D with nx := N, ct := N, bk := D.nx } σ2 H2) := by
  refine ⟨fun i m σ H => m = xs.length - i ∧ i ≤ xs.length ∧ i ≤ ys.length ∧ Pv i σ H, ⟨xs.length, by simp, Nat.zero_le _, Nat.zero_le _, h0⟩, ?_⟩
  rintro i m σ H ⟨rfl, hi, hj, p⟩
  obtain ⟨q1, q2⟩ := hl i σ H hi hj p
  by_cases hlt : i < xs.length ∧ i < ys.length
  · refine .inr ⟨⟨xs, ys, xs[i], ys[i], q1, q2, by simp [hlt.1], by simp [hlt.2]⟩, Pv (i + 1), fun σ' H' p' => ⟨xs.length - (i + 1), by omega, rfl, hlt.1, hlt.2, p'⟩, fun x H' y => ?_⟩
    obtain ⟨r, u, v, hr, e1, e2, rfl, rfl⟩ := y
    exact hs i u v r σ H (e1 xs q1) (e2 ys q2) hr p
  · have e : i = xs.length ∨ i = ys.length := by omega
    exact .inl ⟨⟨xs, ys, q1, q2, by omega⟩, hd i σ H e p⟩
end L2

set_option linter.all false
set_option maxRecDepth 100000
set_option maxHeartbeats 4000000
/-! name = [comprehension]: the store ahead of the letting go. -/
namespace L2
open PySem PySem.Spec PyProof.Rows
section
variable {X : Cx} {elt tg iter : Expr} {ifs : List Expr} {scope : Scope} {pos : Pos} {N : List Str} {js : List (Option Nat)} {wi : TI} {g : TG} {tc : TT} {te : TE}
theorem ps_setC {osc : Scope} {ON : List Str} {k : Nat} {y : Str} {py spos : Pos} (hN : X.N.Nodup) (hk : X.N[k]? = some y) (hky : Loc X.env.scope y) (cs : CompScope osc ON scope N js) (ho : X.env.scope = osc) (hON : X.N = ON) (hc : X.calm = true) (hi : PI X tg iter wi)
    (hg : ∀ s₀ H₀ cl C ex, PG (compX X scope N s₀ H₀ cl C ex) tg g) (hif : ∀ s₀ H₀ cl C ex, PIfs (compX X scope N s₀ H₀ cl C ex) ifs tc) (he : ∀ s₀ H₀ cl C ex, PE (compX X scope N s₀ H₀ cl C ex) elt te)
    (hsw : swapsWith (.ListComp elt [⟨tg, iter, ifs, 0⟩] scope pos) (some (.Name y py)) spos.line X.env = pure true := by rfl)
    (hs : ∀ x, foldedSetIterable iter X.env x = pure x := by intro _; rfl) (hf : X.fn y = true ∨ X.env.scope.names.lookup y = some .local := by first | exact .inl rfl | exact .inr rfl | assumption) :
    PS X (.Assign [.Name y py] (.ListComp elt [⟨tg, iter, ifs, 0⟩] scope pos) spos) (tAsg (tComp wi (subσ js) g tc te) (gName k)) := by
  intro pins s σ H Dn I h0
  have h : tComp wi (subσ js) g tc te σ H (fun v H' => Dn.nx (σ.set k (some v)) H') := h0
  subst ho hON
  obtain ⟨cl, hcl, cl1, cl2⟩ := closureFor_ok (scope := scope) (env := X.env) fun y hy hf => I.ok.has y.1 (cs.free y hy hf)
  rw [exec_Assign_Name_used _ _ _ _ hsw]
  refine wpAny_bind (wpAny_standAt (wpAny_bind ?_))
  show wpAny _ X.A (do let _ ← comprehension (.ListComp elt [⟨tg, iter, ifs, 0⟩] scope pos) scope X.env _ (newList []) false (eval iter X.env) (some (assign (.Name y py) X.env))) _ _ s
  refine wpAny_bind (wpAny_mono (wpAny_comprehension_free (use := some (assign (.Name y py) X.env)) (Q := fun _ s' => SP X pins Dn .next s') rfl hs hcl cs.kind cs.names ?_) (fun _ s' hq => wpAny_pure (wpAny_pure hq)) fun _ _ e => e)
  refine thn (hi pins s σ H _ I h) fun v s1 h1 => thn h1 fun itv s2 h2 => ?_
  obtain ⟨it, fp, tn, J, H2, e, I2, T, st2, f2, hW⟩ := h2
  subst e
  have hD0 : H2 s2.heap.objs.size = none := I2.hok.fresh (Nat.le_refl _)
  obtain ⟨W, ⟨m0, w0⟩, turn⟩ := hW s2.heap.objs.size hD0
  have I3 := I2.lnew (t' := s2.toks) (ys := []) (its := []) .nil (Nat.zero_le _)
  refine wpAny_newObj_type (wpAny_newFunctionEnv cs.cell (by intro y hy; simp at hy) (fun h₁ hns₁ hsb₁ => ?_) cs.kind)
  dsimp only at hns₁ hsb₁ ⊢
  -- the state with the new list: s3
  obtain ⟨s3, hs3⟩ : ∃ s3 : Shared, s3 = { s2 with heap := s2.heap.push { cls := .type "list", data := .seq ([] : List Value).toArray }, toks := s2.toks } := ⟨_, rfl⟩
  rw [← hs3] at I3
  have e3 : s3.heap = s2.heap.push { cls := .type "list", dict := none, data := .seq ([] : List Value).toArray } := by rw [hs3]
  have e3o : s3.os = s2.os := by rw [hs3]
  have e3g : s3.gens = s2.gens := by rw [hs3]
  rw [← e3] at hns₁ hsb₁ ⊢
  obtain ⟨H3, hH3⟩ : ∃ H3 : Hp, H3 = upd H2 s2.heap.objs.size (.lst []) := ⟨_, rfl⟩
  rw [← hH3] at I3 w0
  have up1 : ∀ b o, s2.heap.get? b = some o → s3.heap.get? b = some o := fun b o q => by rw [e3]; exact Heap.get?_push_of_some _ q
  have up2 : ∀ b o, s3.heap.get? b = some o → h₁.get? b = some o := fun b o q => hsb₁.extBut b o (Nat.ne_of_lt (Heap.lt_size q)) (Heap.get?_push_of_some _ q)
  have fpo : ∀ b ∈ fp, ∃ o, s3.heap.get? b = some o := fun b hb => by
    obtain ⟨o, ho, _⟩ := T.obj 0 _ st2 b hb
    exact ⟨o, up1 b o ho⟩
  have fr3 : ∀ b ∈ fp, H3 b = none := fun b hb => by
    obtain ⟨o, ho, _⟩ := T.obj 0 _ st2 b hb
    rw [hH3, upd_ne (Nat.ne_of_lt (Heap.lt_size ho))]
    exact (f2 b hb).1
  have fpC : ∀ b ∈ fp, b ≠ s3.heap.objs.size := fun b hb => by
    obtain ⟨o, ho⟩ := fpo b hb
    exact Nat.ne_of_lt (Heap.lt_size ho)
  have fpS : ∀ b ∈ fp, b ∉ frs X.stack := fun b hb hs' => by
    rcases List.mem_cons.mp (I2.stkSub b hs') with z | z
    · exact (f2 b hb).2.1 z
    · exact (f2 b hb).2.2.1 z
  have ok' : (compX X scope N s3 H3 cl s3.heap.objs.size fp).Ok := by
    refine ⟨I.ok.mod, cs.kind, I.ok.glob, I.ok.blt, Nat.le_refl _, fun x y c e1 e2 => I.ok.inj x y c (cl2 x c e1) (cl2 y c e2), fun x hx => ?_, fun x c hf => (nomatch hf), I.ok.hd, I.ok.frames, .inl rfl, fun b hb => ⟨fpC b hb, fun x c e => (f2 b hb).2.2.2.2.1 x c (cl2 x c e)⟩,
      I3.bs, Nat.le_trans I.ok.bsz I3.sz, fun b o e hb => ?_, fun b hb => fpS b hb, I3.stack, I3.stkFree⟩
    · have hm : (x, NameKind.free) ∈ scope.names := relabel_back cs.cell hx
      obtain ⟨c, hc⟩ := I.ok.has x (cs.free _ hm rfl)
      exact ⟨c, (cl1 _ hm rfl).trans hc⟩
    · rcases (f2 b hb).2.2.2.1 with z | z
      · exact I.ok.noex b o e z
      · exact absurd (Nat.lt_of_lt_of_le (Heap.lt_size e) (Nat.le_trans I.ok.bsz z)) (Nat.lt_irrefl _)
  have cellK : ∀ c v, s3.heap.IsCell c v → h₁.IsCell c v := fun c v ⟨o, ho, hd⟩ => ⟨o, up2 c o ho, hd⟩
  have I4 : ∀ t : Nat, Inv (compX X scope N s3 H3 cl s3.heap.objs.size fp) [] (subσ js σ) H3 { s2 with heap := h₁, toks := t } := fun t => by
    refine ⟨ok', e3o.symm, I2.bare, Un.kept up2, ⟨_, hns₁, fun i x v hi hv hx => ?_⟩, fun x c e => ?_, I3.hok.fresh (Nat.le_refl _), fun x c e => I3.freeC x c (cl2 x c e), fun p hp => (nomatch hp), I3.hok.kept up2, ?_⟩
    · -- a slot taken over
      have hv' : ∃ j, js[i]? = some (some j) ∧ σ[j]? = some (some v) := by
        unfold subσ at hv
        rw [List.getElem?_map] at hv
        cases hj : js[i]? with
        | none => rw [hj] at hv; cases hv
        | some o =>
          rw [hj] at hv
          cases o with
          | none => cases hv
          | some j =>
            refine ⟨j, rfl, ?_⟩
            have hv2 : (σ[j]?).join = some v := Option.some.inj hv
            cases hs2 : σ[j]? with
            | none => rw [hs2] at hv2; cases hv2
            | some u => rw [hs2] at hv2; exact congrArg some hv2
      obtain ⟨j, hj, hσ⟩ := hv'
      obtain ⟨x', h1', h2', h3'⟩ := cs.sub i j hj
      have hxx : x = x' := Option.some.inj (hi.symm.trans h1')
      subst hxx
      have hm : (x, NameKind.free) ∈ scope.names := mem_of_lookup h3'
      have hk := cs.free _ hm rfl
      obtain ⟨m, hn, hl⟩ := id I3.loc
      obtain ⟨u, ru, lk⟩ := hl j x v h2' hσ (by rcases hk with z | z; exact .inr (.inl z); exact .inr (.inr z))
      refine ⟨u, ru, ?_⟩
      rcases lk with ⟨k1, _⟩ | ⟨k1, c, e1, z⟩
      · rcases hk with z | z <;> (rw [show X.env.kindOf x = _ from z] at k1; cases k1)
      · exact .inr ⟨lookup_relabel_free h3', c, (cl1 _ hm rfl).trans e1, cellK c _ z⟩
    · obtain ⟨v, z⟩ := I3.cell x c (cl2 x c e)
      exact ⟨v, cellK c v z⟩
    · unfold subσ
      rw [List.length_map]
      exact cs.len
  have hst₁ : tn 0 h₁ := T.keep 0 _ _ st2 fun b hb o q => up2 b o (up1 b o q)
  have stat : ∀ {H' : Hp}, (∀ b ∈ fp, H' b = none) → ∀ b ∈ fp, FpOk (compX X scope N s3 H3 cl s3.heap.objs.size fp) [] H' b := fun hn b hb =>
    ⟨hn b hb, fpC b hb, fpS b hb, .inl hb, fun x c e => (f2 b hb).2.2.2.2.1 x c (cl2 x c e), fun p hp => (nomatch hp)⟩
  have loop : ∀ s4 : Shared, (∃ t, s4 = { s2 with heap := h₁, toks := t }) →
      codeAny (model X.prog X.w) X.A (.compLoop (.ListComp elt [⟨tg, iter, ifs, 0⟩] scope pos) 0 (.ref it) (.ref s2.heap.objs.size) (compEnvC scope cl s3.heap.objs.size X.env))
        (compPost (model X.prog X.w) X.A X.xe (some (assign (.Name y py) X.env)) (fun _ s' => SP X pins Dn .next s') (.ref s2.heap.objs.size) s3.heap.objs.size) s4 := by
    rintro s4 ⟨t, rfl⟩
    refine compLoop_any (fun n s' => ∃ i σ' ys H', Inv (compX X scope N s3 H3 cl s3.heap.objs.size fp) [] σ' H' s' ∧ tn i s'.heap ∧ (∀ b ∈ fp, H' b = none) ∧ W i n σ' ys H') ?_ m0 ⟨0, _, [], H3, I4 t, hst₁, fr3, w0⟩
    rintro n s5 ⟨i, σ5, ys, H5, I5, st5, fr5, w5⟩
    rcases turn i n σ5 ys H5 w5 with ⟨stop, qn⟩ | ⟨go, step⟩
    · refine thn (T.done (compX X scope N s3 H3 cl s3.heap.objs.size fp) rfl rfl rfl hc i [] s5 σ5 H5 _ I5 (stat fr5) st5 stop) fun r s6 ⟨hr, I6⟩ => ?_
      subst hr
      obtain ⟨m, hn, _⟩ := id I6.loc
      have IX : ∀ h', Heap.SameBut s3.heap.objs.size s6.heap h' → Inv X pins σ H5 { s6 with heap := h' } := fun h' hs' => by
        have neC : ∀ b o, s3.heap.get? b = some o → b ≠ s3.heap.objs.size := fun b o q => Nat.ne_of_lt (Heap.lt_size q)
        have un : Un (frs X.stack) fp H3 H5 s3.heap h' :=
          ⟨fun b o q n1 hb hx => (hs'.2 b (neC b o q)).trans (I6.base.keep b o q n1 hb hx),
           fun b o q n1 hb hx => by
             obtain ⟨sl, e⟩ := I6.base.slot b o q n1 hb hx
             exact ⟨sl, (hs'.2 b (neC b o q)).trans e⟩,
           fun b o q n1 hx => I6.base.free b o q n1 hx,
           fun b o q hx => by
             obtain ⟨o', e⟩ := I6.base.there b o q hx
             exact ⟨o', (hs'.2 b (neC b o q)).trans e⟩,
           I6.base.tups, I6.base.frzs, I6.base.tbls⟩
        refine I3.call' (ch := fp) (s' := { s6 with heap := h' }) I6.os un (fun b ob e => ?_) I6.bare (fun b hb => ⟨(f2 b hb).2.2.2.1, (f2 b hb).2.1, (f2 b hb).2.2.2.2.1, (f2 b hb).2.2.2.2.2⟩)
        refine (I6.hok b ob e).stay (fun c w' hc' q => (hs'.2 c ?_).trans q) (fun _ q => q) fun _ _ q => q
        rintro rfl
        have fC : H5 s3.heap.objs.size = none := I6.free
        rcases hc' with z | z
        · rw [← z, fC] at e; cases e
        · rw [fC] at z; cases z
      have fC : H5 s3.heap.objs.size = none := I6.free
      have IY : Inv X pins σ H5 s6 := IX s6.heap (Heap.SameBut.refl ..)
      have fo : FpOk X pins H5 s3.heap.objs.size := I3.fpOk (Nat.le_refl _) fC
      obtain ⟨oC, es, ep, ho1, hd1, hrest⟩ := id hn
      have IZ := IY.pinned (fp := [s3.heap.objs.size]) (fun b hb => by obtain rfl : b = _ := (by simpa using hb); exact fo) (fun b hb => by obtain rfl : b = _ := (by simpa using hb); exact ⟨oC, ho1, fun v z => by rw [hd1] at z; cases z⟩)
      show wpAny _ X.A (assign (.Name y py) X.env (.ref s2.heap.objs.size)) _ _ s6
      refine wpAny_assign_Name (store_ok IZ hN hk hky (show RelV (.ref s2.heap.objs.size) (.ref s2.heap.objs.size) from rfl) (fun s7 I7 => ?_) hf)
      have hC7 : s7.heap.get? s3.heap.objs.size = some oC := (I7.pin (s3.heap.objs.size, oC) (List.mem_append_right _ (List.mem_append_right _ (mem_pinsAt (by simp) ho1)))).1
      refine ⟨m, hn.at' fun o e => ?_, fun h' hs' => ⟨_, H5, ?_, qn⟩⟩
      · rw [ho1] at e; cases e; exact hC7
      · have I8 := I7.unpinned
        exact I8.turned (t' := s7.toks) (fun b o hb e => (hs'.2 b hb).trans e) fo.1 fo.2.1 fo.2.2.2.1 fo.2.2.2.2.1 fo.2.2.2.2.2
    · refine thn (T.item (compX X scope N s3 H3 cl s3.heap.objs.size fp) rfl rfl rfl hc i [] s5 σ5 H5 _ I5 (stat fr5) st5 go) fun r s6 ⟨u, hr, h6⟩ => ?_
      subst hr
      refine thn h6 fun _ s7 ⟨x, H7, I7, r7, y7, st7, fr7⟩ => ?_
      have I7' := I7.pinned (stat fr7) (T.obj _ _ st7)
      refine thn (hg _ _ _ _ _ _ s7 σ5 H7 x u _ I7' r7 (step x H7 y7)) fun _ s8 ⟨σ8, H8, I8, q8⟩ => ?_
      refine thn (hif _ _ _ _ _ _ s8 σ8 H8 _ I8 q8) fun ok s9 ⟨H9, I9, q9⟩ => ?_
      have again : ∀ {σ' : St} {H' : Hp} {s' : Shared}, Inv (compX X scope N s3 H3 cl s3.heap.objs.size fp) ([] ++ pinsAt fp s7.heap) σ' H' s' →
          Inv (compX X scope N s3 H3 cl s3.heap.objs.size fp) [] σ' H' s' ∧ tn (i + 1) s'.heap ∧ ∀ b ∈ fp, H' b = none := fun {σ' H' s'} I' => by
        refine ⟨I'.unpinned, T.keep _ _ _ st7 fun b hb o e => (I'.pin (b, o) (List.mem_append_right _ (List.mem_append_right _ (mem_pinsAt hb e)))).1, fun b hb => ?_⟩
        obtain ⟨o, e, d⟩ := T.obj _ _ st7 b hb
        exact (I'.pin (b, o) (List.mem_append_right _ (List.mem_append_right _ (mem_pinsAt hb e)))).2.1
      cases ok with
      | false =>
        rw [if_neg Bool.false_ne_true] at q9 ⊢
        obtain ⟨m', hm, w9⟩ := q9
        obtain ⟨a1, a2, a3⟩ := again I9
        exact ⟨m', hm, i + 1, σ8, ys, H9, a1, a2, a3, w9⟩
      | true =>
        rw [if_pos rfl] at q9 ⊢
        refine thn (he _ _ _ _ _ _ s9 σ8 H9 _ I9 q9) fun yv s10 ⟨y, H10, I10, r10, q10⟩ => ?_
        obtain ⟨hD, hz, m', hm, w10⟩ := q10
        refine thn (mt_append (X := compX X scope N s3 H3 cl s3.heap.objs.size fp) _ s10 σ8 H10 (.ref s2.heap.objs.size) [y] (.ref s2.heap.objs.size) [yv] (fun v H' => H' = upd H10 s2.heap.objs.size (.lst (ys ++ [y]))) I10 rfl (.cons r10 .nil)
          ⟨s2.heap.objs.size, ys, y, rfl, rfl, hD, hz, rfl⟩) fun _ s11 ⟨v11, H11, I11, _, e11⟩ => ?_
        have e11' : H11 = upd H10 s2.heap.objs.size (.lst (ys ++ [y])) := e11
        subst e11'
        obtain ⟨a1, a2, a3⟩ := again I11
        exact ⟨m', hm, i + 1, σ8, ys ++ [y], _, a1, a2, a3, w10⟩
  exact codeAny_compStart_list (loop _ ⟨_, rfl⟩) (T.self X.A 0 _ _ _ hst₁ (loop _ ⟨_, rfl⟩))
end
end L2

set_option linter.all false
namespace L2
open PySem PySem.StrLaws Builtin Builtin.Str
end L2

set_option linter.all false
set_option maxRecDepth 100000
set_option maxHeartbeats 4000000
/-! f-strings, split, str(n), int(text). -/
namespace L2
open PySem PySem.Spec PyProof.Rows
section
variable {X : Cx} {e : Expr} {es : List Expr} {te : TE} {tr : TF} {pos : Pos}
theorem fig_text : ∀ n : Nat, n ≤ 9 → toString ((n : Nat) : Int) = (⟨[48 + n].toArray⟩ : Str) := by
  intro n hn
  have : n = 0 ∨ n = 1 ∨ n = 2 ∨ n = 3 ∨ n = 4 ∨ n = 5 ∨ n = 6 ∨ n = 7 ∨ n = 8 ∨ n = 9 := by omega
  rcases this with rfl | rfl | rfl | rfl | rfl | rfl | rfl | rfl | rfl | rfl <;> decide +kernel
theorem fig_log {n : Nat} (h : n ≤ 9) : ((n : Int).natAbs).log2 < 1920 := by
  have : n = 0 ∨ n = 1 ∨ n = 2 ∨ n = 3 ∨ n = 4 ∨ n = 5 ∨ n = 6 ∨ n = 7 ∨ n = 8 ∨ n = 9 := by omega
  rcases this with rfl | rfl | rfl | rfl | rfl | rfl | rfl | rfl | rfl | rfl <;> decide +kernel
/-- str(n) of a figure -/
theorem call_str_intT : CallR X (.type "str") (fun xs H Q => ∃ n : Nat, xs = [.int n] ∧ n ≤ 9 ∧ Q (T [48 + n]) H) := by
  intro pins s σ H xs us Q I r h
  obtain ⟨n, rfl, hn, q⟩ := h
  refine call_str_int pins s σ H _ us Q I r ⟨_, rfl, fig_log hn, ?_⟩
  rw [fig_text n hn]
  exact q
end
end L2

set_option linter.all false
set_option maxRecDepth 100000
set_option maxHeartbeats 4000000
/-! objects made, by what one wants of them; comprehensions by place. -/
namespace L2
open PySem PySem.Spec PyProof.Rows
section
variable {X : Cx} {x m : Str} {k : Nat} {ps : List Str} {sp : Sp} {C : Addr} {p pos apos : Pos} {e o : Expr} {es : List Expr} {t : TA} {to : TE}
theorem pe_mkI {r : List V → Hp → VK → Prop} (G : MkG X.prog X.w X.K X.mg X.base C x k ps sp) (hr : Room (k + 1) X.A)
    (imp : ∀ vs H Q, r vs H Q → ∀ x dx, H x = none → H dx = none → dx ≠ x → sp (.ref x :: (vs ++ [])) (upd (upd H dx (.own x)) x (.ins C dx [])) (fun v H2 => v = .non ∧ Q (.ref x) H2) E0)
    (ha : PA X (e :: es) t) (hg : Gl X x := by rfl) (hdb : (x == ("__debug__" : Str)) = false := by decide)
    (he : starEach (e :: es) X.env = (false, eval e X.env) :: starEach es X.env := by rfl) (hpl : (backTo pos (starEach es X.env)).any (·.1) = false := by rfl) : PE X (.Call (.Name x p) (e :: es) [] pos) (tCB r t) := by
  obtain ⟨f, fd, a, M, hm, hb⟩ := G
  intro pins s σ H Q I h
  refine wpAny_Call_Name_kw (ld_glob I hg hm ?_ hdb)
  refine PySem.W.callWith_K (h₀ := X.base) I.ok.mod.kin M.kp (thn (ha pos pins s σ H _ I h) fun us s1 ⟨vs, H1, I1, rv, q⟩ => ⟨I1.kIn, ?_⟩) he hpl
  exact run_make M a hr hb .nil pass0 I1 rv (imp vs H1 Q q)
end
end L2

set_option linter.all false
set_option maxRecDepth 100000
set_option maxHeartbeats 4000000
/-! comprehensions of any target and test, item by item; sum. -/
namespace L2
open PySem PySem.Spec PyProof.Rows
/-- two rows side by side, of one heap -/
def All2 {α : Type} (P : α → V → Hp → Prop) (H : Hp) : List α → List V → Prop
  | [], [] => True
  | a :: as, y :: ys => P a y H ∧ All2 P H as ys
  | _, _ => False
section
variable {α : Type} {P : α → V → Hp → Prop} {H H' : Hp}
theorem All2.len : ∀ {as : List α} {ys : List V}, All2 P H as ys → ys.length = as.length
  | [], [], _ => rfl
  | _ :: _, _ :: _, h => by rw [List.length_cons, List.length_cons, All2.len h.2]
  | [], _ :: _, h => h.elim
  | _ :: _, [], h => h.elim
theorem All2.snoc : ∀ {as : List α} {ys : List V} {a : α} {y : V}, All2 P H as ys → P a y H → All2 P H (as ++ [a]) (ys ++ [y])
  | [], [], _, _, _, p => ⟨p, trivial⟩
  | _ :: _, _ :: _, _, _, h, p => ⟨h.1, All2.snoc h.2 p⟩
  | [], _ :: _, _, _, h, _ => h.elim
  | _ :: _, [], _, _, h, _ => h.elim
theorem All2.imp {P' : α → V → Hp → Prop} : ∀ {as : List α} {ys : List V}, All2 P H as ys → (∀ a y, P a y H → P' a y H') → All2 P' H' as ys
  | [], [], _, _ => trivial
  | _ :: _, _ :: _, h, f => ⟨f _ _ h.1, All2.imp h.2 f⟩
  | [], _ :: _, h, _ => h.elim
  | _ :: _, [], h, _ => h.elim
theorem All2.get : ∀ {as : List α} {ys : List V} {i : Nat} {a : α}, All2 P H as ys → as[i]? = some a → ∃ y, ys[i]? = some y ∧ P a y H
  | [], [], _, _, _, e => by simp at e
  | b :: _, y :: _, 0, a, h, e => ⟨y, rfl, by rw [← (Option.some.inj e : b = a)]; exact h.1⟩
  | _ :: as, _ :: ys, i + 1, a, h, e => All2.get (as := as) (ys := ys) (i := i) h.2 (by simpa using e)
  | [], _ :: _, _, _, h, _ => h.elim
  | _ :: _, [], _, _, h, _ => h.elim
theorem All2.back : ∀ {as : List α} {ys : List V} {i : Nat} {y : V}, All2 P H as ys → ys[i]? = some y → ∃ a, as[i]? = some a ∧ P a y H
  | [], [], _, _, _, e => by simp at e
  | b :: _, z :: _, 0, y, h, e => ⟨b, rfl, by rw [← (Option.some.inj e : z = y)]; exact h.1⟩
  | _ :: as, _ :: ys, i + 1, y, h, e => All2.back (as := as) (ys := ys) (i := i) h.2 (by simpa using e)
  | [], _ :: _, _, _, h, _ => h.elim
  | _ :: _, [], _, _, h, _ => h.elim
theorem All2.eqmap {f : α → V} : ∀ {as : List α} {ys : List V}, All2 P H as ys → (∀ a y, P a y H → y = f a) → ys = as.map f
  | [], [], _, _ => rfl
  | _ :: _, _ :: _, h, g => by rw [List.map_cons, ← g _ _ h.1, ← All2.eqmap h.2 g]
  | [], _ :: _, h, _ => h.elim
  | _ :: _, [], h, _ => h.elim
end
/-- all but lists stays -/
def Keeps (Ha Hb : Hp) : Prop := ∀ a ob, Ha a = some ob → (∀ zs, ob ≠ .lst zs) → Hb a = some ob
theorem Same.keeps {Ha Hb : Hp} (h : Same Ha Hb) : Keeps Ha Hb := fun a ob e _ => h a ob e
theorem Keeps.trans {Ha Hb Hc : Hp} (h : Keeps Ha Hb) (h' : Keeps Hb Hc) : Keeps Ha Hc := fun a ob e n => h' a ob (h a ob e n) n
theorem keeps_lst {Ha : Hp} {D : Addr} {zs ys : List V} (h : Ha D = some (.lst zs)) : Keeps Ha (upd Ha D (.lst ys)) := fun a ob e hn => by
  by_cases c : a = D
  · subst c; rw [h] at e; cases e; exact absurd rfl (hn zs)
  · rw [upd_ne c]; exact e
theorem comp_gen {α : Type} {J : It} {H : Hp} {σ0 : St} {g : TG} {tc : TT} {te : TE} {Q : VK} (xs : List α) (p : α → Bool) (P : α → V → Hp → Prop) (sh : St → Prop) (hx : xs.length ≤ 1000000) (h0 : sh σ0)
    (hgo : ∀ i H', Same H H' → i < xs.length → J.go i H') (hstop : ∀ H', Same H H' → J.stop xs.length H')
    (hk : ∀ a y Ha Hb, Keeps Ha Hb → P a y Ha → P a y Hb)
    (step : ∀ (i : Nat) a σ x H' H'', xs[i]? = some a → sh σ → Same H H' → J.yld i H' x H'' → ∀ (Rf : St → Hp → Prop) (Rt : St → V → Hp → Prop),
      (∀ σ2 H3, p a = false → sh σ2 → Same H' H3 → Rf σ2 H3) → (∀ σ2 y H4, p a = true → sh σ2 → Same H' H4 → P a y H4 → Rt σ2 y H4) →
      g x σ H'' fun σ2 H2 => tc σ2 H2 fun b H3 => if b = true then te σ2 H3 (fun y H4 => Rt σ2 y H4) else Rf σ2 H3)
    (hQ : ∀ D H' ys, H D = none → Same H H' → All2 P H' (xs.filter p) ys → H' D = some (.lst ys) → Q (.ref D) H') : CompW J H σ0 g tc te Q := by
  intro D hD
  refine ⟨fun i m σ1 ys H' => m = xs.length - i ∧ i ≤ xs.length ∧ sh σ1 ∧ All2 P H' ((xs.take i).filter p) ys ∧ H' D = some (.lst ys) ∧ Same H H', ⟨xs.length, by simp, Nat.zero_le _, h0, trivial, upd_same, same_new hD _⟩, ?_⟩
  rintro i m σ1 ys H' ⟨rfl, hi, hσ, hP, hDD, hs⟩
  by_cases hlt : i < xs.length
  · refine .inr ⟨hgo i H' hs hlt, fun x H'' hy => ?_⟩
    have ha : xs[i]? = some xs[i] := List.getElem?_eq_getElem hlt
    have ht : xs.take (i + 1) = xs.take i ++ [xs[i]] := by rw [List.take_add_one, ha]; rfl
    refine step i xs[i] σ1 x H' H'' ha hσ hs hy _ _ (fun σ2 H3 hf sh2 s3 => ?_) (fun σ2 y H4 hf sh2 s4 py => ?_)
    · refine ⟨xs.length - (i + 1), by omega, rfl, hlt, sh2, ?_, s3 _ _ hDD, hs.trans s3⟩
      rw [ht, List.filter_append, List.filter_cons, hf]
      show All2 P H3 (List.filter p (xs.take i) ++ []) ys
      rw [List.append_nil]
      exact hP.imp fun a y => hk a y _ _ s3.keeps
    · have hl := hP.len
      refine ⟨s4 _ _ hDD, ?_, xs.length - (i + 1), by omega, rfl, hlt, sh2, ?_, upd_same, (hs.trans s4).upd hD⟩
      · have h1 := List.length_filter_le p (xs.take i)
        rw [List.length_take] at h1
        have : (1000001 : Nat) ≤ sizeLine := by decide
        omega
      · rw [ht, List.filter_append, List.filter_cons, hf]
        have kk : Keeps H4 (upd H4 D (.lst (ys ++ [y]))) := keeps_lst (s4 _ _ hDD)
        exact All2.snoc (hP.imp fun a y => hk a y _ _ (s4.keeps.trans kk)) (hk _ _ _ _ kk py)
  · have e : i = xs.length := by omega
    subst e
    refine .inl ⟨hstop H' hs, hQ D H' ys hD hs ?_ hDD⟩
    rw [List.take_of_length_le (Nat.le_refl _)] at hP
    exact hP
/-- over what hands on known items -/
theorem comp_hands {α : Type} {J : It} {H : Hp} {σ0 : St} {g : TG} {tc : TT} {te : TE} {Q : VK} {vs : List V} (xs : List α) (p : α → Bool) (P : α → V → Hp → Prop) (sh : St → Prop) (hJ : Hands J H vs) (hv : vs.length = xs.length) (hx : xs.length ≤ 1000000) (h0 : sh σ0)
    (hk : ∀ a y Ha Hb, Keeps Ha Hb → P a y Ha → P a y Hb)
    (step : ∀ (i : Nat) a v σ H', xs[i]? = some a → vs[i]? = some v → sh σ → Same H H' → ∀ (Rf : St → Hp → Prop) (Rt : St → V → Hp → Prop),
      (∀ σ2 H3, p a = false → sh σ2 → Same H' H3 → Rf σ2 H3) → (∀ σ2 y H4, p a = true → sh σ2 → Same H' H4 → P a y H4 → Rt σ2 y H4) →
      g v σ H' fun σ2 H2 => tc σ2 H2 fun b H3 => if b = true then te σ2 H3 (fun y H4 => Rt σ2 y H4) else Rf σ2 H3)
    (hQ : ∀ D H' ys, H D = none → Same H H' → All2 P H' (xs.filter p) ys → H' D = some (.lst ys) → Q (.ref D) H') : CompW J H σ0 g tc te Q := by
  refine comp_gen xs p P sh hx h0 (fun i H' s hi => hJ.go i H' s (by omega)) (fun H' s => by rw [← hv]; exact hJ.stop H' s) hk (fun i a σ x H' H'' ha hσ s hy => ?_) hQ
  have hi : i < xs.length := (List.getElem?_eq_some_iff.mp ha).1
  obtain ⟨e, hx⟩ := hJ.yld i H' x H'' s (by omega) hy
  subst e
  exact step i a x σ H'' ha hx hσ s
/-- over zip of two lists as long as each other -/
theorem comp_zipLG {α : Type} {K : PySem.W.Frag} {l1 l2 : Addr} {H : Hp} {σ0 : St} {g : TG} {tc : TT} {te : TE} {Q : VK} {us vs : List V} (xs : List α) (p : α → Bool) (P : α → V → Hp → Prop) (sh : St → Prop) (hu : SqL K H l1 us) (hv : SqL K H l2 vs) (lu : us.length = xs.length) (lv : vs.length = xs.length) (hx : xs.length ≤ 1000000) (h0 : sh σ0)
    (hk : ∀ a y Ha Hb, Keeps Ha Hb → P a y Ha → P a y Hb)
    (step : ∀ (i : Nat) a u v q σ H', xs[i]? = some a → us[i]? = some u → vs[i]? = some v → sh σ → Same H H' → H' q = none → ∀ (Rf : St → Hp → Prop) (Rt : St → V → Hp → Prop),
      (∀ σ2 H3, p a = false → sh σ2 → Same H' H3 → Rf σ2 H3) → (∀ σ2 y H4, p a = true → sh σ2 → Same H' H4 → P a y H4 → Rt σ2 y H4) →
      g (.ref q) σ (upd H' q (.tup [u, v])) fun σ2 H2 => tc σ2 H2 fun b H3 => if b = true then te σ2 H3 (fun y H4 => Rt σ2 y H4) else Rf σ2 H3)
    (hQ : ∀ D H' ys, H D = none → Same H H' → All2 P H' (xs.filter p) ys → H' D = some (.lst ys) → Q (.ref D) H') : CompW (Izl K l1 l2) H σ0 g tc te Q := by
  refine comp_gen xs p P sh hx h0 (fun i H' s hi => ⟨us, vs, us[i], vs[i], s.seq hu, s.seq hv, by simp [lu, hi], by simp [lv, hi]⟩) (fun H' s => ⟨us, vs, s.seq hu, s.seq hv, .inl (by omega)⟩) hk (fun i a σ x H' H'' ha hσ s hy => ?_) hQ
  obtain ⟨q, u, v, hq, e1, e2, rfl, rfl⟩ := hy
  exact step i a u v q σ H' ha (e1 us (s.seq hu)) (e2 vs (s.seq hv)) hσ s hq

section
variable {X : Cx} {K : PySem.W.Frag}
end
theorem bt_ty_tuple : bootBuiltins "tuple" = some (.type "tuple") := by decide +kernel
end L2

set_option linter.all false
set_option maxRecDepth 100000
set_option maxHeartbeats 4000000
/-! enumerate of a list. -/
namespace L2
open PySem PySem.Spec PyProof.Rows
def Iel (K : PySem.W.Frag) (l : Addr) : It :=
  ⟨fun i H => ∃ xs x, SqL K H l xs ∧ xs[i]? = some x,
   fun i H v H' => ∃ p x, H p = none ∧ (∀ xs, SqL K H l xs → xs[i]? = some x) ∧ v = .ref p ∧ H' = upd H p (.tup [.int i, x]),
   fun i H => ∃ xs, SqL K H l xs ∧ xs.length ≤ i⟩
theorem turn_enumL {P : Program} {w : World} {K : PySem.W.Frag} {es : List Expr} {k : Nat} {pos : Pos} {z it l : Addr} (zi : z ≠ it) :
    Turn P w K (.Tuple es k pos) (Iel K l) [z, it] z (fun i h => (∃ old, IsEnum h z it (i : Int) old) ∧ h.IsListIter it l i) where
  mem := by simp
  obj := fun i h st b hb => by
    obtain ⟨⟨old, hz⟩, o1, e1, c1, d1⟩ := st
    simp only [List.mem_cons, List.not_mem_nil, or_false] at hb
    rcases hb with rfl | rfl
    · exact ⟨_, hz, fun v q => by cases q⟩
    · exact ⟨o1, e1, fun v q => by rw [d1] at q; cases q⟩
  keep := fun i h h' st kk => by
    obtain ⟨⟨old, hz⟩, o1, e1, r1⟩ := st
    exact ⟨⟨old, kk z (by simp) _ hz⟩, ⟨o1, kk it (by simp) _ e1, r1⟩⟩
  item := by
    intro X hP hw hK hc i pins s σ H E I hf st hg
    subst hP hw hK
    obtain ⟨⟨old, hz⟩, h1⟩ := st
    obtain ⟨xs, x, hq1, hx⟩ := hg
    obtain ⟨ia, ra, pa, _⟩ := I.list hq1
    obtain ⟨u, hu, ru⟩ := ra.get hx
    refine wpAny_pyNext_enum_item hz h1 pa.isList (x := u) (by simpa using hu) zi fun h' a1 a2 a3 a4 kp => ?_
    refine ⟨_, rfl, ?_⟩
    refine wpAny_letOwnedTupleGo_enum (s := { s with heap := h', toks := s.toks + 1 }) a1 fun h2' hz' hs' => ?_
    replace hs' : Heap.SameBut z h' h2' := hs'
    have zlt : z < s.heap.objs.size := Heap.lt_size hz
    have far : ∀ q ∈ [z, it], q < s.heap.objs.size := by
      intro q hq
      obtain ⟨o1, e1, _⟩ := h1
      simp only [List.mem_cons, List.not_mem_nil, or_false] at hq
      rcases hq with rfl | rfl
      · exact zlt
      · exact Heap.lt_size e1
    have fz := hf z (by simp)
    have f1 := hf it (by simp)
    have keepAll : ∀ b o, b ≠ z → b ≠ it → s.heap.get? b = some o → h2'.get? b = some o := fun b o b1 b2 e => hs'.extBut _ _ b1 (kp b o b1 b2 e)
    have hnew : H s.heap.objs.size = none := I.hok.fresh (Nat.le_refl _)
    have Tz : s.heap.objs.size ≠ z := Nat.ne_of_gt zlt
    have ht2 : h2'.get? s.heap.objs.size = some { cls := .type "tuple", data := .seq #[.int i s.toks, u] } := hs'.extBut _ _ Tz a3
    have I2 : Inv X pins σ (upd H s.heap.objs.size (.tup [.int i, x])) { s with heap := h2', toks := s.toks + 1 } := by
      have there : ∀ q ∈ [z, it], ∃ o', h2'.get? q = some o' := by
        intro q hq
        obtain ⟨o1, e1, _⟩ := a2
        simp only [List.mem_cons, List.not_mem_nil, or_false] at hq
        rcases hq with rfl | rfl
        · exact ⟨_, hz'⟩
        · exact ⟨_, hs'.extBut _ _ zi.symm e1⟩
      have nch : ∀ b, b ∉ [z, it] → b ≠ z ∧ b ≠ it := fun b hb => by
        simp only [List.mem_cons, List.not_mem_nil, or_false, not_or] at hb
        exact hb
      have trk : ∀ b u', H b = some u' → b ≠ z ∧ b ≠ it := fun b u' e =>
        ⟨fun q => (by rw [q, fz.1] at e; cases e), fun q => (by rw [q, f1.1] at e; cases e)⟩
      have okH : HOk X.prog X.w (upd H s.heap.objs.size (.tup [.int i, x])) h2' := fun b u' e => by
        by_cases hb : b = s.heap.objs.size
        · subst hb
          rw [upd_same] at e
          cases e
          exact ⟨(show 2 ≤ sizeLine by decide), [.int i s.toks, u], .cons ⟨_, rfl⟩ (.cons ru .nil), ⟨_, ht2, rfl, _, rfl⟩⟩
        · rw [upd_ne hb] at e
          have hx := I.hok b u' e
          refine hx.stay (fun q o hq e2 => ?_) (fun q e2 => ?_) (fun q xs e2 => ?_)
          · rcases hq with rfl | hq
            · obtain ⟨b1, b2⟩ := trk q _ e
              exact keepAll q o b1 b2 e2
            · obtain ⟨b1, b2⟩ := trk q _ hq
              exact keepAll q o b1 b2 e2
          · rw [upd_ne (ne_of_none e2 hnew)]; exact e2
          · rw [upd_ne (ne_of_none e2 hnew)]; exact e2
      refine I.step (g' := s.gens) (d' := s.drawn) (ch := [z, it]) (fun b hb => ?_) (fun b o _ _ hcb e n => ?_) (fun b o _ _ hcb e n => ?_) (fun b o hcb e n => ?_) (fun b o hcb e => ?_) (fun b xs e => ?_) (fun b o u' e => ?_) (fun b ps e => ?_) (fun m hm => ?_) okH I.bare
      · simp only [List.mem_cons, List.not_mem_nil, or_false] at hb
        rcases hb with rfl | rfl
        · exact ⟨fz.2.2.2.1, fz.2.1, fz.2.2.2.2.1, fz.2.2.2.2.2⟩
        · exact ⟨f1.2.2.2.1, f1.2.1, f1.2.2.2.2.1, f1.2.2.2.2.2⟩
      · obtain ⟨b1, b2⟩ := nch b hcb
        exact keepAll b o b1 b2 e
      · obtain ⟨b1, b2⟩ := nch b hcb
        exact ⟨o.slots, keepAll b o b1 b2 e⟩
      · rw [upd_ne (Nat.ne_of_lt (Heap.lt_size e))]; exact n
      · obtain ⟨b1, b2⟩ := nch b hcb
        exact ⟨o, keepAll b o b1 b2 e⟩
      · rw [upd_ne (ne_of_none e hnew)]; exact e
      · rw [upd_ne (ne_of_none e hnew)]; exact e
      · exact ⟨#[], by rw [upd_ne (ne_of_none e hnew), e]; simp⟩
      · obtain ⟨o, es', ep, ho, r⟩ := hm
        exact ⟨o, es', ep, keepAll _ o fz.2.1.symm f1.2.1.symm ho, r⟩
    refine ⟨.ref s.heap.objs.size, _, I2, rfl, ⟨_, x, hnew, fun zs hz => by rw [I.list_inj hz hq1]; exact hx, rfl, rfl⟩, ⟨⟨_, by rw [Int.natCast_add]; exact hz'⟩, ?_⟩, fun b hb => ?_⟩
    · obtain ⟨o, e, r⟩ := a2; exact ⟨o, hs'.extBut _ _ zi.symm e, r⟩
    · rw [upd_ne (Nat.ne_of_lt (far b hb))]; exact (hf b hb).1
  done := by
    intro X hP hw hK hc i pins s σ H E I hf st hg
    subst hP hw hK
    obtain ⟨⟨old, hz⟩, h1⟩ := st
    obtain ⟨xs, hq1, hg⟩ := hg
    obtain ⟨ia, ra, pa, _⟩ := I.list hq1
    have la := ra.length
    obtain ⟨f0, f1, f2, f3, f4, f5⟩ := hf it (by simp)
    refine wpAny_pyNext_enum_end (I.ok.hd hc) hz h1 pa.isList (by simp; omega) fun h' eb => ⟨rfl, I.turned (t' := s.toks) (fun b o hb e => eb b o hb e) f0 f1 f3 f4 f5⟩
  self := fun _ _ _ _ _ st h => by
    obtain ⟨⟨old, hz⟩, _⟩ := st
    exact wpAny_pyIter_enum hz h
section
variable {X : Cx} {es : List Expr} {k : Nat} {tpos : Pos}
def iEnumL (K : PySem.W.Frag) (ta : TA) : TI := fun σ H R => ta σ H fun vs H1 => ∃ a, vs = [.ref a] ∧ (∃ xs, SqL K H1 a xs) ∧ R (Iel K a) H1
theorem pi_enumL {a : Expr} {ta : TA} {p pos : Pos} (hg : Gl X "enumerate") (hm : X.mg "enumerate" = none) (ha : PA X [a] ta) (hv : bootBuiltins "enumerate" = some (.type "enumerate") := by decide +kernel) (hs : starEach [a] X.env = [(false, eval a X.env)] := by rfl) :
    PI X (.Tuple es k tpos) (.Call (.Name "enumerate" p) [a] [] pos) (iEnumL X.K ta) := by
  intro pins s σ H R I h
  refine Call_ (ld_blt I hg hm hv (PyProof.Rows.callWith_type1 (thn (ha pos pins s σ H _ I h) fun us s1 ⟨vs, H1, I1, r1, q1⟩ => ?_) (by rw [hs]; rfl) (by rfl)))
  obtain ⟨l1, e, ⟨xs, hq1⟩, q⟩ := q1
  subst e
  obtain ⟨u, rfl, ru⟩ := r1.one
  cases ru
  obtain ⟨ia, ra, pa, _⟩ := I1.list hq1
  refine call_enumerate_list pa.isList fun h' a1 a2 a3 kp => ?_
  have I2 : Inv X pins σ H1 { s1 with heap := h' } := I1.kept (t' := s1.toks) kp
  refine wpAny_pyIter_enum a1 ⟨s1.heap.objs.size + 1, [s1.heap.objs.size + 1, s1.heap.objs.size], _, _, H1, rfl, I2, turn_enumL (Nat.ne_of_gt (Nat.lt_succ_self _)), ⟨⟨_, a1⟩, a2⟩, fun b hb => ?_, q⟩
  have hb' : s1.heap.objs.size ≤ b := by
    simp only [List.mem_cons, List.not_mem_nil, or_false] at hb
    rcases hb with rfl | rfl
    · exact Nat.le_add_right _ _
    · exact Nat.le_refl _
  exact I1.fpOk hb' (I1.hok.fresh hb')
theorem pi_enumLK {K : PySem.W.Frag} {a : Expr} {ta : TA} {p pos : Pos} (h : X.K = K) (hg : Gl X "enumerate") (hm : X.mg "enumerate" = none) (ha : PA X [a] ta) (hv : bootBuiltins "enumerate" = some (.type "enumerate") := by decide +kernel) (hs : starEach [a] X.env = [(false, eval a X.env)] := by rfl) :
    PI X (.Tuple es k tpos) (.Call (.Name "enumerate" p) [a] [] pos) (iEnumL K ta) := h ▸ pi_enumL hg hm ha hv hs
end
/-- for i, x in enumerate(xs) -/
theorem for_enumL {K : PySem.W.Frag} {a : Addr} {xs : List V} {g : TG} {tb : TS} {D : Ends} {σ : St} {H : Hp} (Pv : Nat → St → Hp → Prop) (h0 : Pv 0 σ H) (hl : ∀ i σ H, i ≤ xs.length → Pv i σ H → SqL K H a xs)
    (hs : ∀ i x p σ H, xs[i]? = some x → H p = none → Pv i σ H → g (.ref p) σ (upd H p (.tup [.int i, x])) fun σ2 H2 => tb { D with nx := Pv (i + 1), ct := Pv (i + 1), bk := D.nx } σ2 H2) (hd : ∀ σ H, Pv xs.length σ H → D.nx σ H) :
    ∃ W : Nat → Nat → St → Hp → Prop, (∃ m, W 0 m σ H) ∧ ∀ i m σ H, W i m σ H →
      ((Iel K a).stop i H ∧ D.nx σ H) ∨ ((Iel K a).go i H ∧ ∃ N : St → Hp → Prop, (∀ σ' H', N σ' H' → ∃ m', m' < m ∧ W (i + 1) m' σ' H') ∧ ∀ x H', (Iel K a).yld i H x H' → g x σ H' fun σ2 H2 => tb { D with nx := N, ct := N, bk := D.nx } σ2 H2) := by
  refine ⟨fun i m σ H => m = xs.length - i ∧ i ≤ xs.length ∧ Pv i σ H, ⟨xs.length, by simp, Nat.zero_le _, h0⟩, ?_⟩
  rintro i m σ H ⟨rfl, hi, p⟩
  have q := hl i σ H hi p
  by_cases hlt : i < xs.length
  · refine .inr ⟨⟨xs, xs[i], q, by simp [hlt]⟩, Pv (i + 1), fun σ' H' p' => ⟨xs.length - (i + 1), by omega, rfl, hlt, p'⟩, fun x H' y => ?_⟩
    obtain ⟨r, u, hr, e1, rfl, rfl⟩ := y
    exact hs i u r σ H (e1 xs q) hr p
  · have e : i = xs.length := by omega
    subst e
    exact .inl ⟨⟨xs, q, Nat.le_refl _⟩, hd σ H p⟩
/-- [e for i, x in enumerate(xs)] -/
theorem comp_enumG {α : Type} {K : PySem.W.Frag} {l : Addr} {H : Hp} {σ0 : St} {g : TG} {tc : TT} {te : TE} {Q : VK} {vs : List V} (xs : List α) (p : α → Bool) (P : α → V → Hp → Prop) (sh : St → Prop) (hv : SqL K H l vs) (lv : vs.length = xs.length) (hx : xs.length ≤ 1000000) (h0 : sh σ0)
    (hk : ∀ a y Ha Hb, Keeps Ha Hb → P a y Ha → P a y Hb)
    (step : ∀ (i : Nat) a v q σ H', xs[i]? = some a → vs[i]? = some v → sh σ → Same H H' → H' q = none → ∀ (Rf : St → Hp → Prop) (Rt : St → V → Hp → Prop),
      (∀ σ2 H3, p a = false → sh σ2 → Same H' H3 → Rf σ2 H3) → (∀ σ2 y H4, p a = true → sh σ2 → Same H' H4 → P a y H4 → Rt σ2 y H4) →
      g (.ref q) σ (upd H' q (.tup [.int i, v])) fun σ2 H2 => tc σ2 H2 fun b H3 => if b = true then te σ2 H3 (fun y H4 => Rt σ2 y H4) else Rf σ2 H3)
    (hQ : ∀ D H' ys, H D = none → Same H H' → All2 P H' (xs.filter p) ys → H' D = some (.lst ys) → Q (.ref D) H') : CompW (Iel K l) H σ0 g tc te Q := by
  refine comp_gen xs p P sh hx h0 (fun i H' s hi => ⟨vs, vs[i], s.seq hv, by simp [lv, hi]⟩) (fun H' s => ⟨vs, s.seq hv, by omega⟩) hk (fun i a σ x H' H'' ha hσ s hy => ?_) hQ
  obtain ⟨q, v, hq, e1, rfl, rfl⟩ := hy
  exact step i a v q σ H' ha (e1 vs (s.seq hv)) hσ s hq
end L2

set_option linter.all false
set_option maxRecDepth 100000
set_option maxHeartbeats 4000000
/-! tuples of flat items compared, looked for in a list, lists of them compared; a list held against an empty one. -/
namespace L2
open PySem PySem.Spec PyProof.Rows
theorem eqVs_refl : ∀ {xs : List V}, xs.all flatV = true → eqVs xs xs = true
  | [], _ => rfl
  | x :: xs, h => by
    rw [List.all_cons, Bool.and_eq_true] at h
    rw [eqVs, eqVs_refl h.2, Bool.and_true]
    cases x <;> first | rfl | exact beq_self_eq_true _ | exact absurd h.1 Bool.false_ne_true
theorem eqVs_min (xs ys : List V) : ((List.range (min xs.length ys.length)).all (fun j => eqV (xs.getD j .non) (ys.getD j .non)) && xs.length == ys.length) = eqVs xs ys := by
  by_cases h : xs.length = ys.length
  · rw [beq_iff_eq.mpr h, Bool.and_true, h, Nat.min_self, ← h, eqVs_range h]
  · rw [beq_eq_false_iff_ne.mpr h, Bool.and_false, eqVs_len h]
/-- a tuple of flat items -/
def TpAt (K : PySem.W.Frag) : List V → V → Hp → Prop := fun xs v H => ∃ p, v = .ref p ∧ SqT K H p xs ∧ xs.all flatV = true
section
variable {X : Cx} {K : PySem.W.Frag} {pins : List (Addr × Obj)} {s : Shared} {σ : St} {H : Hp} {A : Around}
theorem rcAt_tup {p r : Addr} {xs ys : List V} (I : Inv X pins σ H s) (hp : SqT X.K H p xs) (hr : SqT X.K H r ys) (fx : xs.all flatV = true) (fy : ys.all flatV = true) (hu : A.units < cLine) : SeqAt.RcAt A s (.ref p) (.ref r) (eqVs xs ys) := by
  obtain ⟨ia, ra, pa, za⟩ := I.tuple hp
  obtain ⟨ib, rb, pb, zb⟩ := I.tuple hr
  have h := SeqAt.RcAt.tuples (A := A) (e := fun j => eqV (xs.getD j .non) (ys.getD j .non)) (show s.heap.IsTuple p ia.toArray from pa) (show s.heap.IsTuple r ib.toArray from pb) hu (eq_items ra rb fx fy)
  rw [List.size_toArray, List.size_toArray, ← ra.length, ← rb.length, eqVs_min] at h
  exact h
theorem eqAt_tup {p r : Addr} {xs ys : List V} (I : Inv X pins σ H s) (hp : SqT X.K H p xs) (hr : SqT X.K H r ys) (fx : xs.all flatV = true) (fy : ys.all flatV = true) (hu : A.units < cLine) : SeqAt.EqAt A s (.ref p) (.ref r) (eqVs xs ys) := by
  by_cases h : p = r
  · subst h
    rw [I.tuple_inj hr hp, eqVs_refl fx]
    exact SeqAt.EqAt.same _
  · exact SeqAt.EqAt.of_refs h (rcAt_tup I hp hr fx fy hu)
/-- a tuple looked for in a list of tuples -/
def rInT (K : PySem.W.Frag) (neg : Bool) : R2 := fun x y H Q => ∃ p l xs yss vs, x = .ref p ∧ y = .ref l ∧ SqT K H p xs ∧ xs.all flatV = true ∧ SqL K H l vs ∧ All2 (TpAt K) H yss vs ∧ Q (.bl (if neg then !(yss.any fun ys => eqVs ys xs) else yss.any fun ys => eqVs ys xs)) H
open Classical in
/-- what is told of an item by its value -/
noncomputable def inE (K : PySem.W.Frag) (H : Hp) (xs : List V) (u : Value) : Bool := decide (∃ p ys, u = Value.ref p ∧ SqT K H p ys ∧ eqVs ys xs = true)
open Classical in
theorem inE_of {p : Addr} {xs ys : List V} (I : Inv X pins σ H s) (hp : SqT X.K H p ys) : inE X.K H xs (.ref p) = eqVs ys xs := by
  unfold inE
  cases e : eqVs ys xs with
  | true => exact decide_eq_true ⟨p, ys, rfl, hp, e⟩
  | false =>
    refine decide_eq_false ?_
    rintro ⟨r, zs, h1, h2, h3⟩
    cases h1
    rw [I.tuple_inj h2 hp, e] at h3
    cases h3
theorem any_inE {xs : List V} (I : Inv X pins σ H s) : ∀ {yss : List (List V)} {vs : List V} {us : List Value}, All2 (TpAt X.K) H yss vs → Vals vs us → us.any (inE X.K H xs) = yss.any fun ys => eqVs ys xs
  | [], [], _, _, .nil => rfl
  | ys :: yss, v :: vs, _, h, .cons r t => by
    obtain ⟨⟨p, rfl, hp, _⟩, h2⟩ := h
    cases r
    rw [List.any_cons, List.any_cons, any_inE I h2 t, inE_of I hp]
  | [], _ :: _, _, h, _ => h.elim
  | _ :: _, [], _, h, _ => h.elim
theorem mem_inE {q : Addr} {xs : List V} (I : Inv X pins σ H s) (hq : SqT X.K H q xs) (fx : xs.all flatV = true) (hu : A.units < cLine) : ∀ {yss : List (List V)} {vs : List V} {us : List Value}, All2 (TpAt X.K) H yss vs → Vals vs us → ∀ u ∈ us, SeqAt.EqAt A s u (.ref q) (inE X.K H xs u)
  | [], [], _, _, .nil => fun u hu => by cases hu
  | ys :: yss, v :: vs, _, h, .cons r t => fun u hm => by
    obtain ⟨⟨p, rfl, hp, fy⟩, h2⟩ := h
    cases r
    rcases List.mem_cons.mp hm with rfl | hm
    · rw [inE_of I hp]
      exact eqAt_tup I hp hq fy fx hu
    · exact mem_inE I hq fx hu h2 t u hm
  | [], _ :: _, _, h, _ => h.elim
  | _ :: _, [], _, h, _ => h.elim
theorem op_inT (h : X.K = K) (hu : X.A.units + 1 < cLine) : OpR X (compareOp .In) (rInT K false) := by
  subst h
  intro pins s σ H x y v u Q I rx ry h
  obtain ⟨p, l, xs, yss, vs, rfl, rfl, hp, fx, hl, ha, q⟩ := h
  cases rx; cases ry
  obtain ⟨its, r, pl, hz⟩ := I.list hl
  refine SeqAt.in_listAt (inE X.K H xs) pl.isList (fun w hw => mem_inE (A := X.A.in1) I hp fx hu ha r w (by simpa using hw)) ⟨.bl _, H, I, rfl, ?_⟩
  rw [show its.toArray.any (inE X.K H xs) = its.any (inE X.K H xs) by simp, any_inE I ha r]
  exact q
/-- isinstance(t, tuple) -/
theorem call_isTup : CallR X (.builtin "isinstance") (fun xs H Q => ∃ p ys, xs = [.ref p, .ty "tuple"] ∧ H p = some (.tup ys) ∧ Q (.bl true) H) := by
  intro pins s σ H xs us Q I r h
  obtain ⟨p, ys, rfl, hp, q⟩ := h
  obtain ⟨u, v, rfl, r1, r2⟩ := r.two
  cases r1; cases r2
  obtain ⟨_, its, _, o, h1, hc, _⟩ := I.hok p _ hp
  exact PySem.W.kia_one PySem.W.kitx_tuple I.kIn ⟨o, h1, hc⟩ (by rfl) (fun z => nomatch z) fun tk => ⟨.bl true, H, I.tok _, rfl, q⟩
end
end L2

set_option linter.all false
set_option maxRecDepth 100000
set_option maxHeartbeats 4000000
/-! a statement cut off from what follows; what is never reached; list += list; tuples unlike; tuples walked. -/
namespace L2
open PySem PySem.Spec PyProof.Rows
/-- what holds behind a statement is told of its own -/
@[irreducible] def tCut (t : TS) : TS := fun D σ H => ∃ R : St → Hp → Prop, t { D with nx := R } σ H ∧ ∀ σ' H', R σ' H' → D.nx σ' H'
theorem tCut.mk {t : TS} {D : Ends} {σ : St} {H : Hp} (R : St → Hp → Prop) (h : t { D with nx := R } σ H) (h' : ∀ σ' H', R σ' H' → D.nx σ' H') : tCut t D σ H := by unfold tCut; exact ⟨R, h, h'⟩
section
variable {X : Cx} {K : PySem.W.Frag}
theorem ps_cut {st : Stmt} {t : TS} (h : PS X st t) : PS X st (tCut t) := by
  intro pins s σ H D I q
  unfold tCut at q
  obtain ⟨R, h1, h2⟩ := q
  refine thn (h pins s σ H _ I h1) fun f s' z => ?_
  cases f with
  | next => obtain ⟨σ', H', I', r⟩ := z; exact ⟨σ', H', I', h2 σ' H' r⟩
  | brk => exact z
  | cont => exact z
  | ret u => exact z
def tNevE : TE := fun _ _ _ => False
def tNevT : TT := fun _ _ _ => False
theorem pss_nev {ss : List Stmt} : PSs X ss tNever := fun _ _ _ _ _ _ h => h.elim
theorem pe_nev {e : Expr} : PE X e tNevE := fun _ _ _ _ _ _ h => h.elim
theorem pt_nev {e : Expr} : PT X e tNevT := fun _ _ _ _ _ _ h => h.elim
theorem inplace_list {M : Model} {A : Around} {E : Value → Shared → Prop} {s : Shared} {a b : Value} {Q : Value → Shared → Prop} (ha : s.TypeIs a "list") (hb : s.TypeIs b "list") (hc : wpAny M A (call (.builtin "list.__iadd__") [a, b]) Q E s) : wpAny M A (inplaceOp .Add a b) Q E s := by
  unfold inplaceOp
  refine wpAny_holding ?_
  have hl : typeLookup (.type "list") (dunderI "add") = pure (some (.builtin "list.__iadd__")) := F.slot_list_iadd.lookup
  have hfi : fillsInplaceSlot (.type "list") "add" (Operator.Add == .Add) = pure false := by
    unfold fillsInplaceSlot
    show (typeLookup (.type "list") (dunderI "add") >>= fun fi => pure (fi.isSome && !isSeqSlot fi)) = pure false
    rw [hl]; rfl
  have hsi : seqSlot? (.type "list") (dunderI "add") = pure (some (.builtin "list.__iadd__")) := by
    unfold seqSlot?
    rw [hl]; rfl
  refine wpAny_bind (wpAny_typeOf ha (wpAny_bind (wpAny_of_eq hfi ?_)))
  show wpAny M A (if false = true then _ else _) Q E s
  rw [if_neg Bool.false_ne_true]
  refine wpAny_bind (binaryOp1_none (nm := "add") ha hb noFill_list_add ?_)
  refine wpAny_bind (wpAny_of_eq hsi ?_)
  exact wpAny_bind (wpAny_rule hc)
def ipL : TIp := fun x y H Q => ∃ l b xs zs, x = .ref l ∧ y = .ref b ∧ H l = some (.lst xs) ∧ H b = some (.lst zs) ∧ xs.length + zs.length ≤ sizeLine ∧ Q (.ref l) (upd H l (.lst (xs ++ zs)))
theorem ip_addL : PIp X .Add ipL := by
  intro pins s σ H x y v u Q I rx ry h
  obtain ⟨l, b, xs, zs, rfl, rfl, hH, hB, hz, q⟩ := h
  cases rx
  cases ry
  obtain ⟨z, its, n, r, hl, e⟩ := I.lstM hH
  obtain ⟨z2, its2, n2, r2, hl2, e2⟩ := I.lstM hB
  have hsz : its.toArray.size + its2.toArray.size ≤ sizeLine := by rw [List.size_toArray, List.size_toArray]; omega
  have hlong : ¬ (!its.toArray.isEmpty && Builtin.List.listTooLong (its.toArray.size + its2.toArray.size)) = true := by
    rw [notLongL hsz, Bool.and_false]
    exact Bool.false_ne_true
  refine inplace_list ⟨_, e, rfl⟩ ⟨_, e2, rfl⟩ ?_
  refine call_meets F.slot_list_iadd ⟨_, e, rfl⟩ F.entry_list_iadd (F.args_list_iadd_2 _ _)
    (AutoSeq1.list___iadd___list_list_0 l its.toArray n b its2.toArray n2 hlong (by rw [List.size_toArray]; omega) (by omega)) ⟨e, e2, ?_⟩
  refine ⟨.ref l, _, I.lset (its' := its ++ its2) hH e (by simp) (r.append r2) ?_, rfl, q⟩
  rw [List.length_append]
  omega
def rNeT (K : PySem.W.Frag) : R2 := fun x y H Q => ∃ p r xs ys, x = .ref p ∧ y = .ref r ∧ SqT K H p xs ∧ SqT K H r ys ∧ xs.all flatV = true ∧ ys.all flatV = true ∧ Q (.bl (!eqVs xs ys)) H
theorem op_neT (h : X.K = K) (hu : X.A.units < cLine) : OpR X (compareOp .NotEq) (rNeT K) := by
  subst h
  intro pins s σ H x y v u Q I rx ry h
  obtain ⟨p, r, xs, ys, rfl, rfl, hp, hr, fx, fy, q⟩ := h
  cases rx; cases ry
  obtain ⟨ia, ra, pa, za⟩ := I.tuple hp
  obtain ⟨ib, rb, pb, zb⟩ := I.tuple hr
  have h := SeqAt.RcNeAt.tuples (A := X.A) (e := fun j => eqV (xs.getD j .non) (ys.getD j .non)) (show s.heap.IsTuple p ia.toArray from pa) (show s.heap.IsTuple r ib.toArray from pb) hu (eq_items ra rb fx fy)
  rw [List.size_toArray, List.size_toArray, ← ra.length, ← rb.length, eqVs_min] at h
  exact h _ _ _ _ ⟨.bl _, H, I, rfl, q⟩
theorem pi_tupK {tg l : Expr} {tl : TE} (h : X.K = K) (hl : PE X l tl) : PI X tg l (iTup K tl) := h ▸ pi_tup hl
theorem Same.seqT {H H' : Hp} {a : Addr} {xs : List V} (e : Same H H') (h : SqT K H a xs) : SqT K H' a xs := by
  rcases h with (h | ⟨o, h⟩) | h
  · exact .inl (.inl (e _ _ h))
  · exact .inl (.inr ⟨o, e _ _ h⟩)
  · exact .inr h
theorem hands_tup {a : Addr} {H : Hp} {xs : List V} (h : SqT K H a xs) : Hands (Itt K a) H xs where
  go := fun i H' s hi => ⟨xs, xs[i], s.seqT h, by simp [hi]⟩
  yld := fun i H' x H'' s hi y => ⟨y.1, y.2 xs (s.seqT h)⟩
  stop := fun H' s => ⟨xs, s.seqT h, Nat.le_refl _⟩
/-- isinstance(x, bool), x an int or a text -/
theorem call_isNoB : CallR X (.builtin "isinstance") (fun xs H Q => ∃ v, xs = [v, .ty "bool"] ∧ ((∃ i, v = .int i) ∨ ∃ z, v = .str z) ∧ Q (.bl false) H) := by
  intro pins s σ H xs us Q I r h
  obtain ⟨v, rfl, hv, q⟩ := h
  obtain ⟨u, w, rfl, r1, r2⟩ := r.two
  rcases hv with ⟨i, rfl⟩ | ⟨z, rfl⟩
  · obtain ⟨t, rfl⟩ := r1; cases r2
    exact PySem.W.kia_one PySem.W.kitx_int I.kIn True.intro (by rfl) (fun z => nomatch z) fun tk => ⟨.bl false, H, I.tok _, rfl, q⟩
  · obtain ⟨t, rfl⟩ := r1; cases r2
    exact PySem.W.kia_one PySem.W.kitx_str I.kIn True.intro (by rfl) (fun z => nomatch z) fun tk => ⟨.bl false, H, I.tok _, rfl, q⟩
end
end L2
namespace L2
open PySem PySem.Spec PyProof.Rows
theorem mul_one {c : Nat} {k : Int} (h0 : 1 ≤ k) (h1 : k ≤ 5) : Txt.mul ⟨#[c]⟩ k = ⟨(List.replicate k.toNat c).toArray⟩ := by
  have : k = 1 ∨ k = 2 ∨ k = 3 ∨ k = 4 ∨ k = 5 := by omega
  rcases this with rfl | rfl | rfl | rfl | rfl <;> rfl
theorem op_mulS1 {X : Cx} : OpR X (binaryOp .Mult) (fun x y H Q => ∃ c k, x = T [c] ∧ y = .int k ∧ 1 ≤ k ∧ k ≤ 5 ∧ Q (T (List.replicate k.toNat c)) H) := by
  intro pins s σ H x y v u Q I rx ry h
  obtain ⟨c, k, rfl, rfl, h0, h1, q⟩ := h
  obtain ⟨t, rfl⟩ := rx
  obtain ⟨t', rfl⟩ := ry
  refine SB.mul ⟨?_, fun _ _ => ?_, fun _ _ => ?_⟩ fun t2 k2 => ?_
  · rw [decide_eq_false (by omega), decide_eq_false (by omega)]; rfl
  · have : k = 1 ∨ k = 2 ∨ k = 3 ∨ k = 4 ∨ k = 5 := by omega
    rcases this with rfl | rfl | rfl | rfl | rfl <;> (show ¬ ((1 : Int) > _); decide)
  · have e : ({ cps := #[c] } : Str).length = 1 := rfl
    rw [show (⟨[c].toArray⟩ : Str).length = 1 from rfl]
    have : k = 1 ∨ k = 2 ∨ k = 3 ∨ k = 4 ∨ k = 5 := by omega
    clear q e
    rcases this with rfl | rfl | rfl | rfl | rfl <;> decide
  · rw [mul_one h0 h1]
    exact ⟨T (List.replicate k.toNat c), H, I.tok _, ⟨t2, rfl⟩, q⟩
theorem call_str_fig {X : Cx} : CallR X (.type "str") (fun xs H Q => ∃ i : Int, xs = [.int i] ∧ 0 ≤ i ∧ i ≤ 9 ∧ Q (T [48 + i.toNat]) H) := by
  intro pins s σ H xs us Q I r h
  obtain ⟨i, rfl, h0, h1, q⟩ := h
  exact call_str_intT pins s σ H _ us Q I r ⟨i.toNat, by rw [Int.toNat_of_nonneg h0], by omega, q⟩
section
variable {α β : Type} {H : Hp}
theorem All2.mapL {P : β → V → Hp → Prop} {f : α → β} : ∀ {as : List α} {ys : List V}, All2 (fun a y H => P (f a) y H) H as ys → All2 P H (as.map f) ys
  | [], [], _ => trivial
  | _ :: _, _ :: _, h => ⟨h.1, All2.mapL h.2⟩
  | [], _ :: _, h => h.elim
  | _ :: _, [], h => h.elim
theorem All2.app {P : α → V → Hp → Prop} : ∀ {as bs : List α} {ys zs : List V}, All2 P H as ys → All2 P H bs zs → All2 P H (as ++ bs) (ys ++ zs)
  | [], _, [], _, _, h => h
  | _ :: _, _, _ :: _, _, h, g => ⟨h.1, All2.app h.2 g⟩
  | [], _, _ :: _, _, h, _ => h.elim
  | _ :: _, _, [], _, h, _ => h.elim
end
end L2

set_option maxHeartbeats 4000000

namespace K33
open PySem L2
def top (i : Nat) : Stmt := PySem.Challenge.pw_rotafair_k33_faults_of_marks.main.body.getD i (.Pass ⟨0, 0, 0, 0⟩)
abbrev s_Person_init : Stmt := inClass (top 5) 0
abbrev s_House_init : Stmt := inClass (top 6) 0
abbrev s_law_cell_at : Stmt := top 19
abbrev s_law_stream : Stmt := top 20
abbrev s_law_kinds : Stmt := top 21
abbrev s_law_name : Stmt := top 22
abbrev s_law_rota : Stmt := top 30
abbrev s_law_some : Stmt := top 24
abbrev s_law_needs : Stmt := top 23
abbrev s_law_need_by : Stmt := top 31
abbrev s_duties_in : Stmt := top 7
abbrev s_House_need : Stmt := inClass (top 6) 1
abbrev s_House_rules_for : Stmt := inClass (top 6) 4
abbrev s_on_duty : Stmt := top 10
abbrev s_skill_faults : Stmt := top 11
abbrev s_leave_faults : Stmt := top 12
abbrev s_need_faults : Stmt := top 13
abbrev s_most_faults : Stmt := top 14
abbrev s_rule_faults : Stmt := top 15
abbrev s_pair_faults : Stmt := top 16
abbrev s_faults : Stmt := top 9
abbrev s_law_plain_rule : Stmt := top 25
abbrev s_law_rule : Stmt := top 26
abbrev s_law_wish : Stmt := top 28
abbrev s_law_person : Stmt := top 27
abbrev s_law_parts : Stmt := top 29
abbrev s_law_person_faults : Stmt := top 32
abbrev s_law_plain_faults : Stmt := top 33
abbrev s_law_same : Stmt := top 34
abbrev s_law : Stmt := top 35
theorem sc_Person_init : FnScope ["self", "name", "skills", "most", "carried", "past"] ["self", "name", "skills", "most", "carried", "past"] (defScope s_Person_init) := ⟨rfl, rfl, rfl, by decide +kernel, rfl, by decide +kernel, by decide +kernel⟩
theorem sc_House_init : FnScope ["self", "days", "kinds", "needs", "persons", "leave", "wishes", "rules", "pairs"] ["self", "days", "kinds", "needs", "persons", "leave", "wishes", "rules", "pairs"] (defScope s_House_init) := ⟨rfl, rfl, rfl, by decide +kernel, rfl, by decide +kernel, by decide +kernel⟩
theorem sc_law_cell_at : FnScope ["_law_script", "_law_k"] ["_law_script", "_law_k"] (defScope s_law_cell_at) := ⟨rfl, rfl, rfl, by decide +kernel, rfl, by decide +kernel, by decide +kernel⟩
theorem sc_law_stream : FnScope ["_law_cell", "_law_many", "_law_found", "_law_number", "_law_k"] ["_law_cell", "_law_many"] (defScope s_law_stream) := ⟨rfl, rfl, rfl, by decide +kernel, rfl, by decide +kernel, by decide +kernel⟩
theorem sc_law_kinds : FnScope ["_law_cell", "_law_some_here", "_law_many"] ["_law_cell"] (defScope s_law_kinds) := ⟨rfl, rfl, rfl, by decide +kernel, rfl, by decide +kernel, by decide +kernel⟩
theorem sc_law_name : FnScope ["_law_cell", "_law_p", "_law_some_here", "_law_body", "_law_at", "_law_name_here"] ["_law_cell", "_law_p"] (defScope s_law_name) := ⟨rfl, rfl, rfl, by decide +kernel, rfl, by decide +kernel, by decide +kernel⟩
theorem sc_law_rota : FnScope ["_law_cell", "_law_many", "_law_days", "_law_marks", "_law_numbers", "_law_rota_here", "_law_p", "_law_row"] ["_law_cell", "_law_many", "_law_days", "_law_marks"] (defScope s_law_rota) := ⟨rfl, rfl, rfl, by decide +kernel, rfl, by decide +kernel, by decide +kernel⟩
theorem sc_law_some : FnScope ["_law_signs", "_law_number", "_law_found"] ["_law_signs", "_law_number"] (defScope s_law_some) := ⟨rfl, rfl, rfl, by decide +kernel, rfl, by decide +kernel, by decide +kernel⟩
theorem sc_law_needs : FnScope ["_law_cell", "_law_days", "_law_kinds_here", "_law_found", "_law_numbers", "_law_day", "_law_k", "_law_number", "_law_most"] ["_law_cell", "_law_days", "_law_kinds_here"] (defScope s_law_needs) := ⟨rfl, rfl, rfl, by decide +kernel, rfl, by decide +kernel, by decide +kernel⟩
theorem sc_law_need_by : FnScope ["_law_needs_here", "_law_day", "_law_kind", "_law_at", "_law_sort", "_law_least", "_law_most"] ["_law_needs_here", "_law_day", "_law_kind"] (defScope s_law_need_by) := ⟨rfl, rfl, rfl, by decide +kernel, rfl, by decide +kernel, by decide +kernel⟩
theorem sc_duties_in : FnScope ["marks"] ["marks"] (defScope s_duties_in) := ⟨rfl, rfl, rfl, by decide +kernel, rfl, by decide +kernel, by decide +kernel⟩
theorem sc_House_need : FnScope ["self", "day", "kind", "need_day", "need_kind", "least", "most"] ["self", "day", "kind"] (defScope s_House_need) := ⟨rfl, rfl, rfl, by decide +kernel, rfl, by decide +kernel, by decide +kernel⟩
theorem sc_House_rules_for : FnScope ["self", "p", "names"] ["self", "p"] (defScope s_House_rules_for) := ⟨rfl, rfl, rfl, by decide +kernel, rfl, by decide +kernel, by decide +kernel⟩
theorem sc_on_duty : FnScope ["house", "rota", "day"] ["house", "rota", "day"] (defScope s_on_duty) := ⟨rfl, rfl, rfl, by decide +kernel, rfl, by decide +kernel, by decide +kernel⟩
theorem sc_skill_faults : FnScope ["house", "rota", "day", "having"] ["house", "rota", "day"] (defScope s_skill_faults) := ⟨rfl, rfl, rfl, by decide +kernel, rfl, by decide +kernel, by decide +kernel⟩
theorem sc_leave_faults : FnScope ["house", "rota", "day", "having"] ["house", "rota", "day"] (defScope s_leave_faults) := ⟨rfl, rfl, rfl, by decide +kernel, rfl, by decide +kernel, by decide +kernel⟩
theorem sc_need_faults : FnScope ["house", "rota", "day", "found", "kind", "need", "many"] ["house", "rota", "day"] (defScope s_need_faults) := ⟨rfl, rfl, rfl, by decide +kernel, rfl, by decide +kernel, by decide +kernel⟩
theorem sc_most_faults : FnScope ["house", "rota", "day", "found", "person", "row", "many"] ["house", "rota", "day"] (defScope s_most_faults) := ⟨rfl, rfl, rfl, by decide +kernel, rfl, by decide +kernel, by decide +kernel⟩
theorem sc_rule_faults : FnScope ["house", "rota", "day", "found", "p", "person", "marks", "bound"] ["house", "rota", "day"] (defScope s_rule_faults) := ⟨rfl, rfl, rfl, by decide +kernel, rfl, by decide +kernel, by decide +kernel⟩
theorem sc_pair_faults : FnScope ["house", "rota", "day", "found", "number", "pair", "mark", "other"] ["house", "rota", "day"] (defScope s_pair_faults) := ⟨rfl, rfl, rfl, by decide +kernel, rfl, by decide +kernel, by decide +kernel⟩
theorem sc_faults : FnScope ["house", "rota", "found", "day"] ["house", "rota"] (defScope s_faults) := ⟨rfl, rfl, rfl, by decide +kernel, rfl, by decide +kernel, by decide +kernel⟩
theorem sc_law_plain_rule : FnScope ["_law_number", "_law_signs", "_law_one", "_law_two", "_law_marks", "_law_words"] ["_law_number"] (defScope s_law_plain_rule) := ⟨rfl, rfl, rfl, by decide +kernel, rfl, by decide +kernel, by decide +kernel⟩
theorem sc_law_rule : FnScope ["_law_cell", "_law_one", "_law_two", "_law_both"] ["_law_cell"] (defScope s_law_rule) := ⟨rfl, rfl, rfl, by decide +kernel, rfl, by decide +kernel, by decide +kernel⟩
theorem sc_law_wish : FnScope ["_law_name_here", "_law_cell", "_law_days", "_law_kinds_here", "_law_marks"] ["_law_name_here", "_law_cell", "_law_days", "_law_kinds_here"] (defScope s_law_wish) := ⟨rfl, rfl, rfl, by decide +kernel, rfl, by decide +kernel, by decide +kernel⟩
theorem sc_law_person : FnScope ["_law_script", "_law_p", "_law_kinds_here", "_law_cell", "_law_numbers", "_law_marks", "_law_past", "_law_carried", "_law_skills"] ["_law_script", "_law_p", "_law_kinds_here"] (defScope s_law_person) := ⟨rfl, rfl, rfl, by decide +kernel, rfl, by decide +kernel, by decide +kernel⟩
theorem sc_law_parts : FnScope ["_law_script", "_law_days", "_law_kinds_here", "_law_needs_here", "_law_many", "_law_persons", "_law_leave", "_law_wishes", "_law_rules", "_law_pairs", "_law_cell", "_law_name_here", "_law_other"] ["_law_script"] (defScope s_law_parts) := ⟨rfl, rfl, rfl, by decide +kernel, rfl, by decide +kernel, by decide +kernel⟩
theorem sc_law_person_faults : FnScope ["_law_day", "_law_row", "_law_person_here", "_law_leave", "_law_name_here", "_law_skills", "_law_most", "_law_carried", "_law_past", "_law_skill", "_law_away", "_law_beyond", "_law_many"] ["_law_day", "_law_row", "_law_person_here", "_law_leave"] (defScope s_law_person_faults) := ⟨rfl, rfl, rfl, by decide +kernel, rfl, by decide +kernel, by decide +kernel⟩
theorem sc_law_plain_faults : FnScope ["_law_day", "_law_parts_here", "_law_rota_here", "_law_days", "_law_kinds_here", "_law_needs_here", "_law_persons", "_law_leave", "_law_wishes", "_law_rules", "_law_pairs", "_law_skill", "_law_away", "_law_beyond", "_law_person_here", "_law_row", "_law_one", "_law_two", "_law_three", "_law_short", "_law_kind", "_law_many", "_law_least", "_law_most"] ["_law_day", "_law_parts_here", "_law_rota_here"] (defScope s_law_plain_faults) := ⟨rfl, rfl, rfl, by decide +kernel, rfl, by decide +kernel, by decide +kernel⟩
theorem sc_law_same : FnScope ["_law_found", "_law_due", "_law_one", "_law_other"] ["_law_found", "_law_due"] (defScope s_law_same) := ⟨rfl, rfl, rfl, by decide +kernel, rfl, by decide +kernel, by decide +kernel⟩
theorem sc_law : FnScope ["_law_script", "_law_parts_here", "_law_days", "_law_kinds_here", "_law_needs_here", "_law_persons", "_law_leave", "_law_wishes", "_law_rules", "_law_pairs", "_law_cell", "_law_marks", "_law_rota_here", "_law_some_here", "_law_house", "_law_due", "_law_day", "_law_found"] ["_law_script"] (defScope s_law) := ⟨rfl, rfl, rfl, by decide +kernel, rfl, by decide +kernel, by decide +kernel⟩
structure Tx (K : PySem.W.Frag) (mg : Str → Option Value) (C_Person C_House : Addr) : Prop where
  m_Person_init : MF K C_Person "__init__" "Person.__init__" s_Person_init
  m_House_init : MF K C_House "__init__" "House.__init__" s_House_init
  f_law_cell_at : GF K mg "_law_cell_at" s_law_cell_at
  f_law_stream : GF K mg "_law_stream" s_law_stream
  f_law_kinds : GF K mg "_law_kinds" s_law_kinds
  f_law_name : GF K mg "_law_name" s_law_name
  f_law_rota : GF K mg "_law_rota" s_law_rota
  f_law_some : GF K mg "_law_some" s_law_some
  f_law_needs : GF K mg "_law_needs" s_law_needs
  f_law_need_by : GF K mg "_law_need_by" s_law_need_by
  f_duties_in : GF K mg "duties_in" s_duties_in
  m_House_need : MF K C_House "need" "House.need" s_House_need
  m_House_rules_for : MF K C_House "rules_for" "House.rules_for" s_House_rules_for
  f_on_duty : GF K mg "on_duty" s_on_duty
  f_skill_faults : GF K mg "skill_faults" s_skill_faults
  f_leave_faults : GF K mg "leave_faults" s_leave_faults
  f_need_faults : GF K mg "need_faults" s_need_faults
  f_most_faults : GF K mg "most_faults" s_most_faults
  f_rule_faults : GF K mg "rule_faults" s_rule_faults
  f_pair_faults : GF K mg "pair_faults" s_pair_faults
  f_faults : GF K mg "faults" s_faults
  f_law_plain_rule : GF K mg "_law_plain_rule" s_law_plain_rule
  f_law_rule : GF K mg "_law_rule" s_law_rule
  f_law_wish : GF K mg "_law_wish" s_law_wish
  f_law_person : GF K mg "_law_person" s_law_person
  f_law_parts : GF K mg "_law_parts" s_law_parts
  f_law_person_faults : GF K mg "_law_person_faults" s_law_person_faults
  f_law_plain_faults : GF K mg "_law_plain_faults" s_law_plain_faults
  f_law_same : GF K mg "_law_same" s_law_same
  f_law : GF K mg "law" s_law
  c_Person : CF K mg "Person" C_Person
  c_House : CF K mg "House" C_House
  n_Person_name : NoAttr K C_Person "name"
  n_Person_skills : NoAttr K C_Person "skills"
  n_Person_most : NoAttr K C_Person "most"
  n_Person_carried : NoAttr K C_Person "carried"
  n_Person_past : NoAttr K C_Person "past"
  n_House_days : NoAttr K C_House "days"
  n_House_kinds : NoAttr K C_House "kinds"
  n_House_needs : NoAttr K C_House "needs"
  n_House_persons : NoAttr K C_House "persons"
  n_House_leave : NoAttr K C_House "leave"
  n_House_wishes : NoAttr K C_House "wishes"
  n_House_rules : NoAttr K C_House "rules"
  n_House_pairs : NoAttr K C_House "pairs"
  z_any : mg "any" = none
  z_bool : mg "bool" = none
  z_enumerate : mg "enumerate" = none
  z_isinstance : mg "isinstance" = none
  z_len : mg "len" = none
  z_list : mg "list" = none
  z_range : mg "range" = none
  z_str : mg "str" = none
  z_tuple : mg "tuple" = none
  z_zip : mg "zip" = none
theorem small6 {n : Nat} (h : n ≤ 1000) : n ≤ sizeLine := Nat.le_trans h (by decide)
theorem cut_from {α : Type} (l : List α) (k : Int) (h0 : 0 ≤ k) : cutN l (some k) none = l.drop k.toNat := by
  unfold cutN
  have e : HT.sIx l.length 0 (some k) = min k.toNat l.length := by
    show (if k < 0 then _ else min k.toNat l.length) = _
    rw [if_neg (by omega)]
  rw [e, HT.sIx_none]
  by_cases h : k.toNat ≤ l.length
  · rw [Nat.min_eq_left h]
    exact List.take_of_length_le (by rw [List.length_drop]; omega)
  · rw [Nat.min_eq_right (by omega), List.drop_eq_nil_of_le (Nat.le_refl _), List.drop_eq_nil_of_le (by omega), List.take_nil]
theorem cut_to {α : Type} (l : List α) (k : Int) (h0 : 0 ≤ k) : cutN l none (some k) = l.take k.toNat := by
  unfold cutN
  have e : HT.sIx l.length l.length (some k) = min k.toNat l.length := by
    show (if k < 0 then _ else min k.toNat l.length) = _
    rw [if_neg (by omega)]
  rw [e, HT.sIx_none, List.drop_zero, Nat.sub_zero]
  by_cases h : k.toNat ≤ l.length
  · rw [Nat.min_eq_left h]
  · rw [Nat.min_eq_right (by omega), List.take_of_length_le (Nat.le_refl _), List.take_of_length_le (by omega)]
theorem cut_len {α : Type} (l : List α) (lo hi : Option Int) : (cutN l lo hi).length ≤ l.length := by
  unfold cutN
  rw [List.length_take, List.length_drop]
  omega
theorem at_some {α : Type} (l : List α) (i : Int) (h0 : 0 ≤ i) (h : i < l.length) : ∃ c, atI l i = some c ∧ l[i.toNat]? = some c := by
  have hi : i.toNat < l.length := by omega
  have e : i = ((i.toNat : Nat) : Int) := by omega
  have q : atI l ((i.toNat : Nat) : Int) = some l[i.toNat] := atI_nat (by simp [hi])
  rw [← e] at q
  exact ⟨l[i.toNat], q, List.getElem?_eq_getElem hi⟩
theorem at_int (ns : List Int) (i : Int) (h0 : 0 ≤ i) (h : i < ns.length) : ∃ z, atI (ns.map V.int) i = some (.int z) ∧ ns[i.toNat]? = some z := by
  obtain ⟨c, h1, h2⟩ := at_some (ns.map V.int) i h0 (by rw [List.length_map]; exact h)
  rw [List.getElem?_map] at h2
  cases hz : ns[i.toNat]? with
  | none => rw [hz] at h2; cases h2
  | some z =>
    rw [hz] at h2
    have e : c = .int z := (Option.some.inj h2).symm
    subst e
    exact ⟨z, h1, rfl⟩
theorem ones_txt {ys : List V} (h : ∀ y ∈ ys, ∃ c, y = T [c]) : ∃ cs : List Nat, ys = (cs.map fun c => [c]).map T ∧ cs.length = ys.length := by
  induction ys with
  | nil => exact ⟨[], rfl, rfl⟩
  | cons y r ih =>
    obtain ⟨c, rfl⟩ := h y List.mem_cons_self
    obtain ⟨cs, e, hl⟩ := ih fun z hz => h z (List.mem_cons_of_mem _ hz)
    exact ⟨c :: cs, by rw [e]; rfl, by simp [hl]⟩
theorem bl_eq (a b : Bool) : decide (V.bl a = V.bl b) = decide (a = b) := by
  by_cases h : a = b
  · subst h; simp
  · rw [decide_eq_false h, decide_eq_false fun z => h (V.bl.inj z)]
def fitsV (x y : V) : Bool := if decide (x = T [63]) = true then true else if decide (x = T [35]) = true then !decide (y = T [45]) else decide (x = y)
def sp_fits : Sp := fun vs H Q _ => ∃ a b, vs = [T a, T b] ∧ Q (.bl (fitsV (T a) (T b))) H
def sp_last : Sp := fun vs H Q _ => ∃ l n, vs = [T l, .int n] ∧ l.length ≤ 1000 ∧ 0 ≤ n ∧ Q (T (l.drop (l.length - n.toNat))) H
def sp_cell (K : PySem.W.Frag) : Sp := fun vs H Q _ => ∃ (a : Addr) (ns : List Int) (k : Int), vs = [.ref a, .int k] ∧ SqL K H a (ns.map V.int) ∧ 0 ≤ k ∧ ∀ v, Q (.int v) H
def sp_stream : Sp := fun vs H Q _ => ∃ c m, vs = [.int c, .int m] ∧ 0 ≤ m ∧ m ≤ 100 ∧ ∀ (a : Addr) (H' : Hp) (xs : List Int), Same H H' → H' a = some (.lst (xs.map V.int)) → (xs.length : Int) = m → Q (.ref a) H'
def sp_int1 : Sp := fun vs H Q _ => ∃ n, vs = [.int n] ∧ ∀ c, Q (T [c]) H
def sp_truth : Sp := fun vs H Q _ => ∃ a b, vs = [.bl a, .bl b] ∧ Q (.bl (decide (a = b))) H
def sp_law (K : PySem.W.Frag) : Sp := fun vs H Q _ => ∃ (a : Addr) (ns : List Int), vs = [.ref a] ∧ SqL K H a (ns.map V.int) ∧ ns.length ≤ 63 ∧ ∀ H', Q (.bl true) H'

theorem noloop {p : (Nat → Nat → St → Hp → Prop) → Prop} (h : ∃ W, p W) : ∃ W, p W := h
theorem nowhile {p : (Nat → St → Hp → Prop) → Prop} (h : ∃ W, p W) : ∃ W, p W := h
theorem iteNT {A B : Prop} (h : B) : if (!true) = true then A else B := h
theorem iteNF {A B : Prop} (h : A) : if (!false) = true then A else B := h
theorem iteY {c A B : Prop} [Decidable c] (hc : c) (h : A) : if decide c = true then A else B := by rw [if_pos (decide_eq_true hc)]; exact h
theorem iteN {c A B : Prop} [Decidable c] (hc : ¬ c) (h : B) : if decide c = true then A else B := by rw [if_neg (by rw [decide_eq_false hc]; exact Bool.false_ne_true)]; exact h
theorem small7 {n : Nat} (h : n ≤ 1000) : n < sizeLine := Nat.lt_of_le_of_lt h (by decide)
theorem cdiv_of {i j : Int} (h1 : 0 < j) (h2 : j < 1073741824) : CDiv i j := ⟨h1, h2⟩
theorem cmulL {i j : Int} (h1 : -(2 ^ 64) < i) (h2 : i < 2 ^ 64) : CMul i j := .inl ⟨h1, h2⟩
theorem cmulR {i j : Int} (h1 : -(2 ^ 64) < j) (h2 : j < 2 ^ 64) : CMul i j := .inr ⟨h1, h2⟩
theorem pos_of {n : Int} (h : 0 < n) : 0 < n := h
@[irreducible] def Here (p : Prop) : Prop := p
theorem Here.mk {p : Prop} (h : p) : Here p := by unfold Here; exact h
theorem Here.out {p : Prop} (h : Here p) : p := by unfold Here at h; exact h
theorem gName_nf {i : Nat} {v : V} {σ σ' : St} {H : Hp} {Q : St → Hp → Prop} (e : σ.set i (some v) = σ') (h : Q σ' H) : gName i v σ H Q := by subst e; exact h

local macro_rules | `(tactic| walk_at "len") => `(tactic| (simp only [List.length_append, List.length_cons, List.length_nil, List.length_singleton, List.length_take, List.length_drop, List.length_map, List.length_reverse, List.length_range] <;> omega))
local macro_rules | `(tactic| walk_at "st") => `(tactic| (try simp only [L2.start, List.map_cons, List.map_nil, List.length_cons, List.length_nil, Nat.reduceAdd, Nat.reduceSub, List.replicate_succ, List.replicate_zero, List.cons_append, List.nil_append]))
local macro_rules | `(tactic| walk_at "lk") => `(tactic| fail)
local macro_rules | `(tactic| walk_at "cl") => `(tactic| first
  | (with_reducible assumption) | rfl
  | (with_reducible show @LE.le Nat _ _ _; first | omega | (walk_at "len") | exact small6 (by omega) | exact small6 (by walk_at "len"))
  | (with_reducible show @LT.lt Nat _ _ _; first | omega | (walk_at "len") | exact small7 (by omega) | exact small7 (by walk_at "len"))
  | (with_reducible show @LE.le Int _ _ _; omega) | (with_reducible show @LT.lt Int _ _ _; omega)
  | ((with_reducible refine cdiv_of ?_ ?_) <;> omega) | ((with_reducible refine cmulL ?_ ?_) <;> omega) | ((with_reducible refine cmulR ?_ ?_) <;> omega) | ((with_reducible refine pos_of ?_) <;> omega)
  | exact upd_same | exact same_new (by with_reducible assumption) _ _ _ upd_same | exact SqL.of (by with_reducible assumption) | exact SqL.of upd_same | exact SqT.of upd_same | exact SqT.of (by with_reducible assumption) | exact Or.inl (by with_reducible assumption) | exact Or.inl (SqL.of (by with_reducible assumption)) | exact Or.inl (SqL.of upd_same)
  | exact Or.inl ⟨rfl, _, SqL.of (by with_reducible assumption)⟩ | exact Or.inl ⟨rfl, _, SqL.of upd_same⟩ | exact Or.inl ⟨rfl, _, by with_reducible assumption⟩ | exact ⟨_, by with_reducible assumption⟩ | exact ⟨_, SqL.of (by with_reducible assumption)⟩ | exact ⟨_, SqL.of upd_same⟩
  | exact ⟨by omega, by omega⟩ | assumption | walk_at "lk")
local macro_rules | `(tactic| walk_at "rd1") => `(tactic| first
  | (with_reducible refine gName_nf (by first | (simp only [List.set_cons_zero, List.set_cons_succ]; done) | (simp only [List.set_cons_zero, List.set_cons_succ]; rfl)) ?_)
  | (with_reducible refine iteT ?_) | (with_reducible refine iteF ?_) | (with_reducible refine iteNT ?_) | (with_reducible refine iteNF ?_)
  | ((fail_if_success apply noloop); (fail_if_success apply nowhile); apply Exists.intro)
  | (apply And.intro; (· walk_at "cl"))
  | (refine Or.inl ⟨_, rfl, ?_⟩) | (refine Or.inr (Or.inl ⟨_, rfl, ?_⟩)) | (refine Or.inr (Or.inr (Or.inl ⟨_, rfl, ?_⟩))) | (refine Or.inr (Or.inr (Or.inr (Or.inl ⟨_, rfl, ?_⟩)))) | (refine Or.inr (Or.inr (Or.inr (Or.inr ⟨_, _, rfl, by with_reducible assumption, ?_⟩)))))
local macro_rules | `(tactic| walk_at "rd") => `(tactic| repeat (walk_at "rd1"))

/-! ### persons and houses -/
theorem lk_eq {f : Str} {v : V} {r : List (Str × V)} : List.lookup f ((f, v) :: r) = some v := by rw [List.lookup_cons, beq_self_eq_true]
theorem lk_ne {f g : Str} {v : V} {r : List (Str × V)} (h : f ≠ g) : List.lookup f ((g, v) :: r) = List.lookup f r := by rw [List.lookup_cons, beq_eq_false_iff_ne.mpr h]
theorem putN {f : Str} {v : V} : ∀ {fs : List (Str × V)}, (∀ g ∈ fs.map (·.1), g ≠ f) → putF f v fs = fs ++ [(f, v)]
  | [], _ => rfl
  | (g, x) :: r, h => by
    have h1 : ¬ g = f := h g (by simp)
    have ih := putN (f := f) (v := v) (fs := r) fun g hg => h g (by rw [List.map_cons]; exact List.mem_cons_of_mem _ hg)
    show (if g = f then (g, v) :: r else (g, x) :: putF f v r) = _
    rw [if_neg h1, ih]
    rfl
abbrev fP (a b c d e : V) : List (Str × V) := [("name", a), ("skills", b), ("most", c), ("carried", d), ("past", e)]
abbrev fH (a b c d e f g h : V) : List (Str × V) := [("days", a), ("kinds", b), ("needs", c), ("persons", d), ("leave", e), ("wishes", f), ("rules", g), ("pairs", h)]
theorem lP_name (a b c d e : V) : List.lookup ("name" : Str) (fP a b c d e) = some a := lk_eq
theorem lP_skills (a b c d e : V) : List.lookup ("skills" : Str) (fP a b c d e) = some b := by rw [lk_ne (by decide +kernel), lk_eq]
theorem lP_most (a b c d e : V) : List.lookup ("most" : Str) (fP a b c d e) = some c := by rw [lk_ne (by decide +kernel), lk_ne (by decide +kernel), lk_eq]
theorem lP_carried (a b c d e : V) : List.lookup ("carried" : Str) (fP a b c d e) = some d := by rw [lk_ne (by decide +kernel), lk_ne (by decide +kernel), lk_ne (by decide +kernel), lk_eq]
theorem lP_past (a b c d e : V) : List.lookup ("past" : Str) (fP a b c d e) = some e := by rw [lk_ne (by decide +kernel), lk_ne (by decide +kernel), lk_ne (by decide +kernel), lk_ne (by decide +kernel), lk_eq]
theorem lH_days (a b c d e f g h : V) : List.lookup ("days" : Str) (fH a b c d e f g h) = some a := lk_eq
theorem lH_kinds (a b c d e f g h : V) : List.lookup ("kinds" : Str) (fH a b c d e f g h) = some b := by rw [lk_ne (by decide +kernel), lk_eq]
theorem lH_needs (a b c d e f g h : V) : List.lookup ("needs" : Str) (fH a b c d e f g h) = some c := by rw [lk_ne (by decide +kernel), lk_ne (by decide +kernel), lk_eq]
theorem lH_persons (a b c d e f g h : V) : List.lookup ("persons" : Str) (fH a b c d e f g h) = some d := by rw [lk_ne (by decide +kernel), lk_ne (by decide +kernel), lk_ne (by decide +kernel), lk_eq]
theorem lH_leave (a b c d e f g h : V) : List.lookup ("leave" : Str) (fH a b c d e f g h) = some e := by rw [lk_ne (by decide +kernel), lk_ne (by decide +kernel), lk_ne (by decide +kernel), lk_ne (by decide +kernel), lk_eq]
theorem lH_wishes (a b c d e f g h : V) : List.lookup ("wishes" : Str) (fH a b c d e f g h) = some f := by rw [lk_ne (by decide +kernel), lk_ne (by decide +kernel), lk_ne (by decide +kernel), lk_ne (by decide +kernel), lk_ne (by decide +kernel), lk_eq]
theorem lH_rules (a b c d e f g h : V) : List.lookup ("rules" : Str) (fH a b c d e f g h) = some g := by rw [lk_ne (by decide +kernel), lk_ne (by decide +kernel), lk_ne (by decide +kernel), lk_ne (by decide +kernel), lk_ne (by decide +kernel), lk_ne (by decide +kernel), lk_eq]
theorem lH_pairs (a b c d e f g h : V) : List.lookup ("pairs" : Str) (fH a b c d e f g h) = some h := by rw [lk_ne (by decide +kernel), lk_ne (by decide +kernel), lk_ne (by decide +kernel), lk_ne (by decide +kernel), lk_ne (by decide +kernel), lk_ne (by decide +kernel), lk_ne (by decide +kernel), lk_eq]
/-- the person at p -/
def PerAt (C : Addr) (H : Hp) (p : Addr) (nm sk : List Nat) (m c : Int) (pa : List Nat) : Prop := ∃ dx, H p = some (.ins C dx (fP (T nm) (T sk) (.int m) (.int c) (T pa)))
theorem PerAt.keeps {C : Addr} {H H' : Hp} {p : Addr} {nm sk pa : List Nat} {m c : Int} (h : PerAt C H p nm sk m c pa) (k : Keeps H H') : PerAt C H' p nm sk m c pa := let ⟨dx, e⟩ := h; ⟨dx, k _ _ e fun zs z => by cases z⟩
/-- the house at p: its lists' places, and what they hold -/
def HouAt (C : Addr) (H : Hp) (p : Addr) (d : Int) (k : List Nat) (a1 a2 a3 a4 a5 a6 : Addr) : Prop := ∃ dx, H p = some (.ins C dx (fH (.int d) (T k) (.ref a1) (.ref a2) (.ref a3) (.ref a4) (.ref a5) (.ref a6)))
theorem HouAt.keeps {C : Addr} {H H' : Hp} {p : Addr} {d : Int} {k : List Nat} {a1 a2 a3 a4 a5 a6 : Addr} (h : HouAt C H p d k a1 a2 a3 a4 a5 a6) (kk : Keeps H H') : HouAt C H' p d k a1 a2 a3 a4 a5 a6 := let ⟨dx, e⟩ := h; ⟨dx, kk _ _ e fun zs z => by cases z⟩
def But (p : Addr) (H H' : Hp) : Prop := ∀ a o, a ≠ p → H a = some o → H' a = some o
theorem But.refl (p : Addr) (H : Hp) : But p H H := fun _ _ _ h => h
theorem But.at {p : Addr} {H H' : Hp} {o : HO} (b : But p H H') : But p H (upd H' p o) := fun a u n e => by rw [upd_ne n]; exact b a u n e
theorem But.new {p l : Addr} {H H' : Hp} {o : HO} (b : But p H H') (hl : H' l = none) : But p H (upd H' l o) := fun a u n e => by
  have := b a u n e
  rw [upd_ne (ne_of_none this hl)]; exact this
def sp_pinit (C : Addr) : Sp := fun vs H Q _ => ∃ p dx a b c d e, vs = [.ref p, a, b, c, d, e] ∧ H p = some (.ins C dx []) ∧ ∀ H', But p H H' → H' p = some (.ins C dx (fP a b c d e)) → Q .non H'
def sp_hinit (C : Addr) : Sp := fun vs H Q _ => ∃ p dx d k b1 b2 b3 b4 b5 b6 x1 x2 x3 x4 x5 x6, vs = [.ref p, d, k, .ref b1, .ref b2, .ref b3, .ref b4, .ref b5, .ref b6] ∧ H p = some (.ins C dx []) ∧
  H b1 = some (.lst x1) ∧ H b2 = some (.lst x2) ∧ H b3 = some (.lst x3) ∧ H b4 = some (.lst x4) ∧ H b5 = some (.lst x5) ∧ H b6 = some (.lst x6) ∧
  ∀ H' a1 a2 a3 a4 a5 a6, But p H H' → H' p = some (.ins C dx (fH d k (.ref a1) (.ref a2) (.ref a3) (.ref a4) (.ref a5) (.ref a6))) → H' a1 = some (.lst x1) → H' a2 = some (.lst x2) → H' a3 = some (.lst x3) → H' a4 = some (.lst x4) → H' a5 = some (.lst x5) → H' a6 = some (.lst x6) →
    H a1 = none → H a2 = none → H a3 = none → H a4 = none → H a5 = none → H a6 = none → Q .non H'
def rPer (C : Addr) : List V → Hp → VK → Prop := fun vs H Q => ∃ nm sk m c pa, vs = [T nm, T sk, .int m, .int c, T pa] ∧ ∀ p H', Same H H' → H p = none → PerAt C H' p nm sk m c pa → Q (.ref p) H'
def rHou (C : Addr) : List V → Hp → VK → Prop := fun vs H Q => ∃ d k b1 b2 b3 b4 b5 b6 x1 x2 x3 x4 x5 x6, vs = [.int d, T k, .ref b1, .ref b2, .ref b3, .ref b4, .ref b5, .ref b6] ∧
  H b1 = some (.lst x1) ∧ H b2 = some (.lst x2) ∧ H b3 = some (.lst x3) ∧ H b4 = some (.lst x4) ∧ H b5 = some (.lst x5) ∧ H b6 = some (.lst x6) ∧
  ∀ p H' a1 a2 a3 a4 a5 a6, Same H H' → HouAt C H' p d k a1 a2 a3 a4 a5 a6 → H' a1 = some (.lst x1) → H' a2 = some (.lst x2) → H' a3 = some (.lst x3) → H' a4 = some (.lst x4) → H' a5 = some (.lst x5) → H' a6 = some (.lst x6) →
    H a1 = none → H a2 = none → H a3 = none → H a4 = none → H a5 = none → H a6 = none → Q (.ref p) H'
theorem made_same {H H' : Hp} {x dx : Addr} {u o : HO} (nx : H x = none) (nd : H dx = none) (b : But x (upd (upd H dx u) x o) H') : Same H H' := fun a v e => by
  have h1 : a ≠ x := ne_of_none e nx
  refine b a v h1 ?_
  rw [upd_ne h1, upd_ne (ne_of_none e nd)]
  exact e
theorem made_free {H : Hp} {x dx a : Addr} {u o : HO} (h : upd (upd H dx u) x o a = none) : H a = none := by
  have h1 : a ≠ x := fun z => by subst z; rw [upd_same] at h; cases h
  rw [upd_ne h1] at h
  have h2 : a ≠ dx := fun z => by subst z; rw [upd_same] at h; cases h
  rw [upd_ne h2] at h
  exact h
theorem made_at {H : Hp} {x dx a : Addr} {u o v : HO} (nx : H x = none) (nd : H dx = none) (e : H a = some v) : upd (upd H dx u) x o a = some v := by
  rw [upd_ne (ne_of_none e nx), upd_ne (ne_of_none e nd)]; exact e
theorem mk_per {C : Addr} : ∀ vs H Q, rPer C vs H Q → ∀ x dx, H x = none → H dx = none → dx ≠ x → sp_pinit C (.ref x :: (vs ++ [])) (upd (upd H dx (.own x)) x (.ins C dx [])) (fun v H2 => v = .non ∧ Q (.ref x) H2) E0 := by
  rintro _ H Q ⟨nm, sk, m, c, pa, rfl, q⟩ x dx nx nd _
  exact ⟨x, dx, _, _, _, _, _, rfl, upd_same, fun H' b e => ⟨rfl, q x H' (made_same nx nd b) nx ⟨dx, e⟩⟩⟩
theorem mk_hou {C : Addr} : ∀ vs H Q, rHou C vs H Q → ∀ x dx, H x = none → H dx = none → dx ≠ x → sp_hinit C (.ref x :: (vs ++ [])) (upd (upd H dx (.own x)) x (.ins C dx [])) (fun v H2 => v = .non ∧ Q (.ref x) H2) E0 := by
  rintro _ H Q ⟨d, k, b1, b2, b3, b4, b5, b6, x1, x2, x3, x4, x5, x6, rfl, h1, h2, h3, h4, h5, h6, q⟩ x dx nx nd _
  exact ⟨x, dx, _, _, b1, b2, b3, b4, b5, b6, x1, x2, x3, x4, x5, x6, rfl, upd_same, made_at nx nd h1, made_at nx nd h2, made_at nx nd h3, made_at nx nd h4, made_at nx nd h5, made_at nx nd h6,
    fun H' a1 a2 a3 a4 a5 a6 b e e1 e2 e3 e4 e5 e6 n1 n2 n3 n4 n5 n6 => ⟨rfl, q x H' a1 a2 a3 a4 a5 a6 (made_same nx nd b) ⟨dx, e⟩ e1 e2 e3 e4 e5 e6 (made_free n1) (made_free n2) (made_free n3) (made_free n4) (made_free n5) (made_free n6)⟩⟩

/-! ### what the laws draw -/
def cellF (ns : List Int) (k : Int) : Int := ns.getD k.toNat 0
def sp_cellx (K : PySem.W.Frag) : Sp := fun vs H Q _ => ∃ (a : Addr) (ns : List Int) (k : Int), vs = [.ref a, .int k] ∧ SqL K H a (ns.map V.int) ∧ 0 ≤ k ∧ Q (.int (cellF ns k)) H
def sp_streamx : Sp := fun vs H Q _ => ∃ (c m : Int), vs = [.int c, .int m] ∧ 0 ≤ m ∧ m ≤ 500 ∧ ∀ (a : Addr) (H' : Hp) (xs : List Int), Same H H' → H a = none → H' a = some (.lst (xs.map V.int)) → (xs.length : Int) = m → Q (.ref a) H'
def sp_whole : Sp := fun vs H Q _ => ∃ (n : Int), vs = [.int n] ∧ Q (.bl true) H
abbrev abc : List Nat := [97, 98, 99, 100, 101, 102, 103, 104, 105, 106, 107, 108, 109, 110, 111, 112, 113, 114, 115, 116, 117, 118, 119, 120, 121, 122]
abbrev ABC : List Nat := [65, 66, 67, 68, 69, 70, 71, 72, 73, 74, 75, 76, 77, 78, 79, 80, 81, 82, 83, 84, 85, 86, 87, 88, 89, 90]
def ltr (i : Int) : Nat := 97 + i.toNat
def cap (i : Int) : Nat := 65 + i.toNat
theorem at_abc (i : Int) (h0 : 0 ≤ i) (h1 : i < 26) : atI abc i = some (ltr i) := by
  obtain ⟨c, h2, h3⟩ := at_some abc i h0 (by show i < 26; exact h1)
  have key : ∀ n : Nat, n < 26 → abc[n]? = some (97 + n) := by decide
  rw [h2]
  rw [key i.toNat (by omega)] at h3
  exact h3.symm
theorem at_ABC (i : Int) (h0 : 0 ≤ i) (h1 : i < 26) : atI ABC i = some (cap i) := by
  obtain ⟨c, h2, h3⟩ := at_some ABC i h0 (by show i < 26; exact h1)
  have key : ∀ n : Nat, n < 26 → ABC[n]? = some (65 + n) := by decide
  rw [h2]
  rw [key i.toNat (by omega)] at h3
  exact h3.symm
def kindsF (c : Int) : List Nat := (List.range (1 + c % 4).toNat).map fun (k : Nat) => cap ((c / 4 + (0 + (k : Int)) * (1 + c / 104 % 6)) % 26)
theorem kindsF_len (c : Int) : 1 ≤ (kindsF c).length ∧ (kindsF c).length ≤ 4 := by
  unfold kindsF
  rw [List.length_map, List.length_range]
  have h0 : 0 ≤ c % 4 := Int.emod_nonneg _ (by decide)
  have h1 : c % 4 < 4 := Int.emod_lt_of_pos _ (by decide)
  omega
theorem kindsF_mark (c : Int) : ∀ k ∈ kindsF c, k ≠ 45 := by
  intro k hk
  obtain ⟨n, _, rfl⟩ := List.mem_map.mp hk
  unfold cap
  omega
def bodyF (c : Int) : List Nat := (List.range (c / 3 % 8).toNat).map fun (k : Nat) => ltr (c / (16 + 5 * (0 + (k : Int))) % 26)
theorem bodyF_len (c : Int) : (bodyF c).length ≤ 7 := by
  unfold bodyF
  rw [List.length_map, List.length_range]
  have h1 : c / 3 % 8 < 8 := Int.emod_lt_of_pos _ (by decide)
  omega
def nameF0 (c p : Int) : List Nat := cutN (bodyF c) none (some (c / 7 % ((bodyF c).length + 1))) ++ [ltr ((c + p) % 26)] ++ cutN (bodyF c) (some (c / 7 % ((bodyF c).length + 1))) none
def nameF (c p : Int) : List Nat := if nameF0 c p = [97, 108, 108] then [97, 108, 108, 101] else nameF0 c p
theorem nameF0_len (c p : Int) : (nameF0 c p).length ≤ 15 := by
  unfold nameF0
  have h := bodyF_len c
  have c1 := cut_len (bodyF c) none (some (c / 7 % ((bodyF c).length + 1)))
  have c2 := cut_len (bodyF c) (some (c / 7 % ((bodyF c).length + 1))) none
  simp only [List.length_append, List.length_cons, List.length_nil]
  omega
theorem nameF_len (c p : Int) : (nameF c p).length ≤ 15 := by
  unfold nameF
  split
  · decide
  · exact nameF0_len c p
theorem nameF0_inj {c p q : Int} (hp : 0 ≤ p ∧ p < 26) (hq : 0 ≤ q ∧ q < 26) (h : nameF0 c p = nameF0 c q) : p = q := by
  unfold nameF0 at h
  have h1 := List.append_cancel_right h
  have h2 := List.append_cancel_left h1
  have h3 : ltr ((c + p) % 26) = ltr ((c + q) % 26) := by simpa using h2
  unfold ltr at h3
  have a0 : 0 ≤ (c + p) % 26 := Int.emod_nonneg _ (by decide)
  have b0 : 0 ≤ (c + q) % 26 := Int.emod_nonneg _ (by decide)
  omega
theorem nameF_inj {c p q : Int} (hp : 0 ≤ p ∧ p < 26) (hq : 0 ≤ q ∧ q < 26) (h : nameF c p = nameF c q) : p = q := by
  have hl : ∀ p q : Int, 0 ≤ p → nameF0 c p = [97, 108, 108] → nameF0 c q = [97, 108, 108, 101] → False := fun p q _ e1 e2 => by
    have l1 := congrArg List.length e1
    have l2 := congrArg List.length e2
    unfold nameF0 at l1 l2
    simp only [List.length_append, List.length_cons, List.length_nil] at l1 l2
    omega
  unfold nameF at h
  by_cases h1 : nameF0 c p = [97, 108, 108] <;> by_cases h2 : nameF0 c q = [97, 108, 108]
  · exact nameF0_inj hp hq (h1.trans h2.symm)
  · rw [if_pos h1, if_neg h2] at h
    exact (hl p q hp.1 h1 h.symm).elim
  · rw [if_neg h1, if_pos h2] at h
    exact (hl q p hq.1 h2 h).elim
  · rw [if_neg h1, if_neg h2] at h
    exact nameF0_inj hp hq h
def sp_kinds : Sp := fun vs H Q _ => ∃ (c : Int), vs = [.int c] ∧ ∀ H', Same H H' → Q (T (kindsF c)) H'
def sp_name : Sp := fun vs H Q _ => ∃ (c p : Int), vs = [.int c, .int p] ∧ ∀ H', Same H H' → Q (T (nameF c p)) H'
def sp_rota : Sp := fun vs H Q _ => ∃ (c m d : Int) (ms : List Nat), vs = [.int c, .int m, .int d, T ms] ∧ 0 ≤ m ∧ m ≤ 8 ∧ 1 ≤ d ∧ d ≤ 14 ∧ 1 ≤ ms.length ∧ ms.length ≤ 100 ∧
  ∀ (a : Addr) (H' : Hp) (rows : List (List Nat)), Same H H' → H a = none → H' a = some (.lst (rows.map T)) → (rows.length : Int) = m → (∀ r ∈ rows, (r.length : Int) = d ∧ ∀ x ∈ r, x ∈ ms) → Q (.ref a) H'
def onI (g : Int → Nat) : V → V
  | .int i => T [g i]
  | v => v
theorem rng_ones (n : Nat) (g : Int → Nat) : (((List.range n).map fun (i : Nat) => V.int (0 + (i : Int))).map (onI g)) = (((List.range n).map fun (i : Nat) => g (0 + (i : Int))).map fun c => [c]).map T := by
  simp only [List.map_map]
  rfl
theorem cell_lit {ns : List Int} {k : Int} (h0 : 0 ≤ k) (h : k < ns.length) : atI (ns.map V.int) k = some (.int (cellF ns k)) := by
  obtain ⟨z, h1, h2⟩ := at_int ns k h0 h
  unfold cellF
  rw [h1, List.getD_eq_getElem?_getD, h2]
  rfl
theorem cell_out {ns : List Int} {k : Int} (h : (ns.length : Int) ≤ k) : cellF ns k = 0 := by
  unfold cellF
  rw [List.getD_eq_getElem?_getD, List.getElem?_eq_none (by omega)]
  rfl

def sp_some : Sp := fun vs H Q _ => ∃ (l : List Nat) (n : Int), vs = [T l, .int n] ∧ l.length ≤ 10 ∧ ∀ (cs : List Nat) (H' : Hp), Same H H' → cs.length ≤ l.length → Q (T cs) H'
/-- a person of which one knows the name -/
def PerN (C : Addr) : List Nat → V → Hp → Prop := fun nm y H => ∃ a sk m c pa, y = .ref a ∧ PerAt C H a nm sk m c pa
theorem PerN.keeps {C : Addr} (nm : List Nat) (y : V) (Ha Hb : Hp) (k : Keeps Ha Hb) (h : PerN C nm y Ha) : PerN C nm y Hb := by
  obtain ⟨a, sk, m, c, pa, e, h⟩ := h
  exact ⟨a, sk, m, c, pa, e, h.keeps k⟩
/-- the house at h with persons of these names -/
def HouN (C1 C2 : Addr) (H : Hp) (h : Addr) (nms : List (List Nat)) : Prop := ∃ d k a1 a2 a3 a4 a5 a6 qs, HouAt C2 H h d k a1 a2 a3 a4 a5 a6 ∧ H a2 = some (.lst qs) ∧ All2 (PerN C1) H nms qs
theorem HouN.same {C1 C2 : Addr} {H H' : Hp} {h : Addr} {nms : List (List Nat)} (x : HouN C1 C2 H h nms) (s : Same H H') : HouN C1 C2 H' h nms := by
  obtain ⟨d, k, a1, a2, a3, a4, a5, a6, qs, h1, h2, h3⟩ := x
  exact ⟨d, k, a1, a2, a3, a4, a5, a6, qs, h1.keeps s.keeps, s _ _ h2, h3.imp fun a y => PerN.keeps a y _ _ s.keeps⟩
def sp_place (C1 C2 : Addr) : Sp := fun vs H Q _ => ∃ (h : Addr) (nm : List Nat) (nms : List (List Nat)) (k : Nat), vs = [.ref h, T nm] ∧ HouN C1 C2 H h nms ∧ nms[k]? = some nm ∧ (∀ j < k, ¬ nms[j]? = some nm) ∧ ∀ H', Same H H' → Q (.int (k : Nat)) H'

/-! ### duties -/
def dut (l : List Nat) : Nat := (l.filter fun c => !decide (c = 45)).length
theorem dut_txt (l : List Nat) : ((((l.map fun c => T [c]).filter (fun x => !decide (x = T [45]))).map (fun x => x)).length) = dut l := by
  rw [List.length_map, List.filter_map, List.length_map]
  unfold dut
  congr 1
  refine List.filter_congr fun c _ => ?_
  show (!decide (T [c] = T [45])) = _
  by_cases h : c = 45
  · subst h; simp
  · rw [decide_eq_false h, decide_eq_false fun z => h (by simpa using T_inj z)]
def sp_dut : Sp := fun vs H Q _ => ∃ l, vs = [T l] ∧ l.length ≤ 1000 ∧ ∀ H', Same H H' → Q (.int (dut l)) H'

structure Nd where
  day : Int
  kind : Nat
  least : Int
  most : Int
def NdAt : Nd → V → Hp → Prop := fun n y H => ∃ t, y = .ref t ∧ H t = some (.tup [.int n.day, T [n.kind], .int n.least, .int n.most])
theorem NdAt.keeps (n : Nd) (y : V) (Ha Hb : Hp) (k : Keeps Ha Hb) (h : NdAt n y Ha) : NdAt n y Hb := let ⟨t, e, h⟩ := h; ⟨t, e, k _ _ h fun zs z => by cases z⟩
def needF : List Nd → Int → Nat → Int × Int
  | [], _, _ => (0, 0)
  | n :: r, d, k => if n.day = d ∧ n.kind = k then (n.least, n.most) else needF r d k
def LvT : List Nat × Int → V → Hp → Prop := fun l y H => ∃ t, y = .ref t ∧ H t = some (.tup [T l.1, .int l.2])
theorem LvT.keeps (n : List Nat × Int) (y : V) (Ha Hb : Hp) (k : Keeps Ha Hb) (h : LvT n y Ha) : LvT n y Hb := let ⟨t, e, h⟩ := h; ⟨t, e, k _ _ h fun zs z => by cases z⟩
def lvI (l : List Nat × Int) : List V := [T l.1, .int l.2]
theorem lv_tp {K : PySem.W.Frag} {H : Hp} : ∀ {ls : List (List Nat × Int)} {vs : List V}, All2 LvT H ls vs → All2 (TpAt K) H (ls.map lvI) vs
  | [], [], _ => trivial
  | l :: ls, v :: vs, h => ⟨by obtain ⟨t, e, h⟩ := h.1; exact ⟨t, e, SqT.of h, rfl⟩, lv_tp h.2⟩
  | [], _ :: _, h => h.elim
  | _ :: _, [], h => h.elim
def awayF (ls : List (List Nat × Int)) (nm : List Nat) (d : Int) : Bool := (ls.map lvI).any fun ys => eqVs ys [T nm, .int d]
theorem needF_skip {nds : List Nd} {i : Nat} {d : Int} {k : Nat} (h : ∀ j < i, ∀ n, nds[j]? = some n → ¬ (n.day = d ∧ n.kind = k)) : needF nds d k = needF (nds.drop i) d k := by
  induction i generalizing nds with
  | zero => rfl
  | succ i ih =>
    cases nds with
    | nil => rfl
    | cons n r =>
      rw [List.drop_succ_cons, ← ih (nds := r) fun j hj m hm => h (j + 1) (by omega) m (by simpa using hm)]
      rw [needF, if_neg (h 0 (by omega) n rfl)]
theorem needF_hit {nds : List Nd} {i : Nat} {d : Int} {k : Nat} {n : Nd} (h : ∀ j < i, ∀ n, nds[j]? = some n → ¬ (n.day = d ∧ n.kind = k)) (hi : nds[i]? = some n) (e : n.day = d ∧ n.kind = k) : needF nds d k = (n.least, n.most) := by
  rw [needF_skip h, List.drop_eq_getElem_cons (List.getElem?_eq_some_iff.mp hi).1, needF]
  have : nds[i]'(List.getElem?_eq_some_iff.mp hi).1 = n := (List.getElem?_eq_some_iff.mp hi).2
  rw [this, if_pos e]
theorem needF_none {nds : List Nd} {d : Int} {k : Nat} (h : ∀ j < nds.length, ∀ n, nds[j]? = some n → ¬ (n.day = d ∧ n.kind = k)) : needF nds d k = (0, 0) := by
  rw [needF_skip h, List.drop_eq_nil_of_le (Nat.le_refl _)]
  rfl

theorem lH_need (a b c d e f g h : V) : List.lookup ("need" : Str) (fH a b c d e f g h) = none := by
  rw [lk_ne (by decide +kernel), lk_ne (by decide +kernel), lk_ne (by decide +kernel), lk_ne (by decide +kernel), lk_ne (by decide +kernel), lk_ne (by decide +kernel), lk_ne (by decide +kernel), lk_ne (by decide +kernel)]
  rfl
theorem lH_rules_for (a b c d e f g h : V) : List.lookup ("rules_for" : Str) (fH a b c d e f g h) = none := by
  rw [lk_ne (by decide +kernel), lk_ne (by decide +kernel), lk_ne (by decide +kernel), lk_ne (by decide +kernel), lk_ne (by decide +kernel), lk_ne (by decide +kernel), lk_ne (by decide +kernel), lk_ne (by decide +kernel)]
  rfl
def sp_needby (K : PySem.W.Frag) : Sp := fun vs H Q _ => ∃ (l : Addr) (d : Int) (k : Nat) (nds : List Nd) (xs : List V), vs = [.ref l, .int d, T [k]] ∧ H l = some (.lst xs) ∧ All2 NdAt H nds xs ∧ ∀ (t : Addr) (H' : Hp), Same H H' → H' t = some (.tup [.int (needF nds d k).1, .int (needF nds d k).2]) → Q (.ref t) H'
def sp_needs : Sp := fun vs H Q _ => ∃ (c d : Int) (ks : List Nat), vs = [.int c, .int d, T ks] ∧ 1 ≤ d ∧ d ≤ 14 ∧ ks.length ≤ 4 ∧ ∀ (a : Addr) (H' : Hp) (nds : List Nd) (xs : List V), Same H H' → H a = none → H' a = some (.lst xs) → All2 NdAt H' nds xs → Q (.ref a) H'
theorem at1 (a b : V) : atI [a, b] 1 = some b := by simp [atI, ixN]
theorem at0 (a b : V) : atI [a, b] 0 = some a := by simp [atI, ixN]
theorem newl {H : Hp} {l : Addr} {xs : List V} (h : H l = none) : ∃ H', H' = upd H l (.lst xs) ∧ H' l = some (.lst xs) ∧ Same H H' := ⟨_, rfl, upd_same, same_new h _⟩
theorem newt {H : Hp} {l : Addr} {xs : List V} (h : H l = none) : ∃ H', H' = upd H l (.tup xs) ∧ H' l = some (.tup xs) ∧ Same H H' := ⟨_, rfl, upd_same, same_new h _⟩
/-- a person's values -/
structure Ps where
  nm : List Nat
  sk : List Nat
  most : Int
  car : Int
  past : List Nat
def PsO (C : Addr) : Ps → V → Hp → Prop := fun n y H => ∃ a, y = .ref a ∧ PerAt C H a n.nm n.sk n.most n.car n.past ∧ n.past.length ≤ 100
def PsT : Ps → V → Hp → Prop := fun n y H => ∃ t, y = .ref t ∧ H t = some (.tup [T n.nm, T n.sk, .int n.most, .int n.car, T n.past])
def TpV : List V → V → Hp → Prop := fun xs y H => ∃ t, y = .ref t ∧ H t = some (.tup xs)
def OnT (C : Addr) : Ps × List Nat → V → Hp → Prop := fun p y H => ∃ t a, y = .ref t ∧ H t = some (.tup [.ref a, T p.2]) ∧ PerAt C H a p.1.nm p.1.sk p.1.most p.1.car p.1.past
theorem PsO.keeps {C : Addr} (n : Ps) (y : V) (Ha Hb : Hp) (k : Keeps Ha Hb) (h : PsO C n y Ha) : PsO C n y Hb := let ⟨a, e, h, l⟩ := h; ⟨a, e, h.keeps k, l⟩
theorem PsT.keeps (n : Ps) (y : V) (Ha Hb : Hp) (k : Keeps Ha Hb) (h : PsT n y Ha) : PsT n y Hb := let ⟨t, e, h⟩ := h; ⟨t, e, k _ _ h fun zs z => by cases z⟩
theorem TpV.keeps (n : List V) (y : V) (Ha Hb : Hp) (k : Keeps Ha Hb) (h : TpV n y Ha) : TpV n y Hb := let ⟨t, e, h⟩ := h; ⟨t, e, k _ _ h fun zs z => by cases z⟩
theorem OnT.keeps {C : Addr} (n : Ps × List Nat) (y : V) (Ha Hb : Hp) (k : Keeps Ha Hb) (h : OnT C n y Ha) : OnT C n y Hb := let ⟨t, a, e, h, g⟩ := h; ⟨t, a, e, k _ _ h (fun zs z => by cases z), g.keeps k⟩
def mkA (row : List Nat) (d : Int) : Nat := row.getD d.toNat 0
theorem mk_at {row : List Nat} {d : Int} (h0 : 0 ≤ d) (h : d < row.length) : atI row d = some (mkA row d) := by
  obtain ⟨c, h1, h2⟩ := at_some row d h0 h
  rw [h1]
  unfold mkA
  rw [List.getD_eq_getElem?_getD, h2]
  rfl
/-- the house without rules and pairs -/
def Hq (C1 C2 : Addr) (H : Hp) (h : Addr) (dd : Int) (ks : List Nat) (nds : List Nd) (ps : List Ps) (ls : List (List Nat × Int)) : Prop :=
  ∃ a1 a2 a3 a4 a5 a6 xs ys zs, HouAt C2 H h dd ks a1 a2 a3 a4 a5 a6 ∧ H a1 = some (.lst xs) ∧ All2 NdAt H nds xs ∧ H a2 = some (.lst ys) ∧ All2 (PsO C1) H ps ys ∧ H a3 = some (.lst zs) ∧ All2 LvT H ls zs ∧ H a5 = some (.lst []) ∧ H a6 = some (.lst [])
theorem Hq.same {C1 C2 : Addr} {H H' : Hp} {h : Addr} {dd : Int} {ks : List Nat} {nds : List Nd} {ps : List Ps} {ls : List (List Nat × Int)} (x : Hq C1 C2 H h dd ks nds ps ls) (s : Same H H') : Hq C1 C2 H' h dd ks nds ps ls := by
  obtain ⟨a1, a2, a3, a4, a5, a6, xs, ys, zs, h1, h2, h3, h4, h5, h6, h7, h8, h9⟩ := x
  exact ⟨a1, a2, a3, a4, a5, a6, xs, ys, zs, h1.keeps s.keeps, s _ _ h2, h3.imp fun a y => NdAt.keeps a y _ _ s.keeps, s _ _ h4, h5.imp fun a y => PsO.keeps a y _ _ s.keeps, s _ _ h6, h7.imp fun a y => LvT.keeps a y _ _ s.keeps, s _ _ h8, s _ _ h9⟩
/-- the words -/
abbrev wSkill : List Nat := [115, 107, 105, 108, 108]
abbrev wLeave : List Nat := [108, 101, 97, 118, 101]
abbrev wNeed : List Nat := [110, 101, 101, 100]
abbrev wMost : List Nat := [109, 111, 115, 116]
def onB (d : Int) (p : Ps × List Nat) : Bool := !decide (mkA p.2 d = 45)
def skB (d : Int) (p : Ps × List Nat) : Bool := !decide (mkA p.2 d ∈ p.1.sk)
def lvB (ls : List (List Nat × Int)) (d : Int) (p : Ps × List Nat) : Bool := awayF ls p.1.nm d
def moB (d : Int) (p : Ps × List Nat) : Bool := decide (p.1.most < (dut (cutN p.2 none (some (d + 1))) : Int))
def cntF (rows : List (List Nat)) (d : Int) (k : Nat) : Nat := (rows.filter fun r => decide (mkA r d = k)).length
def neB (nds : List Nd) (rows : List (List Nat)) (d : Int) (k : Nat) : Bool := decide ((cntF rows d k : Int) < (needF nds d k).1) || decide ((needF nds d k).2 < (cntF rows d k : Int))
def skV (d : Int) (p : Ps × List Nat) : List V := [.int d, T wSkill, T p.1.nm, T [mkA p.2 d]]
def lvV (d : Int) (p : Ps × List Nat) : List V := [.int d, T wLeave, T p.1.nm, T [mkA p.2 d]]
def moV (d : Int) (p : Ps × List Nat) : List V := [.int d, T wMost, T p.1.nm, .int (dut (cutN p.2 none (some (d + 1))) : Int)]
def neV (rows : List (List Nat)) (d : Int) (k : Nat) : List V := [.int d, T wNeed, T [k], .int (cntF rows d k : Int)]
def skF (ps : List Ps) (rows : List (List Nat)) (d : Int) : List (List V) := (((ps.zip rows).filter (onB d)).filter (skB d)).map (skV d)
def lvF (ls : List (List Nat × Int)) (ps : List Ps) (rows : List (List Nat)) (d : Int) : List (List V) := (((ps.zip rows).filter (onB d)).filter (lvB ls d)).map (lvV d)
def moF (ps : List Ps) (rows : List (List Nat)) (d : Int) : List (List V) := (((ps.zip rows).filter (onB d)).filter (moB d)).map (moV d)
def neF (ks : List Nat) (nds : List Nd) (rows : List (List Nat)) (d : Int) : List (List V) := (ks.filter (neB nds rows d)).map (neV rows d)
def dayF (ks : List Nat) (nds : List Nd) (ls : List (List Nat × Int)) (ps : List Ps) (rows : List (List Nat)) (d : Int) : List (List V) := skF ps rows d ++ lvF ls ps rows d ++ neF ks nds rows d ++ moF ps rows d
def allF (ks : List Nat) (nds : List Nd) (ls : List (List Nat × Int)) (ps : List Ps) (rows : List (List Nat)) : Nat → List (List V)
  | 0 => []
  | n + 1 => allF ks nds ls ps rows n ++ dayF ks nds ls ps rows (0 + (n : Int))
theorem ff_len {ps : List Ps} {rows : List (List Nat)} (f g : Ps × List Nat → Bool) (v : Ps × List Nat → List V) (hp : ps.length ≤ 8) : ((((ps.zip rows).filter f).filter g).map v).length ≤ 8 := by
  rw [List.length_map]
  have h1 := List.length_filter_le g ((ps.zip rows).filter f)
  have h2 := List.length_filter_le f (ps.zip rows)
  rw [List.length_zip] at h2
  omega
theorem ne_len {ks : List Nat} {nds : List Nd} {rows : List (List Nat)} {d : Int} (hk : ks.length ≤ 4) : (neF ks nds rows d).length ≤ 4 := by
  unfold neF
  rw [List.length_map]
  have h1 := List.length_filter_le (neB nds rows d) ks
  omega
theorem day_len {ks : List Nat} {nds : List Nd} {ls : List (List Nat × Int)} {ps : List Ps} {rows : List (List Nat)} {d : Int} (hp : ps.length ≤ 8) (hk : ks.length ≤ 4) : (dayF ks nds ls ps rows d).length ≤ 28 := by
  unfold dayF
  have h1 : (skF ps rows d).length ≤ 8 := ff_len _ _ _ hp
  have h2 : (lvF ls ps rows d).length ≤ 8 := ff_len _ _ _ hp
  have h3 : (moF ps rows d).length ≤ 8 := ff_len _ _ _ hp
  have h4 := ne_len (nds := nds) (rows := rows) (d := d) hk
  simp only [List.length_append]
  omega
theorem all_len {ks : List Nat} {nds : List Nd} {ls : List (List Nat × Int)} {ps : List Ps} {rows : List (List Nat)} (hp : ps.length ≤ 8) (hk : ks.length ≤ 4) : ∀ n, (allF ks nds ls ps rows n).length ≤ 28 * n
  | 0 => Nat.le_refl _
  | n + 1 => by
    have h := all_len (nds := nds) (ls := ls) (rows := rows) hp hk n
    have h2 := day_len (nds := nds) (ls := ls) (rows := rows) (d := 0 + (n : Int)) hp hk
    rw [allF, List.length_append]
    omega
/-- the rota's rows are of the house's days -/
def ROk (rows : List (List Nat)) (d : Int) : Prop := 0 ≤ d ∧ ∀ r ∈ rows, d < (r.length : Int) ∧ r.length ≤ 1000
def sp_need (C1 C2 : Addr) : Sp := fun vs H Q _ => ∃ (h : Addr) (d : Int) (k : Nat) (dd : Int) (ks : List Nat) (nds : List Nd) (ps : List Ps) (ls : List (List Nat × Int)), vs = [.ref h, .int d, T [k]] ∧ Hq C1 C2 H h dd ks nds ps ls ∧ ∀ (t : Addr) (H' : Hp), Same H H' → H' t = some (.tup [.int (needF nds d k).1, .int (needF nds d k).2]) → Q (.ref t) H'
def sp_rfor (C1 C2 : Addr) : Sp := fun vs H Q _ => ∃ (h : Addr) (p dd : Int) (ks : List Nat) (nds : List Nd) (ps : List Ps) (ls : List (List Nat × Int)), vs = [.ref h, .int p] ∧ Hq C1 C2 H h dd ks nds ps ls ∧ 0 ≤ p ∧ p < (ps.length : Int) ∧ ∀ (D : Addr) (H' : Hp), Same H H' → H' D = some (.lst []) → Q (.ref D) H'
def sp_on (C1 C2 : Addr) : Sp := fun vs H Q _ => ∃ (h r : Addr) (d dd : Int) (ks : List Nat) (nds : List Nd) (ps : List Ps) (ls : List (List Nat × Int)) (rows : List (List Nat)), vs = [.ref h, .ref r, .int d] ∧ Hq C1 C2 H h dd ks nds ps ls ∧ H r = some (.lst (rows.map T)) ∧ rows.length = ps.length ∧ ps.length ≤ 8 ∧ ROk rows d ∧
  ∀ (D : Addr) (H' : Hp) (ys : List V), Same H H' → H D = none → H' D = some (.lst ys) → All2 (OnT C1) H' ((ps.zip rows).filter (onB d)) ys → Q (.ref D) H'
/-- the promise of each sort of faults -/
def sp_f (C1 C2 : Addr) (F : List Nat → List Nd → List (List Nat × Int) → List Ps → List (List Nat) → Int → List (List V)) : Sp := fun vs H Q _ => ∃ (h r : Addr) (d dd : Int) (ks : List Nat) (nds : List Nd) (ps : List Ps) (ls : List (List Nat × Int)) (rows : List (List Nat)), vs = [.ref h, .ref r, .int d] ∧ Hq C1 C2 H h dd ks nds ps ls ∧ H r = some (.lst (rows.map T)) ∧ rows.length = ps.length ∧ ps.length ≤ 8 ∧ ks.length ≤ 4 ∧ ROk rows d ∧
  ∀ (D : Addr) (H' : Hp) (ys : List V), Same H H' → H D = none → H' D = some (.lst ys) → All2 TpV H' (F ks nds ls ps rows d) ys → Q (.ref D) H'
def sp_faults (C1 C2 : Addr) : Sp := fun vs H Q _ => ∃ (h r : Addr) (dd : Int) (ks : List Nat) (nds : List Nd) (ps : List Ps) (ls : List (List Nat × Int)) (rows : List (List Nat)), vs = [.ref h, .ref r] ∧ Hq C1 C2 H h dd ks nds ps ls ∧ H r = some (.lst (rows.map T)) ∧ rows.length = ps.length ∧ ps.length ≤ 8 ∧ ks.length ≤ 4 ∧ 0 ≤ dd ∧ dd ≤ 14 ∧ (∀ r ∈ rows, (r.length : Int) = dd) ∧
  ∀ (D : Addr) (H' : Hp) (ys : List V), Same H H' → H D = none → H' D = some (.lst ys) → All2 TpV H' (allF ks nds ls ps rows dd.toNat) ys → Q (.ref D) H'

section
variable {P : Program} {w : World} {K : PySem.W.Frag} {mg : Str → Option Value} {base : Heap} {C_Person C_House : Addr}

theorem g_Person_init (tx : Tx K mg C_Person C_House) : MtG P w K mg base C_Person "__init__" 1 ["self", "name", "skills", "most", "carried", "past"] (sp_pinit C_Person) := by
  refine tx.m_Person_init.g tx.c_Person.cl sc_Person_init (fun _ _ _ _ _ _ us hl => match us, hl with | [_, _, _, _, _, _], _ => rfl) (fun vs H Q E h => ?_) (fun f cdv A outer s H vs Q E hr h => ?_)
  · obtain ⟨p, dx, a, b, c, d, e, rfl, _⟩ := h
    rfl
  · obtain ⟨p, dx, a, b, c, d, e, rfl, hp, q⟩ := h
    refine ⟨_, (pss_cons (ps_fld (pv 0) (pv 1) rfl)
      (pss_cons (ps_fld (pv 0) (pv 2) rfl)
      (pss_cons (ps_fld (pv 0) (pv 3) rfl)
      (pss_cons (ps_fld (pv 0) (pv 4) rfl)
      (pss_one (ps_fld (pv 0) (pv 5) rfl)))))), ?_⟩
    walk_at "st"
    refine ⟨_, rfl, _, rfl, p, C_Person, dx, [], rfl, hp, tx.c_Person.cl, tx.n_Person_name, (by show 0 < 1000; decide), ?_⟩
    refine ⟨_, rfl, _, rfl, p, C_Person, dx, [("name", a)], rfl, upd_same, tx.c_Person.cl, tx.n_Person_skills, (by show 1 < 1000; decide), ?_⟩
    rw [putN (fs := [("name", a)]) (show ∀ g ∈ [("name" : Str)], g ≠ "skills" from by decide +kernel)]
    refine ⟨_, rfl, _, rfl, p, C_Person, dx, [("name", a), ("skills", b)], rfl, upd_same, tx.c_Person.cl, tx.n_Person_most, (by show 2 < 1000; decide), ?_⟩
    rw [putN (fs := [("name", a), ("skills", b)]) (show ∀ g ∈ [("name" : Str), "skills"], g ≠ "most" from by decide +kernel)]
    refine ⟨_, rfl, _, rfl, p, C_Person, dx, [("name", a), ("skills", b), ("most", c)], rfl, upd_same, tx.c_Person.cl, tx.n_Person_carried, (by show 3 < 1000; decide), ?_⟩
    rw [putN (fs := [("name", a), ("skills", b), ("most", c)]) (show ∀ g ∈ [("name" : Str), "skills", "most"], g ≠ "carried" from by decide +kernel)]
    refine ⟨_, rfl, _, rfl, p, C_Person, dx, [("name", a), ("skills", b), ("most", c), ("carried", d)], rfl, upd_same, tx.c_Person.cl, tx.n_Person_past, (by show 4 < 1000; decide), ?_⟩
    rw [putN (fs := [("name", a), ("skills", b), ("most", c), ("carried", d)]) (show ∀ g ∈ [("name" : Str), "skills", "most", "carried"], g ≠ "past" from by decide +kernel)]
    exact q _ (But.refl p H).at.at.at.at.at upd_same

theorem g_House_init (tx : Tx K mg C_Person C_House) : MtG P w K mg base C_House "__init__" 1 ["self", "days", "kinds", "needs", "persons", "leave", "wishes", "rules", "pairs"] (sp_hinit C_House) := by
  refine tx.m_House_init.g tx.c_House.cl sc_House_init (fun _ _ _ _ _ _ us hl => match us, hl with | [_, _, _, _, _, _, _, _, _], _ => rfl) (fun vs H Q E h => ?_) (fun f cdv A outer s H vs Q E hr h => ?_)
  · obtain ⟨p, dx, d, k, b1, b2, b3, b4, b5, b6, x1, x2, x3, x4, x5, x6, rfl, _⟩ := h
    rfl
  · obtain ⟨p, dx, d, k, b1, b2, b3, b4, b5, b6, x1, x2, x3, x4, x5, x6, rfl, hp, h1, h2, h3, h4, h5, h6, q⟩ := h
    refine ⟨_, (pss_cons (ps_fld (pv 0) (pv 1) rfl)
      (pss_cons (ps_fld (pv 0) (pv 2) rfl)
      (pss_cons (ps_fld (pv 0) (pe_callTy call_list_of rfl tx.z_list bt_ty_list (pa_cons (pv 3) pa_nil)) rfl)
      (pss_cons (ps_fld (pv 0) (pe_callTy call_list_of rfl tx.z_list bt_ty_list (pa_cons (pv 4) pa_nil)) rfl)
      (pss_cons (ps_fld (pv 0) (pe_callTy call_list_of rfl tx.z_list bt_ty_list (pa_cons (pv 5) pa_nil)) rfl)
      (pss_cons (ps_fld (pv 0) (pe_callTy call_list_of rfl tx.z_list bt_ty_list (pa_cons (pv 6) pa_nil)) rfl)
      (pss_cons (ps_fld (pv 0) (pe_callTy call_list_of rfl tx.z_list bt_ty_list (pa_cons (pv 7) pa_nil)) rfl)
      (pss_one (ps_fld (pv 0) (pe_callTy call_list_of rfl tx.z_list bt_ty_list (pa_cons (pv 8) pa_nil)) rfl))))))))), ?_⟩
    walk_at "st"
    have nb : ∀ {b : Addr} {x : List V}, H b = some (.lst x) → b ≠ p := fun e => ne_of e hp (by intro z; cases z)
    refine ⟨_, rfl, _, rfl, p, C_House, dx, [], rfl, hp, tx.c_House.cl, tx.n_House_days, (by show 0 < 1000; decide), ?_⟩
    refine ⟨_, rfl, _, rfl, p, C_House, dx, [("days", d)], rfl, upd_same, tx.c_House.cl, tx.n_House_kinds, (by show 1 < 1000; decide), ?_⟩
    rw [putN (fs := [("days", d)]) (show ∀ g ∈ [("days" : Str)], g ≠ "kinds" from by decide +kernel)]
    have B0 : But p H (upd (upd H p (.ins C_House dx (putF "days" d []))) p (.ins C_House dx ([(("days" : Str), d)] ++ [(("kinds" : Str), k)]))) := (But.refl p H).at.at
    have e0 : upd (upd H p (.ins C_House dx (putF "days" d []))) p (.ins C_House dx ([(("days" : Str), d)] ++ [(("kinds" : Str), k)])) p = some (.ins C_House dx [("days", d), ("kinds", k)]) := upd_same
    generalize upd (upd H p (.ins C_House dx (putF "days" d []))) p (.ins C_House dx ([(("days" : Str), d)] ++ [(("kinds" : Str), k)])) = H0 at B0 e0 ⊢
    -- needs
    refine ⟨_, rfl, b1, x1, rfl, .inl (SqL.of (B0 _ _ (nb h1) h1)), fun a1 n1 => ?_⟩
    refine ⟨_, rfl, p, C_House, dx, [("days", d), ("kinds", k)], rfl, (upd_ne (ne_of_none e0 n1)).trans e0, tx.c_House.cl, tx.n_House_needs, (by show 2 < 1000; decide), ?_⟩
    rw [putN (fs := [("days", d), ("kinds", k)]) (show ∀ g ∈ [("days" : Str), "kinds"], g ≠ "needs" from by decide +kernel)]
    have z1 : a1 ≠ p := (ne_of_none e0 n1).symm
    have B1 : But p H (upd (upd H0 a1 (.lst x1)) p (.ins C_House dx ([(("days" : Str), d), ("kinds", k)] ++ [(("needs" : Str), .ref a1)]))) := (B0.new n1).at
    have e1 : upd (upd H0 a1 (.lst x1)) p (.ins C_House dx ([(("days" : Str), d), ("kinds", k)] ++ [(("needs" : Str), .ref a1)])) p = some (.ins C_House dx [("days", d), ("kinds", k), ("needs", .ref a1)]) := upd_same
    have y1 : upd (upd H0 a1 (.lst x1)) p (.ins C_House dx ([(("days" : Str), d), ("kinds", k)] ++ [(("needs" : Str), .ref a1)])) a1 = some (.lst x1) := by rw [upd_ne z1]; exact upd_same
    have m1 : H a1 = none := by cases hh : H a1 with | none => rfl | some o => rw [B0 _ _ z1 hh] at n1; cases n1
    generalize upd (upd H0 a1 (.lst x1)) p (.ins C_House dx ([(("days" : Str), d), ("kinds", k)] ++ [(("needs" : Str), .ref a1)])) = H1 at B1 e1 y1 ⊢
    -- persons
    refine ⟨_, rfl, b2, x2, rfl, .inl (SqL.of (B1 _ _ (nb h2) h2)), fun a2 n2 => ?_⟩
    refine ⟨_, rfl, p, C_House, dx, [("days", d), ("kinds", k), ("needs", .ref a1)], rfl, (upd_ne (ne_of_none e1 n2)).trans e1, tx.c_House.cl, tx.n_House_persons, (by show 3 < 1000; decide), ?_⟩
    rw [putN (fs := [("days", d), ("kinds", k), ("needs", .ref a1)]) (show ∀ g ∈ [("days" : Str), "kinds", "needs"], g ≠ "persons" from by decide +kernel)]
    have z2 : a2 ≠ p := (ne_of_none e1 n2).symm
    have B2 : But p H (upd (upd H1 a2 (.lst x2)) p (.ins C_House dx ([(("days" : Str), d), ("kinds", k), ("needs", .ref a1)] ++ [(("persons" : Str), .ref a2)]))) := (B1.new n2).at
    have e2 : upd (upd H1 a2 (.lst x2)) p (.ins C_House dx ([(("days" : Str), d), ("kinds", k), ("needs", .ref a1)] ++ [(("persons" : Str), .ref a2)])) p = some (.ins C_House dx [("days", d), ("kinds", k), ("needs", .ref a1), ("persons", .ref a2)]) := upd_same
    have y2 : upd (upd H1 a2 (.lst x2)) p (.ins C_House dx ([(("days" : Str), d), ("kinds", k), ("needs", .ref a1)] ++ [(("persons" : Str), .ref a2)])) a2 = some (.lst x2) := by rw [upd_ne z2]; exact upd_same
    have y12 : upd (upd H1 a2 (.lst x2)) p (.ins C_House dx ([(("days" : Str), d), ("kinds", k), ("needs", .ref a1)] ++ [(("persons" : Str), .ref a2)])) a1 = some (.lst x1) := by rw [upd_ne z1, upd_ne (ne_of_none y1 n2)]; exact y1
    have m2 : H a2 = none := by cases hh : H a2 with | none => rfl | some o => rw [B1 _ _ z2 hh] at n2; cases n2
    generalize upd (upd H1 a2 (.lst x2)) p (.ins C_House dx ([(("days" : Str), d), ("kinds", k), ("needs", .ref a1)] ++ [(("persons" : Str), .ref a2)])) = H2 at B2 e2 y2 y12 ⊢
    -- leave
    refine ⟨_, rfl, b3, x3, rfl, .inl (SqL.of (B2 _ _ (nb h3) h3)), fun a3 n3 => ?_⟩
    refine ⟨_, rfl, p, C_House, dx, [("days", d), ("kinds", k), ("needs", .ref a1), ("persons", .ref a2)], rfl, (upd_ne (ne_of_none e2 n3)).trans e2, tx.c_House.cl, tx.n_House_leave, (by show 4 < 1000; decide), ?_⟩
    rw [putN (fs := [("days", d), ("kinds", k), ("needs", .ref a1), ("persons", .ref a2)]) (show ∀ g ∈ [("days" : Str), "kinds", "needs", "persons"], g ≠ "leave" from by decide +kernel)]
    have z3 : a3 ≠ p := (ne_of_none e2 n3).symm
    have B3 : But p H (upd (upd H2 a3 (.lst x3)) p (.ins C_House dx ([(("days" : Str), d), ("kinds", k), ("needs", .ref a1), ("persons", .ref a2)] ++ [(("leave" : Str), .ref a3)]))) := (B2.new n3).at
    have e3 : upd (upd H2 a3 (.lst x3)) p (.ins C_House dx ([(("days" : Str), d), ("kinds", k), ("needs", .ref a1), ("persons", .ref a2)] ++ [(("leave" : Str), .ref a3)])) p = some (.ins C_House dx [("days", d), ("kinds", k), ("needs", .ref a1), ("persons", .ref a2), ("leave", .ref a3)]) := upd_same
    have y3 : upd (upd H2 a3 (.lst x3)) p (.ins C_House dx ([(("days" : Str), d), ("kinds", k), ("needs", .ref a1), ("persons", .ref a2)] ++ [(("leave" : Str), .ref a3)])) a3 = some (.lst x3) := by rw [upd_ne z3]; exact upd_same
    have y13 : upd (upd H2 a3 (.lst x3)) p (.ins C_House dx ([(("days" : Str), d), ("kinds", k), ("needs", .ref a1), ("persons", .ref a2)] ++ [(("leave" : Str), .ref a3)])) a1 = some (.lst x1) := by rw [upd_ne z1, upd_ne (ne_of_none y12 n3)]; exact y12
    have y23 : upd (upd H2 a3 (.lst x3)) p (.ins C_House dx ([(("days" : Str), d), ("kinds", k), ("needs", .ref a1), ("persons", .ref a2)] ++ [(("leave" : Str), .ref a3)])) a2 = some (.lst x2) := by rw [upd_ne z2, upd_ne (ne_of_none y2 n3)]; exact y2
    have m3 : H a3 = none := by cases hh : H a3 with | none => rfl | some o => rw [B2 _ _ z3 hh] at n3; cases n3
    generalize upd (upd H2 a3 (.lst x3)) p (.ins C_House dx ([(("days" : Str), d), ("kinds", k), ("needs", .ref a1), ("persons", .ref a2)] ++ [(("leave" : Str), .ref a3)])) = H3 at B3 e3 y3 y13 y23 ⊢
    -- wishes
    refine ⟨_, rfl, b4, x4, rfl, .inl (SqL.of (B3 _ _ (nb h4) h4)), fun a4 n4 => ?_⟩
    refine ⟨_, rfl, p, C_House, dx, [("days", d), ("kinds", k), ("needs", .ref a1), ("persons", .ref a2), ("leave", .ref a3)], rfl, (upd_ne (ne_of_none e3 n4)).trans e3, tx.c_House.cl, tx.n_House_wishes, (by show 5 < 1000; decide), ?_⟩
    rw [putN (fs := [("days", d), ("kinds", k), ("needs", .ref a1), ("persons", .ref a2), ("leave", .ref a3)]) (show ∀ g ∈ [("days" : Str), "kinds", "needs", "persons", "leave"], g ≠ "wishes" from by decide +kernel)]
    have z4 : a4 ≠ p := (ne_of_none e3 n4).symm
    have B4 : But p H (upd (upd H3 a4 (.lst x4)) p (.ins C_House dx ([(("days" : Str), d), ("kinds", k), ("needs", .ref a1), ("persons", .ref a2), ("leave", .ref a3)] ++ [(("wishes" : Str), .ref a4)]))) := (B3.new n4).at
    have e4 : upd (upd H3 a4 (.lst x4)) p (.ins C_House dx ([(("days" : Str), d), ("kinds", k), ("needs", .ref a1), ("persons", .ref a2), ("leave", .ref a3)] ++ [(("wishes" : Str), .ref a4)])) p = some (.ins C_House dx [("days", d), ("kinds", k), ("needs", .ref a1), ("persons", .ref a2), ("leave", .ref a3), ("wishes", .ref a4)]) := upd_same
    have y4 : upd (upd H3 a4 (.lst x4)) p (.ins C_House dx ([(("days" : Str), d), ("kinds", k), ("needs", .ref a1), ("persons", .ref a2), ("leave", .ref a3)] ++ [(("wishes" : Str), .ref a4)])) a4 = some (.lst x4) := by rw [upd_ne z4]; exact upd_same
    have y14 : upd (upd H3 a4 (.lst x4)) p (.ins C_House dx ([(("days" : Str), d), ("kinds", k), ("needs", .ref a1), ("persons", .ref a2), ("leave", .ref a3)] ++ [(("wishes" : Str), .ref a4)])) a1 = some (.lst x1) := by rw [upd_ne z1, upd_ne (ne_of_none y13 n4)]; exact y13
    have y24 : upd (upd H3 a4 (.lst x4)) p (.ins C_House dx ([(("days" : Str), d), ("kinds", k), ("needs", .ref a1), ("persons", .ref a2), ("leave", .ref a3)] ++ [(("wishes" : Str), .ref a4)])) a2 = some (.lst x2) := by rw [upd_ne z2, upd_ne (ne_of_none y23 n4)]; exact y23
    have y34 : upd (upd H3 a4 (.lst x4)) p (.ins C_House dx ([(("days" : Str), d), ("kinds", k), ("needs", .ref a1), ("persons", .ref a2), ("leave", .ref a3)] ++ [(("wishes" : Str), .ref a4)])) a3 = some (.lst x3) := by rw [upd_ne z3, upd_ne (ne_of_none y3 n4)]; exact y3
    have m4 : H a4 = none := by cases hh : H a4 with | none => rfl | some o => rw [B3 _ _ z4 hh] at n4; cases n4
    generalize upd (upd H3 a4 (.lst x4)) p (.ins C_House dx ([(("days" : Str), d), ("kinds", k), ("needs", .ref a1), ("persons", .ref a2), ("leave", .ref a3)] ++ [(("wishes" : Str), .ref a4)])) = H4 at B4 e4 y4 y14 y24 y34 ⊢
    -- rules
    refine ⟨_, rfl, b5, x5, rfl, .inl (SqL.of (B4 _ _ (nb h5) h5)), fun a5 n5 => ?_⟩
    refine ⟨_, rfl, p, C_House, dx, [("days", d), ("kinds", k), ("needs", .ref a1), ("persons", .ref a2), ("leave", .ref a3), ("wishes", .ref a4)], rfl, (upd_ne (ne_of_none e4 n5)).trans e4, tx.c_House.cl, tx.n_House_rules, (by show 6 < 1000; decide), ?_⟩
    rw [putN (fs := [("days", d), ("kinds", k), ("needs", .ref a1), ("persons", .ref a2), ("leave", .ref a3), ("wishes", .ref a4)]) (show ∀ g ∈ [("days" : Str), "kinds", "needs", "persons", "leave", "wishes"], g ≠ "rules" from by decide +kernel)]
    have z5 : a5 ≠ p := (ne_of_none e4 n5).symm
    have B5 : But p H (upd (upd H4 a5 (.lst x5)) p (.ins C_House dx ([(("days" : Str), d), ("kinds", k), ("needs", .ref a1), ("persons", .ref a2), ("leave", .ref a3), ("wishes", .ref a4)] ++ [(("rules" : Str), .ref a5)]))) := (B4.new n5).at
    have e5 : upd (upd H4 a5 (.lst x5)) p (.ins C_House dx ([(("days" : Str), d), ("kinds", k), ("needs", .ref a1), ("persons", .ref a2), ("leave", .ref a3), ("wishes", .ref a4)] ++ [(("rules" : Str), .ref a5)])) p = some (.ins C_House dx [("days", d), ("kinds", k), ("needs", .ref a1), ("persons", .ref a2), ("leave", .ref a3), ("wishes", .ref a4), ("rules", .ref a5)]) := upd_same
    have y5 : upd (upd H4 a5 (.lst x5)) p (.ins C_House dx ([(("days" : Str), d), ("kinds", k), ("needs", .ref a1), ("persons", .ref a2), ("leave", .ref a3), ("wishes", .ref a4)] ++ [(("rules" : Str), .ref a5)])) a5 = some (.lst x5) := by rw [upd_ne z5]; exact upd_same
    have y15 : upd (upd H4 a5 (.lst x5)) p (.ins C_House dx ([(("days" : Str), d), ("kinds", k), ("needs", .ref a1), ("persons", .ref a2), ("leave", .ref a3), ("wishes", .ref a4)] ++ [(("rules" : Str), .ref a5)])) a1 = some (.lst x1) := by rw [upd_ne z1, upd_ne (ne_of_none y14 n5)]; exact y14
    have y25 : upd (upd H4 a5 (.lst x5)) p (.ins C_House dx ([(("days" : Str), d), ("kinds", k), ("needs", .ref a1), ("persons", .ref a2), ("leave", .ref a3), ("wishes", .ref a4)] ++ [(("rules" : Str), .ref a5)])) a2 = some (.lst x2) := by rw [upd_ne z2, upd_ne (ne_of_none y24 n5)]; exact y24
    have y35 : upd (upd H4 a5 (.lst x5)) p (.ins C_House dx ([(("days" : Str), d), ("kinds", k), ("needs", .ref a1), ("persons", .ref a2), ("leave", .ref a3), ("wishes", .ref a4)] ++ [(("rules" : Str), .ref a5)])) a3 = some (.lst x3) := by rw [upd_ne z3, upd_ne (ne_of_none y34 n5)]; exact y34
    have y45 : upd (upd H4 a5 (.lst x5)) p (.ins C_House dx ([(("days" : Str), d), ("kinds", k), ("needs", .ref a1), ("persons", .ref a2), ("leave", .ref a3), ("wishes", .ref a4)] ++ [(("rules" : Str), .ref a5)])) a4 = some (.lst x4) := by rw [upd_ne z4, upd_ne (ne_of_none y4 n5)]; exact y4
    have m5 : H a5 = none := by cases hh : H a5 with | none => rfl | some o => rw [B4 _ _ z5 hh] at n5; cases n5
    generalize upd (upd H4 a5 (.lst x5)) p (.ins C_House dx ([(("days" : Str), d), ("kinds", k), ("needs", .ref a1), ("persons", .ref a2), ("leave", .ref a3), ("wishes", .ref a4)] ++ [(("rules" : Str), .ref a5)])) = H5 at B5 e5 y5 y15 y25 y35 y45 ⊢
    -- pairs
    refine ⟨_, rfl, b6, x6, rfl, .inl (SqL.of (B5 _ _ (nb h6) h6)), fun a6 n6 => ?_⟩
    refine ⟨_, rfl, p, C_House, dx, [("days", d), ("kinds", k), ("needs", .ref a1), ("persons", .ref a2), ("leave", .ref a3), ("wishes", .ref a4), ("rules", .ref a5)], rfl, (upd_ne (ne_of_none e5 n6)).trans e5, tx.c_House.cl, tx.n_House_pairs, (by show 7 < 1000; decide), ?_⟩
    rw [putN (fs := [("days", d), ("kinds", k), ("needs", .ref a1), ("persons", .ref a2), ("leave", .ref a3), ("wishes", .ref a4), ("rules", .ref a5)]) (show ∀ g ∈ [("days" : Str), "kinds", "needs", "persons", "leave", "wishes", "rules"], g ≠ "pairs" from by decide +kernel)]
    have z6 : a6 ≠ p := (ne_of_none e5 n6).symm
    have m6 : H a6 = none := by cases hh : H a6 with | none => rfl | some o => rw [B5 _ _ z6 hh] at n6; cases n6
    refine q _ a1 a2 a3 a4 a5 a6 (B5.new n6).at upd_same ?_ ?_ ?_ ?_ ?_ ?_ m1 m2 m3 m4 m5 m6
    · rw [upd_ne z1, upd_ne (ne_of_none y15 n6)]; exact y15
    · rw [upd_ne z2, upd_ne (ne_of_none y25 n6)]; exact y25
    · rw [upd_ne z3, upd_ne (ne_of_none y35 n6)]; exact y35
    · rw [upd_ne z4, upd_ne (ne_of_none y45 n6)]; exact y45
    · rw [upd_ne z5, upd_ne (ne_of_none y5 n6)]; exact y5
    · rw [upd_ne z6]; exact upd_same

end
section
variable {P : Program} {w : World} {K : PySem.W.Frag} {mg : Str → Option Value} {base : Heap} {C_Person C_House : Addr}

theorem g_law_cell_at (tx : Tx K mg C_Person C_House) : FnG P w K mg base "_law_cell_at" 1 ["_law_script", "_law_k"] (sp_cellx K) := by
  refine tx.f_law_cell_at.g sc_law_cell_at (fun _ _ _ _ _ _ us hl => match us, hl with | [_, _], _ => rfl) (fun vs H Q E h => ?_) (fun f cdv A outer s H vs Q E hr h => ?_)
  · obtain ⟨a, ns, k, rfl, _⟩ := h
    rfl
  · obtain ⟨a, ns, k, rfl, hS, h0, q⟩ := h
    refine ⟨_, (pss_cons (ps_if (pt_cmpR op_lt (pv 1) (pe_callB (call_len_seqK (K := K) rfl) rfl tx.z_len PySem.boot_len (pa_cons (pv 0) pa_nil)) (nomark _)) (pss_one (ps_ret (pe_ix (ix_listK (K := K) rfl) (pv 0) (pv 1) (fun _ _ => rfl)))) pss_nil)
      (pss_one (ps_ret pe_int))), ?_⟩
    walk_at "st"
    walk_at "rd"
    refine ite2 (fun c => ?_) (fun c => ?_)
    · have c' : k < ((ns.map V.int).length : Int) := of_decide_eq_true c
      rw [List.length_map] at c'
      have hv := cell_lit h0 c'
      walk_at "rd"
      exact q
    · have c' : ¬ k < ((ns.map V.int).length : Int) := of_decide_eq_false (Bool.eq_false_iff.mpr c)
      rw [List.length_map] at c'
      walk_at "rd"
      rw [cell_out (by omega)] at q
      exact q

theorem g_law_stream (tx : Tx K mg C_Person C_House) : FnG P w K mg base "_law_stream" 1 ["_law_cell", "_law_many"] sp_streamx := by
  refine tx.f_law_stream.g sc_law_stream (fun _ _ _ _ _ _ us hl => match us, hl with | [_, _], _ => rfl) (fun vs H Q E h => ?_) (fun f cdv A outer s H vs Q E hr h => ?_)
  · obtain ⟨c, m, rfl, _⟩ := h
    rfl
  · obtain ⟨c, m, rfl, h0, h1, q⟩ := h
    refine ⟨_, (pss_cons (ps_set (i := 2) sc_law_stream.nd rfl (Or.inl rfl) (pe_lst pa_nil))
      (pss_cons (ps_set (i := 3) sc_law_stream.nd rfl (Or.inl rfl) (pe_op op_add (pe_op op_mod (pv 0) pe_int) pe_int))
      (pss_cons (ps_for PassesOwn.never rfl (pi_range1 rfl tx.z_range (pa_cons (pe_op op_add (pv 1) pe_int) pa_nil)) (pg_name (i := 4) sc_law_stream.nd rfl (Or.inl rfl)) (pss_cons (ps_set (i := 3) sc_law_stream.nd rfl (Or.inl rfl) (pe_op op_mod (pe_op op_add (pe_op op_add (pe_op op_mul (pv 3) (pv 3)) (pe_op op_mul pe_int (pv 3))) (pv 4)) pe_int))
      (pss_one (ps_expr (pe_bm PySem.F.plainAttrs_list PySem.F.slot_list_append PySem.F.type_list_append mt_append (pv 2) (pa_cons (pv 3) pa_nil))))))
      (pss_one (ps_ret (pe_slice (sl_listK (K := K) rfl) (pv 2) (po_some pe_int) po_none)))))), ?_⟩
    walk_at "st"
    have b0 : 0 ≤ c % 2147483647 := Int.emod_nonneg _ (by decide)
    have b1 : c % 2147483647 < 2147483647 := Int.emod_lt_of_pos _ (by decide)
    walk_at "rd"
    intro p hp
    walk_at "rd"
    refine for_range (n := (m + 1).toNat) (fun i σ H2 => Here (∃ (n : Int) (v : Option V) (ys : List Int), σ = [some (.int c), some (.int m), some (.ref p), some (.int n), v] ∧ 0 ≤ n ∧ n < 2147600000 ∧ ys.length = i ∧ H2 p = some (.lst (ys.map V.int)) ∧ Same H H2))
      (Here.mk ⟨_, none, [], rfl, by omega, by omega, rfl, upd_same, same_new hp _⟩) ?_ ?_
    · rintro i σ H2 hi hv
      obtain ⟨n, v, ys, rfl, hn0, hn1, hy, hpp, hs⟩ := hv.out
      have z0 : 0 ≤ (n * n + 48271 * n + (0 + (i : Int))) % 2147483647 := Int.emod_nonneg _ (by decide)
      have z1 : (n * n + 48271 * n + (0 + (i : Int))) % 2147483647 < 2147483647 := Int.emod_lt_of_pos _ (by decide)
      have hl : (ys.map V.int).length ≤ 1000 := by rw [List.length_map]; omega
      walk_at "rd"
      refine Here.mk ⟨_, _, ys ++ [(n * n + 48271 * n + (0 + (i : Int))) % 2147483647], rfl, z0, by omega, ?_, ?_, hs.upd hp⟩
      · rw [List.length_append, List.length_singleton, hy]
      · rw [upd_same, List.map_append]
        rfl
    · rintro σ H2 hv
      obtain ⟨n, v, ys, rfl, hn0, hn1, hy, hpp, hs⟩ := hv.out
      walk_at "rd"
      intro r hr'
      refine q r _ (ys.drop 1) (hs.trans (same_new hr' _)) (hs.free hr') ?_ ?_
      · rw [upd_same]
        have e : cutV (ys.map V.int) (some 1) none = (ys.drop 1).map V.int := by
          rw [List.map_drop]
          exact cut_from (ys.map V.int) 1 (by decide)
        rw [e]
      · rw [List.length_drop, hy]
        omega

theorem g_law_kinds (tx : Tx K mg C_Person C_House) : FnG P w K mg base "_law_kinds" 1 ["_law_cell"] sp_kinds := by
  refine tx.f_law_kinds.g sc_law_kinds (fun _ _ _ _ _ _ us hl => match us, hl with | [_], _ => rfl) (fun vs H Q E h => ?_) (fun f cdv A outer s H vs Q E hr h => ?_)
  · obtain ⟨c, rfl, _⟩ := h
    rfl
  · obtain ⟨c, rfl, q⟩ := h
    refine ⟨_, (pss_cons (ps_set (i := 1) sc_law_kinds.nd rfl (Or.inr rfl) (pe_txt (l := [65, 66, 67, 68, 69, 70, 71, 72, 73, 74, 75, 76, 77, 78, 79, 80, 81, 82, 83, 84, 85, 86, 87, 88, 89, 90]) (by decide +kernel)))
      (pss_cons (ps_set (i := 2) sc_law_kinds.nd rfl (Or.inl rfl) (pe_op op_add pe_int (pe_op op_mod (pv 0) pe_int)))
      (pss_one (ps_ret (pe_joinK (K := K) rfl (pe_txt (l := []) (by decide +kernel)) (pa_cons (pe_comp (osc := defScope s_law_kinds) (ON := ["_law_cell", "_law_some_here", "_law_many"]) (N := ["_law_k", "_law_some_here", "_law_cell"]) (js := [none, some 1, some 0]) ⟨rfl, by decide +kernel, by decide +kernel, by decide +kernel, rfl, by decide +kernel⟩ rfl rfl rfl (pi_range1 rfl tx.z_range (pa_cons (pv 2) pa_nil)) (fun _ _ _ _ _ => pg_name (i := 0) (show List.Nodup (["_law_k", "_law_some_here", "_law_cell"] : List Str) from by decide +kernel) rfl (Or.inl rfl)) (fun _ _ _ _ _ => pifs_nil) (fun _ _ _ _ _ => (pe_ix ix_txt (pv 1) (pe_op op_mod (pe_op op_add (pe_op op_fdiv (pv 2) pe_int) (pe_op op_mul (pv 0) (pe_op op_add pe_int (pe_op op_mod (pe_op op_fdiv (pv 2) pe_int) pe_int)))) pe_int) (fun _ _ => rfl)))) pa_nil)))))), ?_⟩
    walk_at "st"
    have h0 : 0 ≤ c % 4 := Int.emod_nonneg _ (by decide)
    have h1 : c % 4 < 4 := Int.emod_lt_of_pos _ (by decide)
    walk_at "rd"
    refine comp_map (onI fun i => cap ((c / 4 + i * (1 + c / 104 % 6)) % 26)) (hands_range 0 (1 + c % 4).toNat) ?_ (fun x hx H' s' R hR => ?_) (fun D H2 hD s2 hDD => ?_)
    · rw [List.length_map, List.length_range]; omega
    · obtain ⟨k, hk, rfl⟩ := List.mem_map.mp hx
      have hk := List.mem_range.mp hk
      have ha := at_ABC ((c / 4 + (0 + (k : Int)) * (1 + c / 104 % 6)) % 26) (Int.emod_nonneg _ (by decide)) (Int.emod_lt_of_pos _ (by decide))
      walk_at "rd"
      exact hR H' (Same.refl _)
    rw [rng_ones _ (fun i => cap ((c / 4 + i * (1 + c / 104 % 6)) % 26))] at hDD
    refine ⟨[], _, D, rfl, rfl, SqL.of hDD, ?_, ?_⟩
    · rw [sum_ones, List.length_map, List.length_nil, Nat.mul_zero, List.length_range]
      omega
    rw [joinN_nil, flat_ones]
    exact q H2 s2

theorem g_law_name (tx : Tx K mg C_Person C_House) : FnG P w K mg base "_law_name" 1 ["_law_cell", "_law_p"] sp_name := by
  refine tx.f_law_name.g sc_law_name (fun _ _ _ _ _ _ us hl => match us, hl with | [_, _], _ => rfl) (fun vs H Q E h => ?_) (fun f cdv A outer s H vs Q E hr h => ?_)
  · obtain ⟨c, p, rfl, _⟩ := h
    rfl
  · obtain ⟨c, p, rfl, q⟩ := h
    refine ⟨_, (pss_cons (ps_set (i := 2) sc_law_name.nd rfl (Or.inr rfl) (pe_txt (l := [97, 98, 99, 100, 101, 102, 103, 104, 105, 106, 107, 108, 109, 110, 111, 112, 113, 114, 115, 116, 117, 118, 119, 120, 121, 122]) (by decide +kernel)))
      (pss_cons (ps_set (i := 3) sc_law_name.nd rfl (Or.inl rfl) (pe_joinK (K := K) rfl (pe_txt (l := []) (by decide +kernel)) (pa_cons (pe_comp (osc := defScope s_law_name) (ON := ["_law_cell", "_law_p", "_law_some_here", "_law_body", "_law_at", "_law_name_here"]) (N := ["_law_k", "_law_some_here", "_law_cell"]) (js := [none, some 2, some 0]) ⟨rfl, by decide +kernel, by decide +kernel, by decide +kernel, rfl, by decide +kernel⟩ rfl rfl rfl (pi_range1 rfl tx.z_range (pa_cons (pe_op op_mod (pe_op op_fdiv (pv 0) pe_int) pe_int) pa_nil)) (fun _ _ _ _ _ => pg_name (i := 0) (show List.Nodup (["_law_k", "_law_some_here", "_law_cell"] : List Str) from by decide +kernel) rfl (Or.inl rfl)) (fun _ _ _ _ _ => pifs_nil) (fun _ _ _ _ _ => (pe_ix ix_txt (pv 1) (pe_op op_mod (pe_op op_fdiv (pv 2) (pe_op op_add pe_int (pe_op op_mul pe_int (pv 0)))) pe_int) (fun _ _ => rfl)))) pa_nil)))
      (pss_cons (ps_set (i := 4) sc_law_name.nd rfl (Or.inl rfl) (pe_op op_mod (pe_op op_fdiv (pv 0) pe_int) (pe_op op_add (pe_callB call_lenS rfl tx.z_len PySem.boot_len (pa_cons (pv 3) pa_nil)) pe_int)))
      (pss_cons (ps_set (i := 5) sc_law_name.nd rfl (Or.inl rfl) (pe_op op_catS (pe_op op_catS (pe_slice sl_txt (pv 3) po_none (po_some (pv 4))) (pe_ix ix_txt (pv 2) (pe_op op_mod (pe_op op_add (pv 0) (pv 1)) pe_int) (fun _ _ => rfl))) (pe_slice sl_txt (pv 3) (po_some (pv 4)) po_none)))
      (pss_cons (ps_if (pt_cmpR op_eq (pv 5) (pe_txt (l := [97, 108, 108]) (by decide +kernel)) (nomark _)) (pss_one (ps_ret (pe_txt (l := [97, 108, 108, 101]) (by decide +kernel)))) pss_nil)
      (pss_one (ps_ret (pv 5)))))))), ?_⟩
    walk_at "st"
    have h0 : 0 ≤ c / 3 % 8 := Int.emod_nonneg _ (by decide)
    have h1 : c / 3 % 8 < 8 := Int.emod_lt_of_pos _ (by decide)
    walk_at "rd"
    refine comp_map (onI fun i => ltr (c / (16 + 5 * i) % 26)) (hands_range 0 (c / 3 % 8).toNat) ?_ (fun x hx H' s' R hR => ?_) (fun D H2 hD s2 hDD => ?_)
    · rw [List.length_map, List.length_range]; omega
    · obtain ⟨k, hk, rfl⟩ := List.mem_map.mp hx
      have hk := List.mem_range.mp hk
      have ha := at_abc (c / (16 + 5 * (0 + (k : Int))) % 26) (Int.emod_nonneg _ (by decide)) (Int.emod_lt_of_pos _ (by decide))
      walk_at "rd"
      exact hR H' (Same.refl _)
    rw [rng_ones _ (fun i => ltr (c / (16 + 5 * i) % 26))] at hDD
    refine ⟨[], _, D, rfl, rfl, SqL.of hDD, ?_, ?_⟩
    · rw [sum_ones, List.length_map, List.length_nil, Nat.mul_zero, List.length_range]
      omega
    rw [joinN_nil, flat_ones]
    have hb := bodyF_len c
    have c1 := cut_len (bodyF c) none (some (c / 7 % ((bodyF c).length + 1)))
    have c2 := cut_len (bodyF c) (some (c / 7 % ((bodyF c).length + 1))) none
    have ha := at_abc ((c + p) % 26) (Int.emod_nonneg _ (by decide)) (Int.emod_lt_of_pos _ (by decide))
    have q' := q H2 s2
    clear q h0 h1 hD hDD s2
    show gName _ (T (bodyF c)) _ _ _
    unfold nameF at q'
    unfold nameF0 at q'
    generalize bodyF c = b at hb c1 c2 q' ⊢
    walk_at "rd"
    refine ite2 (fun e => ?_) (fun e => ?_)
    · have e' := T_inj (of_decide_eq_true e)
      rw [if_pos e'] at q'
      walk_at "rd"
      exact q'
    · have e' : ¬ cutN b none (some (c / 7 % ((b.length : Int) + 1))) ++ [ltr ((c + p) % 26)] ++ cutN b (some (c / 7 % ((b.length : Int) + 1))) none = [97, 108, 108] := fun z => e (decide_eq_true (by rw [z]))
      rw [if_neg e'] at q'
      walk_at "rd"
      exact q'


theorem g_law_rota (tx : Tx K mg C_Person C_House) : FnG P w K mg base "_law_rota" 2 ["_law_cell", "_law_many", "_law_days", "_law_marks"] sp_rota := by
  have G_law_stream := g_law_stream (P := P) (w := w) (base := base) tx
  refine tx.f_law_rota.g sc_law_rota (fun _ _ _ _ _ _ us hl => match us, hl with | [_, _, _, _], _ => rfl) (fun vs H Q E h => ?_) (fun f cdv A outer s H vs Q E hr h => ?_)
  · obtain ⟨c, m, d, ms, rfl, _⟩ := h
    rfl
  · obtain ⟨c, m, d, ms, rfl, m0, m1, d0, d1, l0, l1, q⟩ := h
    refine ⟨_, (pss_cons (ps_set (i := 4) sc_law_rota.nd rfl (Or.inr rfl) (pe_fn G_law_stream (hr.mono (by decide)) (pa_cons (pv 0) (pa_cons (pe_op op_mul (pv 1) (pv 2)) pa_nil))))
      (pss_cons (ps_set (i := 5) sc_law_rota.nd rfl (Or.inl rfl) (pe_lst pa_nil))
      (pss_cons (ps_for PassesOwn.never rfl (pi_range1 rfl tx.z_range (pa_cons (pv 1) pa_nil)) (pg_name (i := 6) sc_law_rota.nd rfl (Or.inr rfl)) (pss_cons (ps_setC (k := 7) (osc := defScope s_law_rota) (ON := ["_law_cell", "_law_many", "_law_days", "_law_marks", "_law_numbers", "_law_rota_here", "_law_p", "_law_row"]) (N := ["_law_day", "_law_marks", "_law_numbers", "_law_p", "_law_days"]) (js := [none, some 3, some 4, some 6, some 2]) sc_law_rota.nd rfl (Or.inl rfl) ⟨rfl, by decide +kernel, by decide +kernel, by decide +kernel, rfl, by decide +kernel⟩ rfl rfl rfl (pi_range1 rfl tx.z_range (pa_cons (pv 2) pa_nil)) (fun _ _ _ _ _ => pg_name (i := 0) (show List.Nodup (["_law_day", "_law_marks", "_law_numbers", "_law_p", "_law_days"] : List Str) from by decide +kernel) rfl (Or.inl rfl)) (fun _ _ _ _ _ => pifs_nil) (fun _ _ _ _ _ => (pe_ix ix_txt (pv 1) (pe_op op_mod (pe_ix (ix_listK (K := K) rfl) (pv 2) (pe_op op_add (pe_op op_mul (pv 3) (pv 4)) (pv 0)) (fun _ _ => rfl)) (pe_callB call_lenS rfl tx.z_len PySem.boot_len (pa_cons (pv 1) pa_nil))) (fun _ _ => rfl))))
      (pss_one (ps_expr (pe_bm PySem.F.plainAttrs_list PySem.F.slot_list_append PySem.F.type_list_append mt_append (pv 5) (pa_cons (pe_joinK (K := K) rfl (pe_txt (l := []) (by decide +kernel)) (pa_cons (pv 7) pa_nil)) pa_nil))))))
      (pss_one (ps_ret (pv 5)))))), ?_⟩
    walk_at "st"
    have md0 : 0 ≤ m * d := Int.mul_nonneg m0 (by omega)
    have md1 : m * d ≤ 112 := by
      have := Int.mul_le_mul m1 d1 (by omega) (by decide)
      omega
    walk_at "rd"
    intro nl H1 xs s1 nnl hn hxs
    walk_at "rd"
    intro rl hr
    have e1 : upd H1 rl (.lst []) nl = some (.lst (xs.map V.int)) := by rw [upd_ne (ne_of_none hn hr)]; exact hn
    have fr : H rl = none := s1.free hr
    walk_at "rd"
    refine for_range (n := m.toNat) (fun i σ H2 => Here (∃ (v1 v2 : Option V) (rows : List (List Nat)), σ = [some (.int c), some (.int m), some (.int d), some (T ms), some (.ref nl), some (.ref rl), v1, v2] ∧ rows.length = i ∧ (∀ r ∈ rows, (r.length : Int) = d ∧ ∀ x ∈ r, x ∈ ms) ∧ H2 rl = some (.lst (rows.map T)) ∧ H2 nl = some (.lst (xs.map V.int)) ∧ Same H H2))
      (Here.mk ⟨none, none, [], rfl, rfl, fun r hr => (by simp at hr), upd_same, e1, s1.trans (same_new hr _)⟩) ?_ ?_
    · rintro i σ H2 hi hv
      obtain ⟨v1, v2, rows, rfl, hl, hrows, h2r, h2n, s2⟩ := hv.out
      have hlen : (rows.map T).length ≤ 100 := by rw [List.length_map]; omega
      walk_at "rd"
      refine comp_all (fun _ y => ∃ z, y = T [z] ∧ z ∈ ms) (hands_range 0 d.toNat) ?_ (fun x hx H' s' R hR => ?_) (fun D H3 ys hD s3 hys hP hDD => ?_)
      · rw [List.length_map, List.length_range]; omega
      · obtain ⟨k, hk, rfl⟩ := List.mem_map.mp hx
        have hk := List.mem_range.mp hk
        have hm2 : ((i : Int) + 1) * d ≤ m * d := Int.mul_le_mul_of_nonneg_right (by omega) (by omega)
        rw [Int.add_mul, Int.one_mul] at hm2
        have hid : 0 ≤ (i : Int) * d := Int.mul_nonneg (by omega) (by omega)
        obtain ⟨z, hz, _⟩ := at_int xs ((0 + (i : Int)) * d + (0 + (k : Int))) (by rw [Int.zero_add]; omega) (by rw [Int.zero_add]; omega)
        obtain ⟨y, hy, hy2⟩ := at_some ms (z % (ms.length : Int)) (Int.emod_nonneg _ (by omega)) (Int.emod_lt_of_pos _ (by omega))
        have h2n' := s' _ _ h2n
        walk_at "rd"
        exact hR _ H' ⟨y, rfl, List.mem_of_getElem? hy2⟩ (Same.refl _)
      rw [List.length_map, List.length_range] at hys
      have hall : ∀ y ∈ ys, ∃ z, y = T [z] ∧ z ∈ ms := fun y hy => by
        obtain ⟨j, hj, rfl⟩ := List.mem_iff_getElem.mp hy
        exact hP j _ _ (List.getElem?_eq_getElem (by rw [List.length_map, List.length_range]; omega)) (List.getElem?_eq_getElem hj)
      obtain ⟨l, rfl, hcs⟩ := ones_txt (ys := ys) fun y hy => let ⟨z, e, _⟩ := hall y hy; ⟨z, e⟩
      have hlm : ∀ x ∈ l, x ∈ ms := fun x hx => by
        obtain ⟨z, e, hz⟩ := hall (T [x]) (by rw [List.map_map]; exact List.mem_map.mpr ⟨x, hx, rfl⟩)
        have e' : [x] = [z] := T_inj e
        rw [List.head_eq_of_cons_eq e']
        exact hz
      have h3r := s3 _ _ h2r
      have h3n := s3 _ _ h2n
      have hjl : (((l.map fun c => [c]).map List.length).sum + (l.map fun c => [c]).length * ([] : List Nat).length ≤ 16777216) := by
        rw [sum_ones, List.length_map, List.length_nil, Nat.mul_zero]
        omega
      have hD3 : SqL K H3 D ((l.map fun c => [c]).map T) := SqL.of hDD
      walk_at "rd"
      rw [joinN_nil, flat_ones]
      have nnr : nl ≠ rl := ne_of_none hn hr
      refine Here.mk ⟨_, _, rows ++ [l], rfl, by rw [List.length_append, List.length_singleton, hl], fun r hr => ?_, ?_, ?_, (s2.trans s3).upd fr⟩
      · rcases List.mem_append.mp hr with hr | hr
        · exact hrows r hr
        · obtain rfl := List.mem_singleton.mp hr
          exact ⟨by omega, hlm⟩
      · rw [upd_same, List.map_append]
        rfl
      · rw [upd_ne nnr]
        exact h3n
    · rintro σ H2 hv
      obtain ⟨v1, v2, rows, rfl, hl, hrows, h2r, h2n, s2⟩ := hv.out
      walk_at "rd"
      exact q rl H2 rows s2 fr h2r (by omega) hrows


theorem g_law_some (tx : Tx K mg C_Person C_House) : FnG P w K mg base "_law_some" 1 ["_law_signs", "_law_number"] sp_some := by
  refine tx.f_law_some.g sc_law_some (fun _ _ _ _ _ _ us hl => match us, hl with | [_, _], _ => rfl) (fun vs H Q E h => ?_) (fun f cdv A outer s H vs Q E hr h => ?_)
  · obtain ⟨l, n, rfl, _⟩ := h
    rfl
  · obtain ⟨l, n, rfl, hl, q⟩ := h
    refine ⟨_, (pss_cons (ps_set (i := 2) sc_law_some.nd rfl (Or.inl rfl) (pe_joinK (K := K) rfl (pe_txt (l := []) (by decide +kernel)) (pa_cons (pe_comp (osc := defScope s_law_some) (ON := ["_law_signs", "_law_number", "_law_found"]) (N := ["_law_k", "_law_signs", "_law_number"]) (js := [none, some 0, some 1]) ⟨rfl, by decide +kernel, by decide +kernel, by decide +kernel, rfl, by decide +kernel⟩ rfl rfl rfl (pi_range1 rfl tx.z_range (pa_cons (pe_callB call_lenS rfl tx.z_len PySem.boot_len (pa_cons (pv 0) pa_nil)) pa_nil)) (fun _ _ _ _ _ => pg_name (i := 0) (show List.Nodup (["_law_k", "_law_signs", "_law_number"] : List Str) from by decide +kernel) rfl (Or.inl rfl)) (fun _ _ _ _ _ => pifs_one (pt_cmpR op_eq (pe_op op_and (pe_op op_shr (pv 2) (pv 0)) pe_int) pe_int (nomark _))) (fun _ _ _ _ _ => (pe_ix ix_txt (pv 1) (pv 0) (fun _ _ => rfl)))) pa_nil)))
      (pss_cons (ps_if (pt_cmpR op_eq (pe_op op_and (pe_op op_shr (pv 1) (pe_callB call_lenS rfl tx.z_len PySem.boot_len (pa_cons (pv 0) pa_nil))) pe_int) pe_int (nomark _)) (pss_one (ps_ret (pe_rev (pv 2) (pe_un un_neg pe_int)))) pss_nil)
      (pss_one (ps_ret (pv 2))))), ?_⟩
    walk_at "st"
    walk_at "rd"
    refine comp_hands ((List.range l.length).map fun (i : Nat) => (0 + (i : Int))) (fun i => decide (V.int (Builtin.bitAnd (n / 2 ^ i.toNat) 1) = V.int 1)) (fun _ y _ => ∃ c, y = T [c]) (fun σ => ∃ v, σ = [v, some (T l), some (.int n)]) (hands_range 0 l.length) ?_ ?_ ⟨_, rfl⟩ (fun _ _ _ _ _ z => z) (fun i a v σ H' ha hv hσ s' Rf Rt hF hR => ?_) (fun D H2 ys hD s2 hys hDD => ?_)
    · rw [List.length_map, List.length_map]
    · rw [List.length_map, List.length_range]; omega
    · obtain ⟨w, rfl⟩ := hσ
      rw [List.getElem?_map] at ha hv
      have hi : i < l.length := by
        cases e : (List.range l.length)[i]? with
        | none => rw [e] at ha; cases ha
        | some j => have := (List.getElem?_eq_some_iff.mp e).1; rw [List.length_range] at this; exact this
      rw [List.getElem?_range hi] at ha hv
      cases ha
      cases hv
      obtain ⟨c, hc, _⟩ := at_some l (0 + (i : Int)) (by omega) (by omega)
      have i0 : (0 : Int) ≤ 0 + (i : Int) := by omega
      walk_at "rd"
      refine ite2 (fun e => ?_) (fun e => ?_)
      · walk_at "rd"
        exact hR _ _ _ e ⟨_, rfl⟩ (Same.refl _) ⟨c, rfl⟩
      · exact hF _ _ (Bool.eq_false_iff.mpr e) ⟨_, rfl⟩ (Same.refl _)
    have hlen := hys.len
    have hfl := List.length_filter_le (fun i : Int => decide (V.int (Builtin.bitAnd (n / 2 ^ i.toNat) 1) = V.int 1)) ((List.range l.length).map fun (i : Nat) => (0 + (i : Int)))
    rw [List.length_map, List.length_range] at hfl
    obtain ⟨cs, rfl, hcs⟩ := ones_txt (ys := ys) fun y hy => by
      obtain ⟨i, hi, rfl⟩ := List.mem_iff_getElem.mp hy
      obtain ⟨a, _, h⟩ := hys.back (List.getElem?_eq_getElem hi)
      exact h
    have hjl : (((cs.map fun c => [c]).map List.length).sum + (cs.map fun c => [c]).length * ([] : List Nat).length ≤ 16777216) := by
      rw [sum_ones, List.length_map, List.length_nil, Nat.mul_zero]
      omega
    have hD3 : SqL K H2 D ((cs.map fun c => [c]).map T) := SqL.of hDD
    have l0 : (0 : Int) ≤ (l.length : Int) := by omega
    walk_at "rd"
    rw [joinN_nil, flat_ones]
    walk_at "rd"
    have hcs' : cs.length ≤ l.length := by omega
    have hcs2 : cs.length ≤ 1000 := by omega
    refine ite2 (fun e => ?_) (fun e => ?_)
    · walk_at "rd"
      exact q cs.reverse H2 s2 (by rw [List.length_reverse]; exact hcs')
    · walk_at "rd"
      exact q cs H2 s2 hcs'


theorem g_law_needs (tx : Tx K mg C_Person C_House) : FnG P w K mg base "_law_needs" 2 ["_law_cell", "_law_days", "_law_kinds_here"] sp_needs := by
  have G_law_stream := g_law_stream (P := P) (w := w) (base := base) tx
  refine tx.f_law_needs.g sc_law_needs (fun _ _ _ _ _ _ us hl => match us, hl with | [_, _, _], _ => rfl) (fun vs H Q E h => ?_) (fun f cdv A outer s H vs Q E hr h => ?_)
  · obtain ⟨c, d, ks, rfl, _⟩ := h
    rfl
  · obtain ⟨c, d, ks, rfl, d0, d1, hk, q⟩ := h
    refine ⟨_, (pss_cons (ps_set (i := 3) sc_law_needs.nd rfl (Or.inl rfl) (pe_lst pa_nil))
      (pss_cons (ps_set (i := 4) sc_law_needs.nd rfl (Or.inl rfl) (pe_fn G_law_stream (hr.mono (by decide)) (pa_cons (pv 0) (pa_cons (pe_op op_mul (pv 1) (pe_callB call_lenS rfl tx.z_len PySem.boot_len (pa_cons (pv 2) pa_nil))) pa_nil))))
      (pss_cons (ps_for PassesOwn.never rfl (pi_range1 rfl tx.z_range (pa_cons (pv 1) pa_nil)) (pg_name (i := 5) sc_law_needs.nd rfl (Or.inl rfl)) (pss_one (ps_for PassesOwn.never rfl (pi_range1 rfl tx.z_range (pa_cons (pe_callB call_lenS rfl tx.z_len PySem.boot_len (pa_cons (pv 2) pa_nil)) pa_nil)) (pg_name (i := 6) sc_law_needs.nd rfl (Or.inl rfl)) (pss_cons (ps_set (i := 7) sc_law_needs.nd rfl (Or.inl rfl) (pe_ix (ix_listK (K := K) rfl) (pv 4) (pe_op op_add (pe_op op_mul (pv 5) (pe_callB call_lenS rfl tx.z_len PySem.boot_len (pa_cons (pv 2) pa_nil))) (pv 6)) (fun _ _ => rfl)))
      (pss_cons (ps_set (i := 8) sc_law_needs.nd rfl (Or.inl rfl) (pe_op op_mod (pe_op op_fdiv (pv 7) pe_int) pe_int))
      (pss_one (ps_if (pt_cmpR op_gt (pe_op op_mod (pv 7) pe_int) pe_int (nomark _)) (pss_one (ps_expr (pe_bm PySem.F.plainAttrs_list PySem.F.slot_list_append PySem.F.type_list_append mt_append (pv 3) (pa_cons (pe_tup (pa_cons (pv 5) (pa_cons (pe_ix ix_txt (pv 2) (pv 6) (fun _ _ => rfl)) (pa_cons (pe_op op_mod (pe_op op_fdiv (pv 7) pe_int) (pe_op op_add (pv 8) pe_int)) (pa_cons (pv 8) pa_nil))))) pa_nil)))) pss_nil)))))))
      (pss_one (ps_ret (pv 3)))))), ?_⟩
    walk_at "st"
    clear G_law_stream
    have kl0 : (0 : Int) ≤ (ks.length : Int) := by omega
    have md0 : 0 ≤ d * (ks.length : Int) := Int.mul_nonneg (by omega) kl0
    have md1 : d * (ks.length : Int) ≤ 56 := by
      have := Int.mul_le_mul d1 (show (ks.length : Int) ≤ 4 by omega) kl0 (by decide)
      omega
    walk_at "rd"
    intro fl nfl
    obtain ⟨H1, e1, hfl1, s1⟩ : ∃ H1, H1 = upd H fl (.lst []) ∧ H1 fl = some (.lst []) ∧ Same H H1 := ⟨_, rfl, upd_same, same_new nfl _⟩
    rw [← e1]
    walk_at "rd"
    intro nl H2 ns s2 nnl hnl hns
    have hfl2 := s2 _ _ hfl1
    have nne : nl ≠ fl := (ne_of_none hfl1 nnl).symm
    walk_at "rd"
    refine for_range (n := d.toNat) (fun i σ H3 => Here (∃ v1 v2 v3 v4 nds xs, σ = [some (.int c), some (.int d), some (T ks), some (.ref fl), some (.ref nl), v1, v2, v3, v4] ∧ H3 fl = some (.lst xs) ∧ All2 NdAt H3 nds xs ∧ xs.length ≤ 4 * i ∧ H3 nl = some (.lst (ns.map V.int)) ∧ Same H H3)) (Here.mk ⟨none, none, none, none, [], [], rfl, hfl2, trivial, Nat.zero_le _, hnl, s1.trans s2⟩) ?_ ?_
    · rintro i σ H3 hi hv
      obtain ⟨v1, v2, v3, v4, nds, xs, rfl, hfl3, hA3, hx3, hnl3, s3⟩ := hv.out
      walk_at "rd"
      refine for_range (n := ks.length) (fun j σ H4 => Here (∃ v2 v3 v4 nds xs, σ = [some (.int c), some (.int d), some (T ks), some (.ref fl), some (.ref nl), some (.int (0 + (i : Int))), v2, v3, v4] ∧ H4 fl = some (.lst xs) ∧ All2 NdAt H4 nds xs ∧ xs.length ≤ 4 * i + j ∧ H4 nl = some (.lst (ns.map V.int)) ∧ Same H H4)) (Here.mk ⟨_, _, _, nds, xs, rfl, hfl3, hA3, by omega, hnl3, s3⟩) ?_ ?_
      · rintro j σ H4 hj hv
        obtain ⟨v2, v3, v4, nds, xs, rfl, hfl4, hA4, hx4, hnl4, s4⟩ := hv.out
        have hm2 : ((i : Int) + 1) * (ks.length : Int) ≤ d * (ks.length : Int) := Int.mul_le_mul_of_nonneg_right (by omega) kl0
        rw [Int.add_mul, Int.one_mul] at hm2
        have hid : 0 ≤ (i : Int) * (ks.length : Int) := Int.mul_nonneg (by omega) kl0
        obtain ⟨z, hz, _⟩ := at_int ns ((0 + (i : Int)) * (ks.length : Int) + (0 + (j : Int))) (by rw [Int.zero_add]; omega) (by rw [Int.zero_add]; omega)
        obtain ⟨k, hk1, _⟩ := at_some ks (0 + (j : Int)) (by omega) (by omega)
        have m0 : 0 ≤ z / 3 % 9 := Int.emod_nonneg _ (by decide)
        have m1 : z / 3 % 9 < 9 := Int.emod_lt_of_pos _ (by decide)
        have hxl : xs.length ≤ 100 := by omega
        walk_at "rd"
        refine ite2 (fun e => ?_) (fun e => ?_)
        · walk_at "rd"
          intro t ht
          obtain ⟨H5, e5, ht5, s5⟩ : ∃ H5, H5 = upd H4 t (.tup [.int (0 + (i : Int)), T [k], .int (z / 27 % (z / 3 % 9 + 1)), .int (z / 3 % 9)]) ∧ H5 t = some (.tup [.int (0 + (i : Int)), T [k], .int (z / 27 % (z / 3 % 9 + 1)), .int (z / 3 % 9)]) ∧ Same H4 H5 := ⟨_, rfl, upd_same, same_new ht _⟩
          rw [← e5]
          have hfl5 := s5 _ _ hfl4
          walk_at "rd"
          have kk : Keeps H5 (upd H5 fl (.lst (xs ++ [.ref t]))) := keeps_lst hfl5
          refine Here.mk ⟨_, _, _, nds ++ [⟨0 + (i : Int), k, z / 27 % (z / 3 % 9 + 1), z / 3 % 9⟩], xs ++ [.ref t], rfl, upd_same, All2.snoc (hA4.imp fun a y => NdAt.keeps a y _ _ (s5.keeps.trans kk)) ⟨t, rfl, kk _ _ ht5 (fun zs z => by cases z)⟩, by rw [List.length_append, List.length_singleton]; omega, ?_, (s4.trans s5).upd nfl⟩
          rw [upd_ne nne]
          exact s5 _ _ hnl4
        · exact Here.mk ⟨_, _, _, nds, xs, rfl, hfl4, hA4, by omega, hnl4, s4⟩
      · rintro σ H4 hv
        obtain ⟨v2, v3, v4, nds, xs, rfl, hfl4, hA4, hx4, hnl4, s4⟩ := hv.out
        exact Here.mk ⟨_, _, _, _, nds, xs, rfl, hfl4, hA4, by omega, hnl4, s4⟩
    · rintro σ H3 hv
      obtain ⟨v1, v2, v3, v4, nds, xs, rfl, hfl3, hA3, hx3, hnl3, s3⟩ := hv.out
      walk_at "rd"
      exact q fl H3 nds xs s3 nfl hfl3 hA3

end
section
variable {P : Program} {w : World} {K : PySem.W.Frag} {mg : Str → Option Value} {base : Heap} {C_Person C_House : Addr}
local macro_rules | `(tactic| walk_at "lk") => `(tactic| first | exact lP_name _ _ _ _ _ | exact lP_skills _ _ _ _ _ | exact lP_most _ _ _ _ _ | exact lP_past _ _ _ _ _ | exact lH_persons _ _ _ _ _ _ _ _ | exact lH_needs _ _ _ _ _ _ _ _ | exact lH_leave _ _ _ _ _ _ _ _ | exact lH_kinds _ _ _ _ _ _ _ _ | exact lH_rules _ _ _ _ _ _ _ _ | exact lH_pairs _ _ _ _ _ _ _ _ | exact lH_days _ _ _ _ _ _ _ _ | exact lH_need _ _ _ _ _ _ _ _ | exact lH_rules_for _ _ _ _ _ _ _ _ | exact Or.inr (SqT.of (by with_reducible assumption)))

theorem g_law_need_by (tx : Tx K mg C_Person C_House) : FnG P w K mg base "_law_need_by" 1 ["_law_needs_here", "_law_day", "_law_kind"] (sp_needby K) := by
  refine tx.f_law_need_by.g sc_law_need_by (fun _ _ _ _ _ _ us hl => match us, hl with | [_, _, _], _ => rfl) (fun vs H Q E h => ?_) (fun f cdv A outer s H vs Q E hr h => ?_)
  · obtain ⟨h, d, k, nds, xs, rfl, _⟩ := h
    rfl
  · obtain ⟨h, d, k, nds, xs, rfl, h2, h3, q⟩ := h
    refine ⟨_, (pss_cons (ps_for PassesOwn.never rfl (pi_listK (K := K) rfl (pv 0)) (pg_tup rfl (pgs_cons (pg_name (i := 3) sc_law_need_by.nd rfl (Or.inl rfl)) (pgs_cons (pg_name (i := 4) sc_law_need_by.nd rfl (Or.inl rfl)) (pgs_cons (pg_name (i := 5) sc_law_need_by.nd rfl (Or.inl rfl)) (pgs_cons (pg_name (i := 6) sc_law_need_by.nd rfl (Or.inl rfl)) pgs_nil))))) (pss_one (ps_if (PW.pt (pw_and (pt_cmpR op_eq (pv 3) (pv 1) (nomark _)) (pw_and1 (pt_cmpR op_eq (pv 4) (pv 2) (nomark _))))) (pss_one (ps_ret (pe_tup (pa_cons (pv 5) (pa_cons (pv 6) pa_nil))))) pss_nil)))
      (pss_one (ps_ret (pe_tup (pa_cons pe_int (pa_cons pe_int pa_nil)))))), ?_⟩
    walk_at "st"
    walk_at "rd"
    refine for_list (K := K) (xs := xs) (fun i σ H2 => Here (∃ v1 v2 v3 v4, σ = [some (.ref h), some (.int d), some (T [k]), v1, v2, v3, v4] ∧ (∀ j < i, ∀ n, nds[j]? = some n → ¬ (n.day = d ∧ n.kind = k)) ∧ H2 = H)) (Here.mk ⟨none, none, none, none, rfl, fun j hj => absurd hj (Nat.not_lt_zero _), rfl⟩) (fun i σ H2 _ hv => by obtain ⟨_, _, _, _, _, _, e⟩ := hv.out; rw [e]; exact SqL.of h2) ?_ ?_
    · rintro i x σ H2 hx hv
      obtain ⟨v1, v2, v3, v4, rfl, hno, rfl⟩ := hv.out
      obtain ⟨n, hn, t, rfl, ht⟩ := h3.back hx
      walk_at "rd"
      refine ite2 (fun e1 => ?_) (fun e1 => ?_)
      · have e1' : n.day = d := by have := of_decide_eq_true e1; injection this
        walk_at "rd"
        refine ite2 (fun e2 => ?_) (fun e2 => ?_)
        · have e2' : n.kind = k := by have := T_inj (of_decide_eq_true e2); simpa using this
          walk_at "rd"
          intro t2 ht2
          refine q t2 _ (same_new ht2 _) ?_
          rw [upd_same, needF_hit hno hn ⟨e1', e2'⟩]
        · have e2' : ¬ n.kind = k := fun z => e2 (decide_eq_true (by rw [z]))
          refine Here.mk ⟨_, _, _, _, rfl, fun j hj m hm => ?_, rfl⟩
          rcases Nat.lt_or_ge j i with z | z
          · exact hno j z m hm
          · have : j = i := by omega
            subst this
            rw [hn] at hm
            cases hm
            exact fun z => e2' z.2
      · have e1' : ¬ n.day = d := fun z => e1 (decide_eq_true (by rw [z]))
        walk_at "rd"
        refine Here.mk ⟨_, _, _, _, rfl, fun j hj m hm => ?_, rfl⟩
        rcases Nat.lt_or_ge j i with z | z
        · exact hno j z m hm
        · have : j = i := by omega
          subst this
          rw [hn] at hm
          cases hm
          exact fun z => e1' z.1
    · rintro σ H2 hv
      obtain ⟨v1, v2, v3, v4, rfl, hno, rfl⟩ := hv.out
      walk_at "rd"
      intro t2 ht2
      refine q t2 _ (same_new ht2 _) ?_
      rw [upd_same, needF_none (by rw [← h3.len]; exact hno)]


theorem g_duties_in (tx : Tx K mg C_Person C_House) : FnG P w K mg base "duties_in" 1 ["marks"] sp_dut := by
  refine tx.f_duties_in.g sc_duties_in (fun _ _ _ _ _ _ us hl => match us, hl with | [_], _ => rfl) (fun vs H Q E h => ?_) (fun f cdv A outer s H vs Q E hr h => ?_)
  · obtain ⟨l, rfl, _⟩ := h
    rfl
  · obtain ⟨l, rfl, hl, q⟩ := h
    refine ⟨_, (pss_one (ps_ret (pe_callB (call_len_seqK (K := K) rfl) rfl tx.z_len PySem.boot_len (pa_cons (pe_comp (osc := defScope s_duties_in) (ON := ["marks"]) (N := ["mark"]) (js := [none]) ⟨rfl, by decide +kernel, by decide +kernel, by decide +kernel, rfl, by decide +kernel⟩ rfl rfl rfl (pi_txt (pv 0)) (fun _ _ _ _ _ => pg_name (i := 0) (show List.Nodup (["mark"] : List Str) from by decide +kernel) rfl (Or.inl rfl)) (fun _ _ _ _ _ => pifs_one (pt_cmpR op_ne (pv 0) (pe_txt (l := [45]) (by decide +kernel)) (nomark _))) (fun _ _ _ _ _ => (pv 0))) pa_nil)))), ?_⟩
    walk_at "st"
    walk_at "rd"
    refine comp_by (fun x => !decide (x = T [45])) (fun x => x) (hands_txt l) ?_ (fun x hx H' s' R hR => ?_) (fun x hx hp H' s' R hR => ?_) (fun D H' hD s' hDD => ?_)
    · rw [List.length_map]; omega
    · obtain ⟨k, _, rfl⟩ := List.mem_map.mp hx
      walk_at "rd"
      exact hR H' (Same.refl _)
    · walk_at "rd"
      exact hR H' (Same.refl _)
    refine ⟨D, _, rfl, .inl (SqL.of hDD), ?_⟩
    rw [dut_txt]
    exact q H' s'


theorem g_need (tx : Tx K mg C_Person C_House) : MtG P w K mg base C_House "need" 1 ["self", "day", "kind"] (sp_need C_Person C_House) := by
  refine tx.m_House_need.g tx.c_House.cl sc_House_need (fun _ _ _ _ _ _ us hl => match us, hl with | [_, _, _], _ => rfl) (fun vs H Q E h => ?_) (fun f cdv A outer s H vs Q E hr h => ?_)
  · obtain ⟨h, d, k, dd, ks, nds, pns, ls, rfl, _⟩ := h
    rfl
  · obtain ⟨h, d, k, dd, ks, nds, pns, ls, rfl, ⟨a1, a2, a3, a4, a5, a6, xs, ys, zs, ⟨dx, h1⟩, h2, h3, _⟩, q⟩ := h
    refine ⟨_, (pss_cons (ps_for PassesOwn.never rfl (pi_listK (K := K) rfl (pe_fldK (K := K) rfl (pv 0) rfl)) (pg_tup rfl (pgs_cons (pg_name (i := 3) sc_House_need.nd rfl (Or.inl rfl)) (pgs_cons (pg_name (i := 4) sc_House_need.nd rfl (Or.inl rfl)) (pgs_cons (pg_name (i := 5) sc_House_need.nd rfl (Or.inl rfl)) (pgs_cons (pg_name (i := 6) sc_House_need.nd rfl (Or.inl rfl)) pgs_nil))))) (pss_one (ps_if (PW.pt (pw_and (pt_cmpR op_eq (pv 3) (pv 1) (nomark _)) (pw_and1 (pt_cmpR op_eq (pv 4) (pv 2) (nomark _))))) (pss_one (ps_ret (pe_tup (pa_cons (pv 5) (pa_cons (pv 6) pa_nil))))) pss_nil)))
      (pss_one (ps_ret (pe_tup (pa_cons pe_int (pa_cons pe_int pa_nil)))))), ?_⟩
    walk_at "st"
    have cH := tx.c_House.cl
    have nH := tx.n_House_needs
    walk_at "rd"
    refine for_list (K := K) (xs := xs) (fun i σ H2 => Here (∃ v1 v2 v3 v4, σ = [some (.ref h), some (.int d), some (T [k]), v1, v2, v3, v4] ∧ (∀ j < i, ∀ n, nds[j]? = some n → ¬ (n.day = d ∧ n.kind = k)) ∧ H2 = H)) (Here.mk ⟨none, none, none, none, rfl, fun j hj => absurd hj (Nat.not_lt_zero _), rfl⟩) (fun i σ H2 _ hv => by obtain ⟨_, _, _, _, _, _, e⟩ := hv.out; rw [e]; exact SqL.of h2) ?_ ?_
    · rintro i x σ H2 hx hv
      obtain ⟨v1, v2, v3, v4, rfl, hno, rfl⟩ := hv.out
      obtain ⟨n, hn, t, rfl, ht⟩ := h3.back hx
      have nx : ¬ (n.day = d ∧ n.kind = k) → ∀ j < i + 1, ∀ m, nds[j]? = some m → ¬ (m.day = d ∧ m.kind = k) := fun z j hj m hm => by
        rcases Nat.lt_or_ge j i with y | y
        · exact hno j y m hm
        · have : j = i := by omega
          subst this
          rw [hn] at hm
          cases hm
          exact z
      walk_at "rd"
      refine ite2 (fun e1 => ?_) (fun e1 => ?_)
      · have e1' : n.day = d := by have := of_decide_eq_true e1; injection this
        walk_at "rd"
        refine ite2 (fun e2 => ?_) (fun e2 => ?_)
        · have e2' : n.kind = k := by have := T_inj (of_decide_eq_true e2); simpa using this
          walk_at "rd"
          intro t2 ht2
          refine q t2 _ (same_new ht2 _) ?_
          rw [upd_same, needF_hit hno hn ⟨e1', e2'⟩]
        · exact Here.mk ⟨_, _, _, _, rfl, nx fun z => e2 (decide_eq_true (by rw [z.2])), rfl⟩
      · walk_at "rd"
        exact Here.mk ⟨_, _, _, _, rfl, nx fun z => e1 (decide_eq_true (by rw [z.1])), rfl⟩
    · rintro σ H2 hv
      obtain ⟨v1, v2, v3, v4, rfl, hno, rfl⟩ := hv.out
      walk_at "rd"
      intro t2 ht2
      refine q t2 _ (same_new ht2 _) ?_
      rw [upd_same, needF_none (by rw [← h3.len]; exact hno)]

theorem g_rules_for (tx : Tx K mg C_Person C_House) : MtG P w K mg base C_House "rules_for" 1 ["self", "p"] (sp_rfor C_Person C_House) := by
  refine tx.m_House_rules_for.g tx.c_House.cl sc_House_rules_for (fun _ _ _ _ _ _ us hl => match us, hl with | [_, _], _ => rfl) (fun vs H Q E h => ?_) (fun f cdv A outer s H vs Q E hr h => ?_)
  · obtain ⟨h, p, dd, ks, nds, pns, ls, rfl, _⟩ := h
    rfl
  · obtain ⟨h, p, dd, ks, nds, pns, ls, rfl, ⟨a1, a2, a3, a4, a5, a6, xs, ys, zs, ⟨dx, h1⟩, h2, h3, h4, h5, h6, h7, h8, h9⟩, p0, p1, q⟩ := h
    refine ⟨_, (pss_cons (ps_set (i := 2) sc_House_rules_for.nd rfl (Or.inr rfl) (pe_tup (pa_cons (pe_txt (l := [97, 108, 108]) (by decide +kernel)) (pa_cons (pe_fldK (K := K) rfl (pe_ix (ix_listK (K := K) rfl) (pe_fldK (K := K) rfl (pv 0) rfl) (pv 1) (fun _ _ => rfl)) rfl) pa_nil))))
      (pss_one (ps_ret (pe_comp (osc := defScope s_House_rules_for) (ON := ["self", "p", "names"]) (N := ["number", "told", "names"]) (js := [none, none, some 2]) ⟨rfl, by decide +kernel, by decide +kernel, by decide +kernel, rfl, by decide +kernel⟩ rfl rfl rfl (pi_enumLK (K := K) rfl rfl tx.z_enumerate (pa_cons (pe_fldK (K := K) rfl (pv 0) rfl) pa_nil)) (fun _ _ _ _ _ => pg_two (K := K) (i := 0) (j := 1) rfl rfl (show List.Nodup (["number", "told", "names"] : List Str) from by decide +kernel) rfl rfl (Or.inl rfl) (Or.inl rfl)) (fun _ _ _ _ _ => pifs_one pt_nev) (fun _ _ _ _ _ => pe_nev))))), ?_⟩
    walk_at "st"
    have cH := tx.c_House.cl
    have nH1 := tx.n_House_persons
    have nH2 := tx.n_House_rules
    have cP := tx.c_Person.cl
    have nP := tx.n_Person_name
    have hn : pns[p.toNat]? = some pns[p.toNat] := List.getElem?_eq_getElem (by omega)
    obtain ⟨y, hy, pa, rfl, ⟨dxp, hp⟩, _⟩ := h5.get hn
    have hix : atI ys p = some (.ref pa) := by have := atI_nat hy; rwa [Int.toNat_of_nonneg p0] at this
    walk_at "rd"
    intro t ht
    have s1 : Same H (upd H t (.tup [T [97, 108, 108], T (pns[p.toNat]).nm])) := same_new ht _
    have k1 := s1 _ _ h1
    have k8 := s1 _ _ h8
    walk_at "rd"
    refine comp_enumG (α := Unit) [] (fun _ => true) (fun _ _ _ => True) (fun _ => True) (SqL.of k8) rfl (by decide) trivial (fun _ _ _ _ _ z => z) (fun i a v q σ H' ha => by simp at ha) (fun D H' ys hD s' hys hDD => ?_)
    cases ys with
    | nil => exact q D H' (s1.trans s') hDD
    | cons y r => exact hys.elim

theorem g_on_duty (tx : Tx K mg C_Person C_House) : FnG P w K mg base "on_duty" 1 ["house", "rota", "day"] (sp_on C_Person C_House) := by
  refine tx.f_on_duty.g sc_on_duty (fun _ _ _ _ _ _ us hl => match us, hl with | [_, _, _], _ => rfl) (fun vs H Q E h => ?_) (fun f cdv A outer s H vs Q E hr h => ?_)
  · obtain ⟨h, r, d, dd, ks, nds, ps, ls, rows, rfl, _⟩ := h
    rfl
  · obtain ⟨h, r, d, dd, ks, nds, ps, ls, rows, rfl, ⟨a1, a2, a3, a4, a5, a6, xs, ys, zs, ⟨dx, h1⟩, h2, h3, h4, h5, _⟩, hr1, hl, hp8, hR, q⟩ := h
    refine ⟨_, (pss_one (ps_ret (pe_comp (osc := defScope s_on_duty) (ON := ["house", "rota", "day"]) (N := ["person", "row", "day"]) (js := [none, none, some 2]) ⟨rfl, by decide +kernel, by decide +kernel, by decide +kernel, rfl, by decide +kernel⟩ rfl rfl rfl (pi_zipLK (K := K) rfl rfl tx.z_zip (pa_cons (pe_fldK (K := K) rfl (pv 0) rfl) (pa_cons (pv 1) pa_nil))) (fun _ _ _ _ _ => pg_two (K := K) (i := 0) (j := 1) rfl rfl (show List.Nodup (["person", "row", "day"] : List Str) from by decide +kernel) rfl rfl (Or.inl rfl) (Or.inl rfl)) (fun _ _ _ _ _ => pifs_one (pt_cmpR op_ne (pe_ix ix_txt (pv 1) (pv 2) (fun _ _ => rfl)) (pe_txt (l := [45]) (by decide +kernel)) (nomark _))) (fun _ _ _ _ _ => (pe_tup (pa_cons (pv 0) (pa_cons (pv 1) pa_nil))))))), ?_⟩
    walk_at "st"
    have cH := tx.c_House.cl
    have nH := tx.n_House_persons
    have hyl := h5.len
    walk_at "rd"
    refine comp_zipLG (ps.zip rows) (onB d) (OnT C_Person) (fun σ => ∃ v1 v2, σ = [v1, v2, some (.int d)]) (SqL.of h4) (SqL.of hr1) ?_ ?_ ?_ ⟨_, _, rfl⟩ (fun a y Ha Hb k h => OnT.keeps a y Ha Hb k h) (fun i a u v p σ H' ha hu hv hσ s' hp Rf Rt hF hR' => ?_) (fun D H' ys hD s' hys hDD => ?_)
    · rw [List.length_zip]; omega
    · rw [List.length_zip, List.length_map]; omega
    · rw [List.length_zip]; omega
    · obtain ⟨v1, v2, rfl⟩ := hσ
      obtain ⟨n, row⟩ := a
      obtain ⟨hn, hrow⟩ := List.getElem?_zip_eq_some.mp ha
      obtain ⟨y, hy, pa, rfl, hpa, _⟩ := h5.get hn
      rw [hu] at hy
      cases hy
      rw [List.getElem?_map, hrow] at hv
      cases hv
      obtain ⟨hd, hrl⟩ := hR.2 row (List.mem_of_getElem? hrow)
      have e := mk_at hR.1 hd
      have s2 : Same H' (upd H' p (.tup [V.ref pa, T row])) := same_new hp _
      walk_at "rd"
      refine ite2 (fun c => ?_) (fun c => ?_)
      · walk_at "rd"
        intro t ht
        have s3 := s2.trans (same_new ht (.tup [V.ref pa, T row]))
        refine hR' _ _ _ ?_ ⟨_, _, rfl⟩ s3 ⟨t, pa, rfl, upd_same, hpa.keeps (s'.trans s3).keeps⟩
        unfold onB
        rw [decide_eq_false fun z => ?_]
        · rfl
        · have z' : mkA row d = 45 := z
          rw [z'] at c
          exact absurd c (by decide)
      · refine hF _ _ ?_ ⟨_, _, rfl⟩ s2
        unfold onB
        have : mkA row d = 45 := Decidable.byContradiction fun z => c (by rw [decide_eq_false fun y => z (by simpa using T_inj y)]; rfl)
        rw [decide_eq_true this]
        rfl
    · exact q D H' ys s' hD hDD hys

theorem g_skill_faults (tx : Tx K mg C_Person C_House) : FnG P w K mg base "skill_faults" 2 ["house", "rota", "day"] (sp_f C_Person C_House fun _ _ _ ps rows d => skF ps rows d) := by
  have G_on_duty := g_on_duty (P := P) (w := w) (base := base) tx
  refine tx.f_skill_faults.g sc_skill_faults (fun _ _ _ _ _ _ us hl => match us, hl with | [_, _, _], _ => rfl) (fun vs H Q E h => ?_) (fun f cdv A outer s H vs Q E hr h => ?_)
  · obtain ⟨h, r, d, dd, ks, nds, ps, ls, rows, rfl, _⟩ := h
    rfl
  · obtain ⟨h, r, d, dd, ks, nds, ps, ls, rows, rfl, hq, hr1, hl, hp8, hk4, hR, q⟩ := h
    refine ⟨_, (pss_cons (ps_set (i := 3) sc_skill_faults.nd rfl (Or.inl rfl) (pe_fn G_on_duty (hr.mono (by decide)) (pa_cons (pv 0) (pa_cons (pv 1) (pa_cons (pv 2) pa_nil)))))
      (pss_one (ps_ret (pe_comp (osc := defScope s_skill_faults) (ON := ["house", "rota", "day", "having"]) (N := ["person", "row", "day"]) (js := [none, none, some 2]) ⟨rfl, by decide +kernel, by decide +kernel, by decide +kernel, rfl, by decide +kernel⟩ rfl rfl rfl (pi_listK (K := K) rfl (pv 3)) (fun _ _ _ _ _ => pg_two (K := K) (i := 0) (j := 1) rfl rfl (show List.Nodup (["person", "row", "day"] : List Str) from by decide +kernel) rfl rfl (Or.inl rfl) (Or.inl rfl)) (fun _ _ _ _ _ => pifs_one (pt_cmpR op_notinS (pe_ix ix_txt (pv 1) (pv 2) (fun _ _ => rfl)) (pe_fldK (K := K) rfl (pv 0) rfl) rfl)) (fun _ _ _ _ _ => (pe_tup (pa_cons (pv 2) (pa_cons (pe_txt (l := [115, 107, 105, 108, 108]) (by decide +kernel)) (pa_cons (pe_fldK (K := K) rfl (pv 0) rfl) (pa_cons (pe_ix ix_txt (pv 1) (pv 2) (fun _ _ => rfl)) pa_nil)))))))))), ?_⟩
    walk_at "st"
    clear G_on_duty
    have cP := tx.c_Person.cl
    have nP1 := tx.n_Person_name
    have nP2 := tx.n_Person_skills
    walk_at "rd"
    intro D1 H1 ys s1 nD1 hD1 hA
    have hyl := hA.len
    have hfl := List.length_filter_le (onB d) (ps.zip rows)
    rw [List.length_zip] at hfl
    walk_at "rd"
    refine comp_hands ((ps.zip rows).filter (onB d)) (skB d) (fun p y H => TpV (skV d p) y H) (fun σ => ∃ v1 v2, σ = [v1, v2, some (.int d)]) (hands_list (SqL.of hD1)) hyl ?_ ⟨_, _, rfl⟩ (fun a y Ha Hb k h => TpV.keeps _ y Ha Hb k h) (fun i a v σ H' ha hv hσ s' Rf Rt hF hR' => ?_) (fun D H' zs hD s' hzs hDD => ?_)
    · omega
    · obtain ⟨v1, v2, rfl⟩ := hσ
      obtain ⟨n, row⟩ := a
      obtain ⟨y, hy, t, pa, rfl, ht, dxp, hpa⟩ := hA.get ha
      rw [hv] at hy
      cases hy
      have hm := (List.mem_filter.mp (List.mem_of_getElem? ha)).1
      obtain ⟨hd, hrl⟩ := hR.2 row (List.of_mem_zip hm).2
      have e := mk_at hR.1 hd
      have ht' := s' _ _ ht
      have hpa' := s' _ _ hpa
      walk_at "rd"
      refine ite2 (fun c => ?_) (fun c => ?_)
      · walk_at "rd"
        intro t2 ht2
        exact hR' _ _ _ c ⟨_, _, rfl⟩ (same_new ht2 _) ⟨t2, rfl, upd_same⟩
      · exact hF _ _ (Bool.eq_false_iff.mpr c) ⟨_, _, rfl⟩ (Same.refl _)
    · exact q D H' zs (s1.trans s') (s1.free hD) hDD hzs.mapL

theorem g_leave_faults (tx : Tx K mg C_Person C_House) : FnG P w K mg base "leave_faults" 2 ["house", "rota", "day"] (sp_f C_Person C_House fun _ _ ls ps rows d => lvF ls ps rows d) := by
  have G_on_duty := g_on_duty (P := P) (w := w) (base := base) tx
  refine tx.f_leave_faults.g sc_leave_faults (fun _ _ _ _ _ _ us hl => match us, hl with | [_, _, _], _ => rfl) (fun vs H Q E h => ?_) (fun f cdv A outer s H vs Q E hr h => ?_)
  · obtain ⟨h, r, d, dd, ks, nds, ps, ls, rows, rfl, _⟩ := h
    rfl
  · obtain ⟨h, r, d, dd, ks, nds, ps, ls, rows, rfl, hq, hr1, hl, hp8, hk4, hR, q⟩ := h
    refine ⟨_, (pss_cons (ps_set (i := 3) sc_leave_faults.nd rfl (Or.inl rfl) (pe_fn G_on_duty (hr.mono (by decide)) (pa_cons (pv 0) (pa_cons (pv 1) (pa_cons (pv 2) pa_nil)))))
      (pss_one (ps_ret (pe_comp (osc := defScope s_leave_faults) (ON := ["house", "rota", "day", "having"]) (N := ["person", "row", "day", "house"]) (js := [none, none, some 2, some 0]) ⟨rfl, by decide +kernel, by decide +kernel, by decide +kernel, rfl, by decide +kernel⟩ rfl rfl rfl (pi_listK (K := K) rfl (pv 3)) (fun _ _ _ _ _ => pg_two (K := K) (i := 0) (j := 1) rfl rfl (show List.Nodup (["person", "row", "day", "house"] : List Str) from by decide +kernel) rfl rfl (Or.inl rfl) (Or.inl rfl)) (fun _ _ _ _ _ => pifs_one (pt_cmpR (op_inT (K := K) rfl (hu_of hr)) (pe_tup (pa_cons (pe_fldK (K := K) rfl (pv 0) rfl) (pa_cons (pv 2) pa_nil))) (pe_fldK (K := K) rfl (pv 3) rfl) rfl)) (fun _ _ _ _ _ => (pe_tup (pa_cons (pv 2) (pa_cons (pe_txt (l := [108, 101, 97, 118, 101]) (by decide +kernel)) (pa_cons (pe_fldK (K := K) rfl (pv 0) rfl) (pa_cons (pe_ix ix_txt (pv 1) (pv 2) (fun _ _ => rfl)) pa_nil)))))))))), ?_⟩
    walk_at "st"
    clear G_on_duty
    have cH := tx.c_House.cl
    have nH := tx.n_House_leave
    have cP := tx.c_Person.cl
    have nP1 := tx.n_Person_name
    walk_at "rd"
    intro D1 H1 ys s1 nD1 hD1 hA
    have hyl := hA.len
    have hfl := List.length_filter_le (onB d) (ps.zip rows)
    rw [List.length_zip] at hfl
    obtain ⟨a1, a2, a3, a4, a5, a6, xs', ys', zs', ⟨dx, h1⟩, _, _, _, _, h6, h7, _⟩ := hq
    walk_at "rd"
    refine comp_hands ((ps.zip rows).filter (onB d)) (lvB ls d) (fun p y H => TpV (lvV d p) y H) (fun σ => ∃ v1 v2, σ = [v1, v2, some (.int d), some (.ref h)]) (hands_list (SqL.of hD1)) hyl ?_ ⟨_, _, rfl⟩ (fun a y Ha Hb k h => TpV.keeps _ y Ha Hb k h) (fun i a v σ H' ha hv hσ s' Rf Rt hF hR' => ?_) (fun D H' zs hD s' hzs hDD => ?_)
    · omega
    · obtain ⟨v1, v2, rfl⟩ := hσ
      obtain ⟨n, row⟩ := a
      obtain ⟨y, hy, t, pa, rfl, ht, dxp, hpa⟩ := hA.get ha
      rw [hv] at hy
      cases hy
      have hm := (List.mem_filter.mp (List.mem_of_getElem? ha)).1
      obtain ⟨hd, hrl⟩ := hR.2 row (List.of_mem_zip hm).2
      have e := mk_at hR.1 hd
      have ht' := s' _ _ ht
      have hpa' := s' _ _ hpa
      have t1 := s1.trans s'
      walk_at "rd"
      intro t2 ht2
      obtain ⟨H2, e2, ht22, s2⟩ := newt (xs := [T n.nm, V.int d]) ht2
      rw [← e2]
      have k1 := s2 _ _ (t1 _ _ h1)
      have k6 := s2 _ _ (t1 _ _ h6)
      have kp := s2 _ _ hpa'
      have k7 := lv_tp (K := K) (h7.imp fun a y => LvT.keeps a y _ _ (t1.trans s2).keeps)
      have fl : ([T n.nm, V.int d] : List V).all flatV = true := rfl
      walk_at "rd"
      refine ite2 (fun c => ?_) (fun c => ?_)
      · walk_at "rd"
        intro t3 ht3
        exact hR' _ _ _ c ⟨_, _, rfl⟩ (s2.trans (same_new ht3 _)) ⟨t3, rfl, upd_same⟩
      · exact hF _ _ (Bool.eq_false_iff.mpr c) ⟨_, _, rfl⟩ s2
    · exact q D H' zs (s1.trans s') (s1.free hD) hDD hzs.mapL

end
section
variable {P : Program} {w : World} {K : PySem.W.Frag} {mg : Str → Option Value} {base : Heap} {C_Person C_House : Addr}
local macro_rules | `(tactic| walk_at "lk") => `(tactic| first | exact lP_name _ _ _ _ _ | exact lP_skills _ _ _ _ _ | exact lP_most _ _ _ _ _ | exact lP_past _ _ _ _ _ | exact lH_persons _ _ _ _ _ _ _ _ | exact lH_needs _ _ _ _ _ _ _ _ | exact lH_leave _ _ _ _ _ _ _ _ | exact lH_kinds _ _ _ _ _ _ _ _ | exact lH_rules _ _ _ _ _ _ _ _ | exact lH_pairs _ _ _ _ _ _ _ _ | exact lH_days _ _ _ _ _ _ _ _ | exact lH_need _ _ _ _ _ _ _ _ | exact lH_rules_for _ _ _ _ _ _ _ _ | exact Or.inr (SqT.of (by with_reducible assumption)))

theorem g_need_faults (tx : Tx K mg C_Person C_House) : FnG P w K mg base "need_faults" 2 ["house", "rota", "day"] (sp_f C_Person C_House fun ks nds _ _ rows d => neF ks nds rows d) := by
  have G_need := g_need (P := P) (w := w) (base := base) tx
  refine tx.f_need_faults.g sc_need_faults (fun _ _ _ _ _ _ us hl => match us, hl with | [_, _, _], _ => rfl) (fun vs H Q E h => ?_) (fun f cdv A outer s H vs Q E hr h => ?_)
  · obtain ⟨h, r, d, dd, ks, nds, ps, ls, rows, rfl, _⟩ := h
    rfl
  · obtain ⟨h, r, d, dd, ks, nds, ps, ls, rows, rfl, hq, hr1, hl, hp8, hk4, hR, q⟩ := h
    refine ⟨_, (pss_cons (ps_set (i := 3) sc_need_faults.nd rfl (Or.inl rfl) (pe_lst pa_nil))
      (pss_cons (ps_for PassesOwn.never rfl (pi_txt (pe_fldK (K := K) rfl (pv 0) rfl)) (pg_name (i := 4) sc_need_faults.nd rfl (Or.inr rfl)) (pss_cons (ps_set (i := 5) sc_need_faults.nd rfl (Or.inl rfl) (pe_mt G_need (hr.mono (by decide)) (pv 0) (pa_cons (pv 2) (pa_cons (pv 4) pa_nil))))
      (pss_cons (ps_set (i := 6) sc_need_faults.nd rfl (Or.inl rfl) (pe_callB (call_len_seqK (K := K) rfl) rfl tx.z_len PySem.boot_len (pa_cons (pe_comp (osc := defScope s_need_faults) (ON := ["house", "rota", "day", "found", "kind", "need", "many"]) (N := ["row", "kind", "day"]) (js := [none, some 4, some 2]) ⟨rfl, by decide +kernel, by decide +kernel, by decide +kernel, rfl, by decide +kernel⟩ rfl rfl rfl (pi_listK (K := K) rfl (pv 1)) (fun _ _ _ _ _ => pg_name (i := 0) (show List.Nodup (["row", "kind", "day"] : List Str) from by decide +kernel) rfl (Or.inl rfl)) (fun _ _ _ _ _ => pifs_one (pt_cmpR op_eq (pe_ix ix_txt (pv 0) (pv 2) (fun _ _ => rfl)) (pv 1) (nomark _))) (fun _ _ _ _ _ => (pv 0))) pa_nil)))
      (pss_one (ps_cut (ps_if (PW.pt (pw_or (pt_cmpR op_lt (pv 6) (pe_ix (ix_tupK (K := K) rfl) (pv 5) pe_int (fun _ _ => rfl)) (nomark _)) (pw_or1 (pt_cmpR op_gt (pv 6) (pe_ix (ix_tupK (K := K) rfl) (pv 5) pe_int (fun _ _ => rfl)) (nomark _))))) (pss_one (ps_expr (pe_bm PySem.F.plainAttrs_list PySem.F.slot_list_append PySem.F.type_list_append mt_append (pv 3) (pa_cons (pe_tup (pa_cons (pv 2) (pa_cons (pe_txt (l := [110, 101, 101, 100]) (by decide +kernel)) (pa_cons (pv 4) (pa_cons (pv 6) pa_nil))))) pa_nil)))) pss_nil))))))
      (pss_one (ps_ret (pv 3))))), ?_⟩
    walk_at "st"
    clear G_need
    have cH := tx.c_House.cl
    have nH := tx.n_House_kinds
    have hq0 := hq
    obtain ⟨a1, a2, a3, a4, a5, a6, xs', ys', zs', ⟨dx, h1⟩, _⟩ := hq0
    walk_at "rd"
    intro fl nfl
    have k1 := same_new nfl (.lst []) _ _ h1
    walk_at "rd"
    refine for_txt (l := ks) (fun i σ H2 => Here (∃ v1 v2 v3 xs, σ = [some (.ref h), some (.ref r), some (.int d), some (.ref fl), v1, v2, v3] ∧ H2 fl = some (.lst xs) ∧ All2 TpV H2 (((ks.take i).filter (neB nds rows d)).map (neV rows d)) xs ∧ Same H H2)) (Here.mk ⟨none, none, none, [], rfl, upd_same, trivial, same_new nfl _⟩) ?_ ?_
    · rintro i k σ H2 hk hv
      obtain ⟨v1, v2, v3, xs, rfl, hf2, hA2, s2⟩ := hv.out
      have hq2 := hq.same s2
      have ob2 := s2 _ _ h1
      have hxl : xs.length ≤ 10 := by
        have h1 := hA2.len
        have h2 := List.length_filter_le (neB nds rows d) (ks.take i)
        rw [List.length_map] at h1
        rw [List.length_take] at h2
        omega
      walk_at "rd"
      intro t1 H3 s3 ht1
      have hr3 := s3 _ _ (s2 _ _ hr1)
      walk_at "rd"
      refine comp_hands rows (fun r => decide (mkA r d = k)) (fun _ _ _ => True) (fun σ => ∃ v, σ = [v, some (T [k]), some (.int d)]) (hands_list (SqL.of hr3)) (by rw [List.length_map]) (by omega) ⟨_, rfl⟩ (fun _ _ _ _ _ z => z) (fun j row v σ H' hj hv hσ s' Rf Rt hF hR' => ?_) (fun D H4 ys hD s4 hys hDD => ?_)
      · obtain ⟨w1, rfl⟩ := hσ
        rw [List.getElem?_map, hj] at hv
        cases hv
        obtain ⟨hd, hrl⟩ := hR.2 row (List.mem_of_getElem? hj)
        have e := mk_at hR.1 hd
        walk_at "rd"
        refine ite2 (fun c => ?_) (fun c => ?_)
        · have c' : mkA row d = k := by simpa using T_inj (of_decide_eq_true c)
          walk_at "rd"
          exact hR' _ _ _ (decide_eq_true c') ⟨_, rfl⟩ (Same.refl _) trivial
        · exact hF _ _ (decide_eq_false fun z => c (decide_eq_true (by rw [z]))) ⟨_, rfl⟩ (Same.refl _)
      have hyl : ys.length = cntF rows d k := hys.len
      have ht4 := s4 _ _ ht1
      have hf4 := s4 _ _ (s3 _ _ hf2)
      have e0 := at0 (V.int (needF nds d k).1) (V.int (needF nds d k).2)
      have e1 := at1 (V.int (needF nds d k).1) (V.int (needF nds d k).2)
      have t24 := s3.trans s4
      have ek : ((ks.take (i + 1)).filter (neB nds rows d)).map (neV rows d) = ((ks.take i).filter (neB nds rows d)).map (neV rows d) ++ (if neB nds rows d k = true then [neV rows d k] else []) := by
        rw [List.take_add_one, hk, List.filter_append, List.map_append]
        congr 1
        show (List.filter (neB nds rows d) [k]).map _ = _
        rw [List.filter_cons]
        split <;> rfl
      walk_at "rd"
      rw [hyl]
      refine tCut.mk (fun σ' H' => Here (∃ v1 v2 v3 xs', σ' = [some (.ref h), some (.ref r), some (.int d), some (.ref fl), v1, v2, v3] ∧ H' fl = some (.lst xs') ∧ All2 TpV H' (((ks.take (i + 1)).filter (neB nds rows d)).map (neV rows d)) xs' ∧ Same H H')) ?_ (fun σ' H' hv => hv)
      have put : neB nds rows d k = true → ∀ t2, H4 t2 = none → Here (∃ v1 v2 v3 xs', [some (V.ref h), some (.ref r), some (.int d), some (.ref fl), some (T [k]), some (.ref t1), some (.int (cntF rows d k : Nat))] = [some (.ref h), some (.ref r), some (.int d), some (.ref fl), v1, v2, v3] ∧ upd (upd H4 t2 (.tup [.int d, T wNeed, T [k], .int (cntF rows d k : Nat)])) fl (.lst (xs ++ [.ref t2])) fl = some (.lst xs') ∧ All2 TpV (upd (upd H4 t2 (.tup [.int d, T wNeed, T [k], .int (cntF rows d k : Nat)])) fl (.lst (xs ++ [.ref t2]))) (((ks.take (i + 1)).filter (neB nds rows d)).map (neV rows d)) xs' ∧ Same H (upd (upd H4 t2 (.tup [.int d, T wNeed, T [k], .int (cntF rows d k : Nat)])) fl (.lst (xs ++ [.ref t2])))) := fun hb t2 ht2 => by
        have s5 : Same H4 (upd H4 t2 (.tup [.int d, T wNeed, T [k], .int (cntF rows d k : Nat)])) := same_new ht2 _
        have kk : Keeps (upd H4 t2 (.tup [.int d, T wNeed, T [k], .int (cntF rows d k : Nat)])) (upd (upd H4 t2 (.tup [.int d, T wNeed, T [k], .int (cntF rows d k : Nat)])) fl (.lst (xs ++ [.ref t2]))) := keeps_lst (s5 _ _ hf4)
        refine Here.mk ⟨_, _, _, xs ++ [.ref t2], rfl, upd_same, ?_, ((s2.trans t24).trans s5).upd nfl⟩
        rw [ek, if_pos hb]
        exact All2.snoc (hA2.imp fun a y => TpV.keeps a y _ _ ((t24.trans s5).keeps.trans kk)) ⟨t2, rfl, kk _ _ upd_same (fun zs z => by cases z)⟩
      walk_at "rd"
      refine ite2 (fun c1 => ?_) (fun c1 => ?_)
      · walk_at "rd"
        intro t2 ht2
        have hf5 := same_new ht2 (.tup [.int d, T wNeed, T [k], .int (cntF rows d k : Nat)]) _ _ hf4
        walk_at "rd"
        exact put (by unfold neB; rw [c1]; rfl) t2 ht2
      · walk_at "rd"
        refine ite2 (fun c2 => ?_) (fun c2 => ?_)
        · walk_at "rd"
          intro t2 ht2
          have hf5 := same_new ht2 (.tup [.int d, T wNeed, T [k], .int (cntF rows d k : Nat)]) _ _ hf4
          walk_at "rd"
          exact put (by unfold neB; rw [c2, Bool.or_true]) t2 ht2
        · have hb : ¬ neB nds rows d k = true := by unfold neB; rw [Bool.eq_false_iff.mpr c1, Bool.eq_false_iff.mpr c2]; decide
          walk_at "rd"
          refine Here.mk ⟨_, _, _, xs, rfl, hf4, ?_, s2.trans t24⟩
          rw [ek, if_neg hb, List.append_nil]
          exact hA2.imp fun a y => TpV.keeps a y _ _ t24.keeps
    · rintro σ H2 hv
      obtain ⟨v1, v2, v3, xs, rfl, hf2, hA2, s2⟩ := hv.out
      rw [List.take_of_length_le (Nat.le_refl _)] at hA2
      walk_at "rd"
      exact q fl H2 xs s2 nfl hf2 hA2

theorem g_most_faults (tx : Tx K mg C_Person C_House) : FnG P w K mg base "most_faults" 2 ["house", "rota", "day"] (sp_f C_Person C_House fun _ _ _ ps rows d => moF ps rows d) := by
  have G_on_duty := g_on_duty (P := P) (w := w) (base := base) tx
  have G_duties_in := g_duties_in (P := P) (w := w) (base := base) tx
  refine tx.f_most_faults.g sc_most_faults (fun _ _ _ _ _ _ us hl => match us, hl with | [_, _, _], _ => rfl) (fun vs H Q E h => ?_) (fun f cdv A outer s H vs Q E hr h => ?_)
  · obtain ⟨h, r, d, dd, ks, nds, ps, ls, rows, rfl, _⟩ := h
    rfl
  · obtain ⟨h, r, d, dd, ks, nds, ps, ls, rows, rfl, hq, hr1, hl, hp8, hk4, hR, q⟩ := h
    refine ⟨_, (pss_cons (ps_set (i := 3) sc_most_faults.nd rfl (Or.inl rfl) (pe_lst pa_nil))
      (pss_cons (ps_for PassesOwn.never rfl (pi_listK (K := K) rfl (pe_fn G_on_duty (hr.mono (by decide)) (pa_cons (pv 0) (pa_cons (pv 1) (pa_cons (pv 2) pa_nil))))) (pg_tup rfl (pgs_cons (pg_name (i := 4) sc_most_faults.nd rfl (Or.inl rfl)) (pgs_cons (pg_name (i := 5) sc_most_faults.nd rfl (Or.inl rfl)) pgs_nil))) (pss_cons (ps_set (i := 6) sc_most_faults.nd rfl (Or.inl rfl) (pe_fn G_duties_in (hr.mono (by decide)) (pa_cons (pe_slice sl_txt (pv 5) po_none (po_some (pe_op op_add (pv 2) pe_int))) pa_nil)))
      (pss_one (ps_cut (ps_if (pt_cmpR op_gt (pv 6) (pe_fldK (K := K) rfl (pv 4) rfl) (nomark _)) (pss_one (ps_expr (pe_bm PySem.F.plainAttrs_list PySem.F.slot_list_append PySem.F.type_list_append mt_append (pv 3) (pa_cons (pe_tup (pa_cons (pv 2) (pa_cons (pe_txt (l := [109, 111, 115, 116]) (by decide +kernel)) (pa_cons (pe_fldK (K := K) rfl (pv 4) rfl) (pa_cons (pv 6) pa_nil))))) pa_nil)))) pss_nil)))))
      (pss_one (ps_ret (pv 3))))), ?_⟩
    walk_at "st"
    clear G_on_duty G_duties_in
    have cP := tx.c_Person.cl
    have nP1 := tx.n_Person_name
    have nP2 := tx.n_Person_most
    walk_at "rd"
    intro fl nfl
    obtain ⟨H0, e0, hf0, s0⟩ := newl (xs := []) nfl
    rw [← e0]
    have hq0 := hq.same s0
    have hr0 := s0 _ _ hr1
    walk_at "rd"
    intro D1 H1 ys s1 nD1 hD1 hA
    have hyl := hA.len
    have hfl := List.length_filter_le (onB d) (ps.zip rows)
    rw [List.length_zip] at hfl
    have hf1 := s1 _ _ hf0
    have nfD : D1 ≠ fl := (ne_of_none hf0 nD1).symm
    walk_at "rd"
    generalize hon : (ps.zip rows).filter (onB d) = on at hA hyl hfl
    refine for_list (K := K) (xs := ys) (fun i σ H2 => Here (∃ v1 v2 v3 xs, σ = [some (.ref h), some (.ref r), some (.int d), some (.ref fl), v1, v2, v3] ∧ H2 fl = some (.lst xs) ∧ All2 TpV H2 (((on.take i).filter (moB d)).map (moV d)) xs ∧ H2 D1 = some (.lst ys) ∧ Keeps H1 H2 ∧ Same H H2)) (Here.mk ⟨none, none, none, [], rfl, hf1, trivial, hD1, (Same.refl _).keeps, s0.trans s1⟩) (fun i σ H2 _ hv => by obtain ⟨_, _, _, _, _, _, _, e, _⟩ := hv.out; exact SqL.of e) ?_ ?_
    · rintro i x σ H2 hx hv
      obtain ⟨v1, v2, v3, xs, rfl, hf2, hA2, hD2, k2, s2⟩ := hv.out
      obtain ⟨p, hp, hpt⟩ := hA.back hx
      have hm : p ∈ ps.zip rows := by rw [← hon] at hp; exact (List.mem_filter.mp (List.mem_of_getElem? hp)).1
      obtain ⟨n, row⟩ := p
      obtain ⟨t, pa, rfl, ht, dxp, hpa⟩ := OnT.keeps _ _ _ _ k2 hpt
      obtain ⟨hd, hrl⟩ := hR.2 row (List.of_mem_zip hm).2
      have hxl : xs.length ≤ 10 := by
        have h1 := hA2.len
        have h2 := List.length_filter_le (moB d) (on.take i)
        rw [List.length_map] at h1
        rw [List.length_take] at h2
        omega
      have cl := cut_len row none (some (d + 1))
      have ek : ((on.take (i + 1)).filter (moB d)).map (moV d) = ((on.take i).filter (moB d)).map (moV d) ++ (if moB d (n, row) = true then [moV d (n, row)] else []) := by
        rw [List.take_add_one, hp, List.filter_append, List.map_append]
        congr 1
        show (List.filter (moB d) [(n, row)]).map _ = _
        rw [List.filter_cons]
        split <;> rfl
      walk_at "rd"
      intro H3 s3
      have hpa3 := s3 _ _ hpa
      have hf3 := s3 _ _ hf2
      walk_at "rd"
      refine tCut.mk (fun σ' H' => Here (∃ v1 v2 v3 xs', σ' = [some (.ref h), some (.ref r), some (.int d), some (.ref fl), v1, v2, v3] ∧ H' fl = some (.lst xs') ∧ All2 TpV H' (((on.take (i + 1)).filter (moB d)).map (moV d)) xs' ∧ H' D1 = some (.lst ys) ∧ Keeps H1 H' ∧ Same H H')) ?_ (fun σ' H' hv => hv)
      walk_at "rd"
      refine ite2 (fun c1 => ?_) (fun c1 => ?_)
      · walk_at "rd"
        intro t2 ht2
        obtain ⟨H4, e4, ht4, s4⟩ := newt (xs := [.int d, T wMost, T n.nm, .int (dut (cutN row none (some (d + 1))) : Nat)]) ht2
        rw [← e4]
        have hf4 := s4 _ _ hf3
        walk_at "rd"
        have kk : Keeps H4 (upd H4 fl (.lst (xs ++ [.ref t2]))) := keeps_lst hf4
        refine Here.mk ⟨_, _, _, xs ++ [.ref t2], rfl, upd_same, ?_, ?_, k2.trans ((s3.trans s4).keeps.trans kk), ((s2.trans s3).trans s4).upd nfl⟩
        · rw [ek, if_pos (show moB d (n, row) = true from c1)]
          exact All2.snoc (hA2.imp fun a y => TpV.keeps a y _ _ ((s3.trans s4).keeps.trans kk)) ⟨t2, rfl, kk _ _ ht4 (fun zs z => by cases z)⟩
        · rw [upd_ne nfD]
          exact s4 _ _ (s3 _ _ hD2)
      · walk_at "rd"
        refine Here.mk ⟨_, _, _, xs, rfl, hf3, ?_, s3 _ _ hD2, k2.trans s3.keeps, s2.trans s3⟩
        rw [ek, if_neg (show ¬ moB d (n, row) = true from c1), List.append_nil]
        exact hA2.imp fun a y => TpV.keeps a y _ _ s3.keeps
    · rintro σ H2 hv
      obtain ⟨v1, v2, v3, xs, rfl, hf2, hA2, hD2, k2, s2⟩ := hv.out
      rw [hyl, List.take_of_length_le (Nat.le_refl _), ← hon] at hA2
      walk_at "rd"
      exact q fl H2 xs s2 nfl hf2 hA2

theorem g_rule_faults (tx : Tx K mg C_Person C_House) : FnG P w K mg base "rule_faults" 2 ["house", "rota", "day"] (sp_f C_Person C_House fun _ _ _ _ _ _ => []) := by
  have G_rules_for := g_rules_for (P := P) (w := w) (base := base) tx
  refine tx.f_rule_faults.g sc_rule_faults (fun _ _ _ _ _ _ us hl => match us, hl with | [_, _, _], _ => rfl) (fun vs H Q E h => ?_) (fun f cdv A outer s H vs Q E hr h => ?_)
  · obtain ⟨h, r, d, dd, ks, nds, ps, ls, rows, rfl, _⟩ := h
    rfl
  · obtain ⟨h, r, d, dd, ks, nds, ps, ls, rows, rfl, hq, hr1, hl, hp8, hk4, hR, q⟩ := h
    refine ⟨_, (pss_cons (ps_set (i := 3) sc_rule_faults.nd rfl (Or.inl rfl) (pe_lst pa_nil))
      (pss_cons (ps_for PassesOwn.never rfl (pi_enumLK (K := K) rfl rfl tx.z_enumerate (pa_cons (pe_fldK (K := K) rfl (pv 0) rfl) pa_nil)) (pg_tup rfl (pgs_cons (pg_name (i := 4) sc_rule_faults.nd rfl (Or.inl rfl)) (pgs_cons (pg_name (i := 5) sc_rule_faults.nd rfl (Or.inr rfl)) pgs_nil))) (pss_cons (ps_set (i := 6) sc_rule_faults.nd rfl (Or.inr rfl) (pe_op op_catS (pe_fldK (K := K) rfl (pv 5) rfl) (pe_slice sl_txt (pe_ix (ix_listK (K := K) rfl) (pv 1) (pv 4) (fun _ _ => rfl)) po_none (po_some (pe_op op_add (pv 2) pe_int)))))
      (pss_cons (ps_set (i := 7) sc_rule_faults.nd rfl (Or.inl rfl) (pe_mt G_rules_for (hr.mono (by decide)) (pv 0) (pa_cons (pv 4) pa_nil)))
      (pss_one (ps_aug (i := 3) sc_rule_faults.nd rfl (Or.inl rfl) (pe_comp (osc := defScope s_rule_faults) (ON := ["house", "rota", "day", "found", "p", "person", "marks", "bound"]) (N := ["number", "rule", "day", "person", "marks"]) (js := [none, none, some 2, some 5, some 6]) ⟨rfl, by decide +kernel, by decide +kernel, by decide +kernel, rfl, by decide +kernel⟩ rfl rfl rfl (pi_listK (K := K) rfl (pv 7)) (fun _ _ _ _ _ => pg_two (K := K) (i := 0) (j := 1) rfl rfl (show List.Nodup (["number", "rule", "day", "person", "marks"] : List Str) from by decide +kernel) rfl rfl (Or.inl rfl) (Or.inl rfl)) (fun _ _ _ _ _ => pifs_one pt_nev) (fun _ _ _ _ _ => pe_nev)) ip_addL)))))
      (pss_one (ps_ret (pv 3))))), ?_⟩
    walk_at "st"
    clear G_rules_for
    have cH := tx.c_House.cl
    have nH := tx.n_House_persons
    have cP := tx.c_Person.cl
    have nP := tx.n_Person_past
    have hq0 := hq
    obtain ⟨a1, a2, a3, a4, a5, a6, xs', ys', zs', ⟨dx, h1⟩, _, _, h4, h5, _⟩ := hq0
    have hyl := h5.len
    walk_at "rd"
    intro fl nfl
    have s1 : Same H (upd H fl (.lst [])) := same_new nfl _
    have k1 := s1 _ _ h1
    have k4 := s1 _ _ h4
    walk_at "rd"
    refine for_enumL (K := K) (xs := ys') (fun i σ H2 => Here (∃ v1 v2 v3 v4, σ = [some (.ref h), some (.ref r), some (.int d), some (.ref fl), v1, v2, v3, v4] ∧ H2 fl = some (.lst []) ∧ Same H H2)) (Here.mk ⟨none, none, none, none, rfl, upd_same, s1⟩) (fun i σ H2 _ hv => by obtain ⟨_, _, _, _, _, _, s2⟩ := hv.out; exact SqL.of (s2 _ _ h4)) ?_ ?_
    · rintro i x p σ H2 hx hp hv
      obtain ⟨v1, v2, v3, v4, rfl, hf2, s2⟩ := hv.out
      have hi : i < ys'.length := (List.getElem?_eq_some_iff.mp hx).1
      obtain ⟨n, hn, pa, rfl, ⟨dxp, hpa⟩, hpl⟩ := h5.back hx
      obtain ⟨H3, e3, hp3, s3⟩ := newt (xs := [V.int (i : Int), V.ref pa]) hp
      rw [← e3]
      have hpa3 := s3 _ _ (s2 _ _ hpa)
      have hr3 := s3 _ _ (s2 _ _ hr1)
      have hq3 := hq.same (s2.trans s3)
      have ob3 := s3 _ _ (s2 _ _ h1)
      have hrow : rows[i]? = some rows[i] := List.getElem?_eq_getElem (by omega)
      have er : atI (rows.map T) (i : Int) = some (T rows[i]) := atI_nat (by rw [List.getElem?_map, hrow]; rfl)
      obtain ⟨hd, hrl⟩ := hR.2 rows[i] (List.getElem_mem _)
      generalize rows[i] = row at er hd hrl
      have cl := cut_len row none (some (d + 1))
      have hsum : n.past.length + (cutN row none (some (d + 1))).length ≤ sizeLine := Nat.le_trans (show _ ≤ 1100 by omega) (by decide)
      have i0 : (0 : Int) ≤ (i : Int) := by omega
      have i1 : (i : Int) < (ps.length : Int) := by omega
      walk_at "rd"
      intro D2 H4 s4 hD2
      have hf4 := s4 _ _ (s3 _ _ hf2)
      walk_at "rd"
      refine comp_hands (α := Unit) [] (fun _ => true) (fun _ _ _ => True) (fun _ => True) (hands_list (SqL.of hD2)) rfl (by decide) trivial (fun _ _ _ _ _ z => z) (fun i a v σ H' ha => by simp at ha) (fun D H5 zs hD s5 hzs hDD => ?_)
      cases zs with
      | cons y r => exact hzs.elim
      | nil =>
        have hf5 := s5 _ _ hf4
        walk_at "rd"
        exact Here.mk ⟨_, _, _, _, rfl, upd_same, (((s2.trans s3).trans s4).trans s5).upd nfl⟩
    · rintro σ H2 hv
      obtain ⟨v1, v2, v3, v4, rfl, hf2, s2⟩ := hv.out
      walk_at "rd"
      exact q fl H2 [] s2 nfl hf2 trivial

theorem g_pair_faults (tx : Tx K mg C_Person C_House) : FnG P w K mg base "pair_faults" 2 ["house", "rota", "day"] (sp_f C_Person C_House fun _ _ _ _ _ _ => []) := by
  refine tx.f_pair_faults.g sc_pair_faults (fun _ _ _ _ _ _ us hl => match us, hl with | [_, _, _], _ => rfl) (fun vs H Q E h => ?_) (fun f cdv A outer s H vs Q E hr h => ?_)
  · obtain ⟨h, r, d, dd, ks, nds, ps, ls, rows, rfl, _⟩ := h
    rfl
  · obtain ⟨h, r, d, dd, ks, nds, ps, ls, rows, rfl, hq, hr1, hl, hp8, hk4, hR, q⟩ := h
    refine ⟨_, (pss_cons (ps_set (i := 3) sc_pair_faults.nd rfl (Or.inl rfl) (pe_lst pa_nil))
      (pss_cons (ps_for PassesOwn.never rfl (pi_enumLK (K := K) rfl rfl tx.z_enumerate (pa_cons (pe_fldK (K := K) rfl (pv 0) rfl) pa_nil)) (pg_tup rfl (pgs_cons (pg_name (i := 4) sc_pair_faults.nd rfl (Or.inl rfl)) (pgs_cons (pg_name (i := 5) sc_pair_faults.nd rfl (Or.inl rfl)) pgs_nil))) pss_nev)
      (pss_one (ps_ret (pv 3))))), ?_⟩
    walk_at "st"
    have cH := tx.c_House.cl
    have nH := tx.n_House_pairs
    obtain ⟨a1, a2, a3, a4, a5, a6, xs', ys', zs', ⟨dx, h1⟩, _, _, _, _, _, _, _, h9⟩ := hq
    walk_at "rd"
    intro fl nfl
    have s1 : Same H (upd H fl (.lst [])) := same_new nfl _
    have k1 := s1 _ _ h1
    have k9 := s1 _ _ h9
    walk_at "rd"
    refine for_enumL (K := K) (xs := []) (fun i σ H2 => Here (σ = [some (.ref h), some (.ref r), some (.int d), some (.ref fl), none, none, none, none] ∧ H2 = upd H fl (.lst []))) (Here.mk ⟨rfl, rfl⟩) (fun i σ H2 _ hv => by obtain ⟨_, e⟩ := hv.out; rw [e]; exact SqL.of k9) (fun i x p σ H2 hx => by simp at hx) ?_
    rintro σ H2 hv
    obtain ⟨rfl, rfl⟩ := hv.out
    walk_at "rd"
    exact q fl _ [] s1 nfl upd_same trivial

theorem g_faults (tx : Tx K mg C_Person C_House) : FnG P w K mg base "faults" 3 ["house", "rota"] (sp_faults C_Person C_House) := by
  have G_skill_faults := g_skill_faults (P := P) (w := w) (base := base) tx
  have G_leave_faults := g_leave_faults (P := P) (w := w) (base := base) tx
  have G_need_faults := g_need_faults (P := P) (w := w) (base := base) tx
  have G_most_faults := g_most_faults (P := P) (w := w) (base := base) tx
  have G_rule_faults := g_rule_faults (P := P) (w := w) (base := base) tx
  have G_pair_faults := g_pair_faults (P := P) (w := w) (base := base) tx
  refine tx.f_faults.g sc_faults (fun _ _ _ _ _ _ us hl => match us, hl with | [_, _], _ => rfl) (fun vs H Q E h => ?_) (fun f cdv A outer s H vs Q E hr h => ?_)
  · obtain ⟨h, r, dd, ks, nds, ps, ls, rows, rfl, _⟩ := h
    rfl
  · obtain ⟨h, r, dd, ks, nds, ps, ls, rows, rfl, hq, hr1, hl, hp8, hk4, d0, d1, hrl, q⟩ := h
    refine ⟨_, (pss_cons (ps_set (i := 2) sc_faults.nd rfl (Or.inl rfl) (pe_lst pa_nil))
      (pss_cons (ps_for PassesOwn.never rfl (pi_range1 rfl tx.z_range (pa_cons (pe_fldK (K := K) rfl (pv 0) rfl) pa_nil)) (pg_name (i := 3) sc_faults.nd rfl (Or.inl rfl)) (pss_cons (ps_aug (i := 2) sc_faults.nd rfl (Or.inl rfl) (pe_fn G_skill_faults (hr.mono (by decide)) (pa_cons (pv 0) (pa_cons (pv 1) (pa_cons (pv 3) pa_nil)))) ip_addL)
      (pss_cons (ps_aug (i := 2) sc_faults.nd rfl (Or.inl rfl) (pe_fn G_leave_faults (hr.mono (by decide)) (pa_cons (pv 0) (pa_cons (pv 1) (pa_cons (pv 3) pa_nil)))) ip_addL)
      (pss_cons (ps_aug (i := 2) sc_faults.nd rfl (Or.inl rfl) (pe_fn G_need_faults (hr.mono (by decide)) (pa_cons (pv 0) (pa_cons (pv 1) (pa_cons (pv 3) pa_nil)))) ip_addL)
      (pss_cons (ps_aug (i := 2) sc_faults.nd rfl (Or.inl rfl) (pe_fn G_most_faults (hr.mono (by decide)) (pa_cons (pv 0) (pa_cons (pv 1) (pa_cons (pv 3) pa_nil)))) ip_addL)
      (pss_cons (ps_aug (i := 2) sc_faults.nd rfl (Or.inl rfl) (pe_fn G_rule_faults (hr.mono (by decide)) (pa_cons (pv 0) (pa_cons (pv 1) (pa_cons (pv 3) pa_nil)))) ip_addL)
      (pss_one (ps_aug (i := 2) sc_faults.nd rfl (Or.inl rfl) (pe_fn G_pair_faults (hr.mono (by decide)) (pa_cons (pv 0) (pa_cons (pv 1) (pa_cons (pv 3) pa_nil)))) ip_addL))))))))
      (pss_one (ps_ret (pv 2))))), ?_⟩
    walk_at "st"
    clear G_skill_faults G_leave_faults G_need_faults G_most_faults G_rule_faults G_pair_faults
    have cH := tx.c_House.cl
    have nH := tx.n_House_days
    have hq0 := hq
    obtain ⟨a1, a2, a3, a4, a5, a6, xs', ys', zs', ⟨dx, h1⟩, _⟩ := hq0
    walk_at "rd"
    intro fl nfl
    have k1 := same_new nfl (.lst []) _ _ h1
    walk_at "rd"
    refine for_range (n := dd.toNat) (fun i σ H2 => Here (∃ v1 xs, σ = [some (.ref h), some (.ref r), some (.ref fl), v1] ∧ H2 fl = some (.lst xs) ∧ All2 TpV H2 (allF ks nds ls ps rows i) xs ∧ Same H H2)) (Here.mk ⟨none, [], rfl, upd_same, trivial, same_new nfl _⟩) ?_ ?_
    · rintro i σ H2 hi hv
      obtain ⟨v1, x0, rfl, hf0, hA0, s0⟩ := hv.out
      have hR : ROk rows (0 + (i : Int)) := ⟨by omega, fun r hr => by have := hrl r hr; omega⟩
      have hq0 := hq.same s0
      have hz0 := s0 _ _ hr1
      have l0 : x0.length ≤ 400 := by
        have h1 := hA0.len
        have h2 := all_len (nds := nds) (ls := ls) (rows := rows) hp8 hk4 i
        omega
      walk_at "rd"
      intro D1 G1 y1 t1 nD1 hD1 hB1
      have l1 : y1.length ≤ 8 := by rw [hB1.len]; exact (ff_len _ _ _ hp8)
      have hf1' := t1 _ _ hf0
      have kk1 : Keeps G1 (upd G1 fl (.lst (x0 ++ y1))) := keeps_lst hf1'
      have hA1 : All2 TpV (upd G1 fl (.lst (x0 ++ y1))) (allF ks nds ls ps rows i ++ skF ps rows (0 + (i : Int))) (x0 ++ y1) := All2.app (hA0.imp fun a y => TpV.keeps a y _ _ (t1.keeps.trans kk1)) (hB1.imp fun a y => TpV.keeps a y _ _ kk1)
      have s1 : Same H (upd G1 fl (.lst (x0 ++ y1))) := (s0.trans t1).upd nfl
      have hf1 : (upd G1 fl (.lst (x0 ++ y1))) fl = some (.lst (x0 ++ y1)) := upd_same
      have hq1 := hq.same s1
      have hz1 := s1 _ _ hr1
      walk_at "rd"
      clear hq0 hz0
      intro D2 G2 y2 t2 nD2 hD2 hB2
      have l2 : y2.length ≤ 8 := by rw [hB2.len]; exact (ff_len _ _ _ hp8)
      have hf2' := t2 _ _ hf1
      have kk2 : Keeps G2 (upd G2 fl (.lst (x0 ++ y1 ++ y2))) := keeps_lst hf2'
      have hA2 : All2 TpV (upd G2 fl (.lst (x0 ++ y1 ++ y2))) (allF ks nds ls ps rows i ++ skF ps rows (0 + (i : Int)) ++ lvF ls ps rows (0 + (i : Int))) (x0 ++ y1 ++ y2) := All2.app (hA1.imp fun a y => TpV.keeps a y _ _ (t2.keeps.trans kk2)) (hB2.imp fun a y => TpV.keeps a y _ _ kk2)
      have s2 : Same H (upd G2 fl (.lst (x0 ++ y1 ++ y2))) := (s1.trans t2).upd nfl
      have hf2 : (upd G2 fl (.lst (x0 ++ y1 ++ y2))) fl = some (.lst (x0 ++ y1 ++ y2)) := upd_same
      have hq2 := hq.same s2
      have hz2 := s2 _ _ hr1
      walk_at "rd"
      clear hq1 hz1
      intro D3 G3 y3 t3 nD3 hD3 hB3
      have l3 : y3.length ≤ 4 := by rw [hB3.len]; exact (ne_len hk4)
      have hf3' := t3 _ _ hf2
      have kk3 : Keeps G3 (upd G3 fl (.lst (x0 ++ y1 ++ y2 ++ y3))) := keeps_lst hf3'
      have hA3 : All2 TpV (upd G3 fl (.lst (x0 ++ y1 ++ y2 ++ y3))) (allF ks nds ls ps rows i ++ skF ps rows (0 + (i : Int)) ++ lvF ls ps rows (0 + (i : Int)) ++ neF ks nds rows (0 + (i : Int))) (x0 ++ y1 ++ y2 ++ y3) := All2.app (hA2.imp fun a y => TpV.keeps a y _ _ (t3.keeps.trans kk3)) (hB3.imp fun a y => TpV.keeps a y _ _ kk3)
      have s3 : Same H (upd G3 fl (.lst (x0 ++ y1 ++ y2 ++ y3))) := (s2.trans t3).upd nfl
      have hf3 : (upd G3 fl (.lst (x0 ++ y1 ++ y2 ++ y3))) fl = some (.lst (x0 ++ y1 ++ y2 ++ y3)) := upd_same
      have hq3 := hq.same s3
      have hz3 := s3 _ _ hr1
      walk_at "rd"
      clear hq2 hz2
      intro D4 G4 y4 t4 nD4 hD4 hB4
      have l4 : y4.length ≤ 8 := by rw [hB4.len]; exact (ff_len _ _ _ hp8)
      have hf4' := t4 _ _ hf3
      have kk4 : Keeps G4 (upd G4 fl (.lst (x0 ++ y1 ++ y2 ++ y3 ++ y4))) := keeps_lst hf4'
      have hA4 : All2 TpV (upd G4 fl (.lst (x0 ++ y1 ++ y2 ++ y3 ++ y4))) (allF ks nds ls ps rows i ++ skF ps rows (0 + (i : Int)) ++ lvF ls ps rows (0 + (i : Int)) ++ neF ks nds rows (0 + (i : Int)) ++ moF ps rows (0 + (i : Int))) (x0 ++ y1 ++ y2 ++ y3 ++ y4) := All2.app (hA3.imp fun a y => TpV.keeps a y _ _ (t4.keeps.trans kk4)) (hB4.imp fun a y => TpV.keeps a y _ _ kk4)
      have s4 : Same H (upd G4 fl (.lst (x0 ++ y1 ++ y2 ++ y3 ++ y4))) := (s3.trans t4).upd nfl
      have hf4 : (upd G4 fl (.lst (x0 ++ y1 ++ y2 ++ y3 ++ y4))) fl = some (.lst (x0 ++ y1 ++ y2 ++ y3 ++ y4)) := upd_same
      have hq4 := hq.same s4
      have hz4 := s4 _ _ hr1
      walk_at "rd"
      clear hq3 hz3
      intro D5 G5 y5 t5 nD5 hD5 hB5
      have l5 : y5.length ≤ 0 := by rw [hB5.len]; exact (Nat.zero_le _)
      have hf5' := t5 _ _ hf4
      have kk5 : Keeps G5 (upd G5 fl (.lst (x0 ++ y1 ++ y2 ++ y3 ++ y4 ++ y5))) := keeps_lst hf5'
      have hA5 : All2 TpV (upd G5 fl (.lst (x0 ++ y1 ++ y2 ++ y3 ++ y4 ++ y5))) (allF ks nds ls ps rows i ++ skF ps rows (0 + (i : Int)) ++ lvF ls ps rows (0 + (i : Int)) ++ neF ks nds rows (0 + (i : Int)) ++ moF ps rows (0 + (i : Int)) ++ ([] : List (List V))) (x0 ++ y1 ++ y2 ++ y3 ++ y4 ++ y5) := All2.app (hA4.imp fun a y => TpV.keeps a y _ _ (t5.keeps.trans kk5)) (hB5.imp fun a y => TpV.keeps a y _ _ kk5)
      have s5 : Same H (upd G5 fl (.lst (x0 ++ y1 ++ y2 ++ y3 ++ y4 ++ y5))) := (s4.trans t5).upd nfl
      have hf5 : (upd G5 fl (.lst (x0 ++ y1 ++ y2 ++ y3 ++ y4 ++ y5))) fl = some (.lst (x0 ++ y1 ++ y2 ++ y3 ++ y4 ++ y5)) := upd_same
      have hq5 := hq.same s5
      have hz5 := s5 _ _ hr1
      walk_at "rd"
      clear hq4 hz4
      intro D6 G6 y6 t6 nD6 hD6 hB6
      have l6 : y6.length ≤ 0 := by rw [hB6.len]; exact (Nat.zero_le _)
      have hf6' := t6 _ _ hf5
      have kk6 : Keeps G6 (upd G6 fl (.lst (x0 ++ y1 ++ y2 ++ y3 ++ y4 ++ y5 ++ y6))) := keeps_lst hf6'
      have hA6 : All2 TpV (upd G6 fl (.lst (x0 ++ y1 ++ y2 ++ y3 ++ y4 ++ y5 ++ y6))) (allF ks nds ls ps rows i ++ skF ps rows (0 + (i : Int)) ++ lvF ls ps rows (0 + (i : Int)) ++ neF ks nds rows (0 + (i : Int)) ++ moF ps rows (0 + (i : Int)) ++ ([] : List (List V)) ++ ([] : List (List V))) (x0 ++ y1 ++ y2 ++ y3 ++ y4 ++ y5 ++ y6) := All2.app (hA5.imp fun a y => TpV.keeps a y _ _ (t6.keeps.trans kk6)) (hB6.imp fun a y => TpV.keeps a y _ _ kk6)
      have s6 : Same H (upd G6 fl (.lst (x0 ++ y1 ++ y2 ++ y3 ++ y4 ++ y5 ++ y6))) := (s5.trans t6).upd nfl
      have hf6 : (upd G6 fl (.lst (x0 ++ y1 ++ y2 ++ y3 ++ y4 ++ y5 ++ y6))) fl = some (.lst (x0 ++ y1 ++ y2 ++ y3 ++ y4 ++ y5 ++ y6)) := upd_same
      have hq6 := hq.same s6
      have hz6 := s6 _ _ hr1
      walk_at "rd"
      clear hq5 hz5
      refine Here.mk ⟨_, _, rfl, upd_same, ?_, s6⟩
      rw [List.append_nil, List.append_nil] at hA6
      have e : allF ks nds ls ps rows (i + 1) = allF ks nds ls ps rows i ++ skF ps rows (0 + (i : Int)) ++ lvF ls ps rows (0 + (i : Int)) ++ neF ks nds rows (0 + (i : Int)) ++ moF ps rows (0 + (i : Int)) := by
        rw [allF, dayF]
        simp only [List.append_assoc]
      rw [e]
      exact hA6
    · rintro σ H2 hv
      obtain ⟨v1, x0, rfl, hf0, hA0, s0⟩ := hv.out
      walk_at "rd"
      exact q fl H2 x0 s0 nfl hf0 hA0

end
theorem two_at (a b : List Nat) (i : Int) (h0 : 0 ≤ i) (h1 : i < 2) : ∃ w, atI [T a, T b] i = some (T w) ∧ (w = a ∨ w = b) := by
  have : i = 0 ∨ i = 1 := by omega
  rcases this with rfl | rfl
  · exact ⟨a, at0 _ _, .inl rfl⟩
  · exact ⟨b, at1 _ _, .inr rfl⟩
theorem at5 (a b c d e : V) : atI [a, b, c, d, e] 0 = some a ∧ atI [a, b, c, d, e] 1 = some b ∧ atI [a, b, c, d, e] 2 = some c ∧ atI [a, b, c, d, e] 3 = some d ∧ atI [a, b, c, d, e] 4 = some e := by simp [atI, ixN]
theorem cutV_map (ns : List Int) (lo hi : Option Int) : cutV (ns.map V.int) lo hi = (cutN ns lo hi).map V.int := by
  unfold cutV cutN
  rw [List.length_map, List.map_take, List.map_drop]
theorem All2.takeL {α : Type} {P : α → V → Hp → Prop} {H : Hp} : ∀ {as : List α} {ys : List V} (n : Nat), All2 P H as ys → All2 P H (as.take n) (ys.take n)
  | _, _, 0, _ => by rw [List.take_zero, List.take_zero]; exact trivial
  | [], [], _ + 1, _ => trivial
  | _ :: _, _ :: _, n + 1, h => ⟨h.1, All2.takeL n h.2⟩
  | [], _ :: _, _ + 1, h => h.elim
  | _ :: _, [], _ + 1, h => h.elim
abbrev sg28 : List Nat := [65, 66, 67, 68, 69, 70, 71, 72, 73, 74, 75, 76, 77, 78, 79, 80, 81, 82, 83, 84, 85, 86, 87, 88, 89, 90, 45, 35]
def sp_txt1 : Sp := fun vs H Q _ => ∃ (n : Int), vs = [.int n] ∧ ∀ (l : List Nat) (H' : Hp), Same H H' → l.length ≤ 40 → Q (T l) H'
def sp_ref1 : Sp := fun vs H Q _ => ∃ (n : Int), vs = [.int n] ∧ ∀ (t : Addr) (H' : Hp), Same H H' → Q (.ref t) H'
def sp_person (K : PySem.W.Frag) : Sp := fun vs H Q _ => ∃ (a : Addr) (ns : List Int) (p : Int) (ks : List Nat), vs = [.ref a, .int p, T ks] ∧ SqL K H a (ns.map V.int) ∧ 0 ≤ p ∧ ks.length ≤ 4 ∧ ∀ (t : Addr) (H' : Hp) (n : Ps), Same H H' → H' t = some (.tup [T n.nm, T n.sk, .int n.most, .int n.car, T n.past]) → n.past.length ≤ 100 → Q (.ref t) H'
def sp_wish : Sp := fun vs H Q _ => ∃ (nm : List Nat) (c d : Int) (ks : List Nat), vs = [T nm, .int c, .int d, T ks] ∧ 1 ≤ d ∧ d ≤ 14 ∧ ks.length ≤ 4 ∧ ∀ (t : Addr) (H' : Hp), Same H H' → Q (.ref t) H'
/-- four lists that grow -/
structure PInv (H0 H : Hp) (a1 a2 a3 a4 : Addr) (b1 b2 b3 b4 : Nat) : Prop where
  ex : ∃ ls zs ws rs qs, H a1 = some (.lst zs) ∧ All2 LvT H ls zs ∧ H a2 = some (.lst ws) ∧ H a3 = some (.lst rs) ∧ H a4 = some (.lst qs) ∧ zs.length ≤ b1 ∧ ws.length ≤ b2 ∧ rs.length ≤ b3 ∧ qs.length ≤ b4
  sm : Same H0 H
theorem PInv.same {H0 H H' : Hp} {a1 a2 a3 a4 : Addr} {b1 b2 b3 b4 : Nat} (x : PInv H0 H a1 a2 a3 a4 b1 b2 b3 b4) (s : Same H H') : PInv H0 H' a1 a2 a3 a4 b1 b2 b3 b4 := by
  obtain ⟨⟨ls, zs, ws, rs, qs, h1, h2, h3, h4, h5, h6⟩, sm⟩ := x
  exact ⟨⟨ls, zs, ws, rs, qs, s _ _ h1, h2.imp fun a y => LvT.keeps a y _ _ s.keeps, s _ _ h3, s _ _ h4, s _ _ h5, h6⟩, sm.trans s⟩
theorem PInv.up {H0 H : Hp} {a1 a2 a3 a4 : Addr} {b1 b2 b3 b4 c1 c2 c3 c4 : Nat} (x : PInv H0 H a1 a2 a3 a4 b1 b2 b3 b4) (h1 : b1 ≤ c1) (h2 : b2 ≤ c2) (h3 : b3 ≤ c3) (h4 : b4 ≤ c4) : PInv H0 H a1 a2 a3 a4 c1 c2 c3 c4 := by
  obtain ⟨⟨ls, zs, ws, rs, qs, g1, g2, g3, g4, g5, g6, g7, g8, g9⟩, sm⟩ := x
  exact ⟨⟨ls, zs, ws, rs, qs, g1, g2, g3, g4, g5, by omega, by omega, by omega, by omega⟩, sm⟩
section
variable {P : Program} {w : World} {K : PySem.W.Frag} {mg : Str → Option Value} {base : Heap} {C_Person C_House : Addr}

theorem g_law_plain_rule (tx : Tx K mg C_Person C_House) : FnG P w K mg base "_law_plain_rule" 1 ["_law_number"] sp_txt1 := by
  refine tx.f_law_plain_rule.g sc_law_plain_rule (fun _ _ _ _ _ _ us hl => match us, hl with | [_], _ => rfl) (fun vs H Q E h => ?_) (fun f cdv A outer s H vs Q E hr h => ?_)
  · obtain ⟨n, rfl, _⟩ := h
    rfl
  · obtain ⟨n, rfl, q⟩ := h
    refine ⟨_, (pss_cons (ps_set (i := 1) sc_law_plain_rule.nd rfl (Or.inl rfl) (pe_txt (l := [65, 66, 67, 68, 69, 70, 71, 72, 73, 74, 75, 76, 77, 78, 79, 80, 81, 82, 83, 84, 85, 86, 87, 88, 89, 90, 45, 35]) (by decide +kernel)))
      (pss_cons (ps_set (i := 2) sc_law_plain_rule.nd rfl (Or.inl rfl) (pe_ix ix_txt (pv 1) (pe_op op_mod (pv 0) pe_int) (fun _ _ => rfl)))
      (pss_cons (ps_set (i := 3) sc_law_plain_rule.nd rfl (Or.inl rfl) (pe_ix ix_txt (pv 1) (pe_op op_mod (pe_op op_add (pe_op op_add (pe_op op_fdiv (pv 0) pe_int) pe_int) (pe_op op_mod (pv 0) pe_int)) pe_int) (fun _ _ => rfl)))
      (pss_cons (ps_if (pt_cmpR op_eq (pe_op op_mod (pe_op op_fdiv (pv 0) pe_int) pe_int) pe_int (nomark _)) (pss_one (ps_ret (pe_op op_catS (pe_txt (l := [110, 101, 118, 101, 114, 32]) (by decide +kernel)) (pe_slice sl_txt (pe_op op_catS (pe_op op_catS (pe_op op_catS (pv 2) (pv 3)) (pe_txt (l := [63, 45, 35]) (by decide +kernel))) (pv 3)) po_none (po_some (pe_op op_add pe_int (pe_op op_mod (pe_op op_fdiv (pv 0) pe_int) pe_int))))))) pss_nil)
      (pss_cons (ps_set (i := 4) sc_law_plain_rule.nd rfl (Or.inl rfl) (pv 2))
      (pss_cons (ps_cut (ps_if (PW.pt (pw_and (pt_cmpR op_eq (pe_op op_mod (pe_op op_fdiv (pv 0) pe_int) pe_int) pe_int (nomark _)) (pw_and1 (pt_cmpR op_ne (pv 2) (pv 3) (nomark _))))) (pss_one (ps_set (i := 4) sc_law_plain_rule.nd rfl (Or.inl rfl) (pe_op op_catS (pv 2) (pv 3)))) pss_nil))
      (pss_cons (ps_set (i := 5) sc_law_plain_rule.nd rfl (Or.inl rfl) (pe_op op_catS (pe_op op_catS (pe_op op_catS (pe_op op_catS (pe_callTy call_str_fig rfl tx.z_str bt_ty_str (pa_cons (pe_op op_mod (pe_op op_fdiv (pv 0) pe_int) pe_int) pa_nil)) (pe_txt (l := [32, 111, 102, 32]) (by decide +kernel))) (pv 4)) (pe_txt (l := [32, 105, 110, 32]) (by decide +kernel))) (pe_callTy call_str_fig rfl tx.z_str bt_ty_str (pa_cons (pe_op op_add pe_int (pe_op op_mod (pe_op op_fdiv (pv 0) pe_int) pe_int)) pa_nil))))
      (pss_one (ps_ret (pe_op op_catS (pe_ix (ix_listK (K := K) rfl) (pe_lst (pa_cons (pe_txt (l := [109, 111, 115, 116, 32]) (by decide +kernel)) (pa_cons (pe_txt (l := [108, 101, 97, 115, 116, 32]) (by decide +kernel)) pa_nil))) (pe_op op_mod (pe_op op_fdiv (pv 0) pe_int) pe_int) (fun _ _ => rfl)) (pv 5))))))))))), ?_⟩
    walk_at "st"
    obtain ⟨a, ha, _⟩ := at_some sg28 (n % 28) (Int.emod_nonneg _ (by decide)) (Int.emod_lt_of_pos _ (by decide))
    obtain ⟨b, hb, _⟩ := at_some sg28 ((n / 28 + 1 + n % 28) % 28) (Int.emod_nonneg _ (by decide)) (Int.emod_lt_of_pos _ (by decide))
    walk_at "rd"
    refine ite2 (fun _ => ?_) (fun _ => ?_)
    · have cl := cut_len ([a] ++ [b] ++ [63, 45, 35] ++ [b]) none (some (1 + n / 2352 % 6))
      simp only [List.length_append, List.length_cons, List.length_nil] at cl
      walk_at "rd"
      refine q _ H (Same.refl _) ?_
      simp only [List.length_append, List.length_cons, List.length_nil] at cl ⊢
      omega
    walk_at "rd"
    refine tCut.mk (fun σ' H' => Here (∃ mk, σ' = [some (.int n), some (T sg28), some (T [a]), some (T [b]), some (T mk), none] ∧ mk.length ≤ 2 ∧ H' = H)) ?_ ?_
    · walk_at "rd"
      refine ite2 (fun _ => ?_) (fun _ => ?_)
      · walk_at "rd"
        refine ite2 (fun _ => ?_) (fun _ => ?_)
        · walk_at "rd"
          exact Here.mk ⟨_, rfl, by show 2 ≤ 2; decide, rfl⟩
        · exact Here.mk ⟨_, rfl, by show 1 ≤ 2; decide, rfl⟩
      · walk_at "rd"
        exact Here.mk ⟨_, rfl, by show 1 ≤ 2; decide, rfl⟩
    rintro σ' H' hv
    obtain ⟨mk, rfl, hmk, rfl⟩ := hv.out
    have f0 : 0 ≤ n / 4704 % 8 := Int.emod_nonneg _ (by decide)
    have f1 : n / 4704 % 8 < 8 := Int.emod_lt_of_pos _ (by decide)
    have g0 : 0 ≤ n / 37632 % 7 := Int.emod_nonneg _ (by decide)
    have g1 : n / 37632 % 7 < 7 := Int.emod_lt_of_pos _ (by decide)
    obtain ⟨wd, hw, hwl⟩ := two_at [109, 111, 115, 116, 32] [108, 101, 97, 115, 116, 32] (n / 784 % 2) (Int.emod_nonneg _ (by decide)) (Int.emod_lt_of_pos _ (by decide))
    have hwl' : wd.length ≤ 6 := by rcases hwl with rfl | rfl <;> decide
    walk_at "rd"
    intro p hp
    walk_at "rd"
    refine q _ _ (same_new hp _) ?_
    simp only [List.length_append, List.length_cons, List.length_nil]
    omega

theorem g_law_rule (tx : Tx K mg C_Person C_House) : FnG P w K mg base "_law_rule" 2 ["_law_cell"] sp_ref1 := by
  have G_law_plain_rule := g_law_plain_rule (P := P) (w := w) (base := base) tx
  have G_law_stream := g_law_stream (P := P) (w := w) (base := base) tx
  refine tx.f_law_rule.g sc_law_rule (fun _ _ _ _ _ _ us hl => match us, hl with | [_], _ => rfl) (fun vs H Q E h => ?_) (fun f cdv A outer s H vs Q E hr h => ?_)
  · obtain ⟨n, rfl, _⟩ := h
    rfl
  · obtain ⟨n, rfl, q⟩ := h
    refine ⟨_, (pss_cons (ps_asg (pe_comp (osc := defScope s_law_rule) (ON := ["_law_cell", "_law_one", "_law_two", "_law_both"]) (N := ["_law_number"]) (js := [none]) ⟨rfl, by decide +kernel, by decide +kernel, by decide +kernel, rfl, by decide +kernel⟩ rfl rfl rfl (pi_listK (K := K) rfl (pe_fn G_law_stream (hr.mono (by decide)) (pa_cons (pe_op op_fdiv (pv 0) pe_int) (pa_cons pe_int pa_nil)))) (fun _ _ _ _ _ => pg_name (i := 0) (show List.Nodup (["_law_number"] : List Str) from by decide +kernel) rfl (Or.inl rfl)) (fun _ _ _ _ _ => pifs_nil) (fun _ _ _ _ _ => (pe_fn G_law_plain_rule (hr.mono (by decide)) (pa_cons (pv 0) pa_nil)))) (pg_lst rfl (pgs_cons (pg_name (i := 1) sc_law_rule.nd rfl (Or.inl rfl)) (pgs_cons (pg_name (i := 2) sc_law_rule.nd rfl (Or.inl rfl)) pgs_nil))))
      (pss_cons (ps_if (pt_cmpR op_eq (pe_op op_mod (pv 0) pe_int) pe_int (nomark _)) (pss_one (ps_ret (pe_tup (pa_cons (pe_op op_catS (pe_op op_catS (pe_txt (l := [40, 32]) (by decide +kernel)) (pv 1)) (pe_txt (l := [32, 41]) (by decide +kernel))) (pa_cons (pv 1) pa_nil))))) pss_nil)
      (pss_cons (ps_if (pt_cmpR op_eq (pe_op op_mod (pv 0) pe_int) pe_int (nomark _)) (pss_one (ps_ret (pe_tup (pa_cons (pe_op op_catS (pe_op op_catS (pv 1) (pe_txt (l := [32, 97, 110, 100, 32]) (by decide +kernel))) (pv 2)) (pa_cons (pe_op op_catS (pe_op op_catS (pv 1) (pe_txt (l := [32, 97, 110, 100, 32]) (by decide +kernel))) (pv 2)) pa_nil))))) pss_nil)
      (pss_cons (ps_if (pt_cmpR op_eq (pe_op op_mod (pv 0) pe_int) pe_int (nomark _)) (pss_one (ps_ret (pe_tup (pa_cons (pe_op op_catS (pe_op op_catS (pe_op op_catS (pe_op op_catS (pe_txt (l := [110, 111, 116, 32, 40, 32]) (by decide +kernel)) (pv 1)) (pe_txt (l := [32, 111, 114, 32]) (by decide +kernel))) (pv 2)) (pe_txt (l := [32, 41]) (by decide +kernel))) (pa_cons (pe_op op_catS (pe_op op_catS (pe_op op_catS (pe_op op_catS (pe_txt (l := [110, 111, 116, 32, 40, 32]) (by decide +kernel)) (pv 1)) (pe_txt (l := [32, 111, 114, 32]) (by decide +kernel))) (pv 2)) (pe_txt (l := [32, 41]) (by decide +kernel))) pa_nil))))) pss_nil)
      (pss_cons (ps_if (pt_cmpR op_eq (pe_op op_mod (pv 0) pe_int) pe_int (nomark _)) (pss_cons (ps_set (i := 3) sc_law_rule.nd rfl (Or.inl rfl) (pe_op op_catS (pe_op op_catS (pv 1) (pe_txt (l := [32, 97, 110, 100, 32]) (by decide +kernel))) (pv 2)))
      (pss_one (ps_ret (pe_tup (pa_cons (pe_op op_catS (pe_op op_catS (pe_op op_catS (pe_op op_catS (pe_txt (l := [40, 32]) (by decide +kernel)) (pv 3)) (pe_txt (l := [32, 41, 32, 111, 114, 32, 40, 32, 110, 111, 116, 32]) (by decide +kernel))) (pv 1)) (pe_txt (l := [32, 41]) (by decide +kernel))) (pa_cons (pe_op op_catS (pe_op op_catS (pv 3) (pe_txt (l := [32, 111, 114, 32, 110, 111, 116, 32]) (by decide +kernel))) (pv 1)) pa_nil)))))) pss_nil)
      (pss_one (ps_ret (pe_tup (pa_cons (pv 1) (pa_cons (pv 1) pa_nil)))))))))), ?_⟩
    walk_at "st"
    clear G_law_plain_rule G_law_stream
    walk_at "rd"
    intro st H1 xs s1 nst hst hxs
    walk_at "rd"
    refine comp_hands xs (fun _ => true) (fun _ y _ => ∃ l : List Nat, y = T l ∧ l.length ≤ 40) (fun σ => ∃ v, σ = [v]) (hands_list (SqL.of hst)) (by rw [List.length_map]) (by omega) ⟨_, rfl⟩ (fun _ _ _ _ _ z => z) (fun i a v σ H' ha hv hσ s' Rf Rt _ hR => ?_) (fun D H2 ys nD s2 hys hD => ?_)
    · obtain ⟨w1, rfl⟩ := hσ
      rw [List.getElem?_map, ha] at hv
      cases hv
      walk_at "rd"
      exact fun l H2 s2 hl => hR _ _ _ rfl ⟨_, rfl⟩ s2 ⟨l, rfl, hl⟩
    have hyl := hys.len
    rw [List.filter_eq_self.mpr fun _ _ => rfl] at hyl hys
    obtain ⟨l1, l2, rfl, h1, h2⟩ : ∃ l1 l2 : List Nat, ys = [T l1, T l2] ∧ l1.length ≤ 40 ∧ l2.length ≤ 40 := by
      match ys, hyl, hys with
      | [y1, y2], _, hys =>
        obtain ⟨_, _, l1, rfl, h1⟩ := hys.back (i := 0) rfl
        obtain ⟨_, _, l2, rfl, h2⟩ := hys.back (i := 1) rfl
        exact ⟨l1, l2, rfl, h1, h2⟩
      | [], e, _ => exact absurd e (by simp only [List.length_nil]; omega)
      | [_], e, _ => exact absurd e (by simp only [List.length_cons, List.length_nil]; omega)
      | _ :: _ :: _ :: _, e, _ => exact absurd e (by simp only [List.length_cons]; omega)
    clear hys hyl hst hxs nst nD
    have s12 := s1.trans s2
    walk_at "rd"
    refine ite2 (fun _ => ?_) (fun _ => ?_)
    · walk_at "rd"
      exact fun t ht => q t _ (s12.trans (same_new ht _))
    walk_at "rd"
    refine ite2 (fun _ => ?_) (fun _ => ?_)
    · walk_at "rd"
      exact fun t ht => q t _ (s12.trans (same_new ht _))
    walk_at "rd"
    refine ite2 (fun _ => ?_) (fun _ => ?_)
    · walk_at "rd"
      exact fun t ht => q t _ (s12.trans (same_new ht _))
    walk_at "rd"
    refine ite2 (fun _ => ?_) (fun _ => ?_)
    · walk_at "rd"
      exact fun t ht => q t _ (s12.trans (same_new ht _))
    walk_at "rd"
    exact fun t ht => q t _ (s12.trans (same_new ht _))

theorem g_law_wish (tx : Tx K mg C_Person C_House) : FnG P w K mg base "_law_wish" 2 ["_law_name_here", "_law_cell", "_law_days", "_law_kinds_here"] sp_wish := by
  have G_law_some := g_law_some (P := P) (w := w) (base := base) tx
  refine tx.f_law_wish.g sc_law_wish (fun _ _ _ _ _ _ us hl => match us, hl with | [_, _, _, _], _ => rfl) (fun vs H Q E h => ?_) (fun f cdv A outer s H vs Q E hr h => ?_)
  · obtain ⟨nm, c, d, ks, rfl, _⟩ := h
    rfl
  · obtain ⟨nm, c, d, ks, rfl, d0, d1, hk, q⟩ := h
    refine ⟨_, (pss_cons (ps_set (i := 4) sc_law_wish.nd rfl (Or.inl rfl) (pe_fn G_law_some (hr.mono (by decide)) (pa_cons (pe_op op_catS (pv 3) (pe_txt (l := [45]) (by decide +kernel))) (pa_cons (pe_op op_fdiv (pv 1) (pv 2)) pa_nil))))
      (pss_cons (ps_cut (ps_if (pt_cmpR op_eq (pv 4) (pe_txt (l := []) (by decide +kernel)) (nomark _)) (pss_one (ps_set (i := 4) sc_law_wish.nd rfl (Or.inl rfl) (pe_txt (l := [45]) (by decide +kernel)))) pss_nil))
      (pss_one (ps_ret (pe_tup (pa_cons (pv 0) (pa_cons (pe_op op_mod (pv 1) (pv 2)) (pa_cons (pv 4) pa_nil)))))))), ?_⟩
    walk_at "st"
    clear G_law_some
    walk_at "rd"
    intro mk H1 s1 lmk
    walk_at "rd"
    refine tCut.mk (fun σ' H' => Here (∃ mk, σ' = [some (T nm), some (.int c), some (.int d), some (T ks), some (T mk)] ∧ H' = H1)) ?_ ?_
    · walk_at "rd"
      refine ite2 (fun _ => ?_) (fun _ => ?_)
      · walk_at "rd"
        exact Here.mk ⟨_, rfl, rfl⟩
      · exact Here.mk ⟨_, rfl, rfl⟩
    rintro σ' H' hv
    obtain ⟨mk, rfl, rfl⟩ := hv.out
    walk_at "rd"
    exact fun t ht => q t _ (s1.trans (same_new ht _))

theorem g_law_person (tx : Tx K mg C_Person C_House) : FnG P w K mg base "_law_person" 2 ["_law_script", "_law_p", "_law_kinds_here"] (sp_person K) := by
  have G_law_cell_at := g_law_cell_at (P := P) (w := w) (base := base) tx
  have G_law_stream := g_law_stream (P := P) (w := w) (base := base) tx
  have G_law_some := g_law_some (P := P) (w := w) (base := base) tx
  have G_law_name := g_law_name (P := P) (w := w) (base := base) tx
  refine tx.f_law_person.g sc_law_person (fun _ _ _ _ _ _ us hl => match us, hl with | [_, _, _], _ => rfl) (fun vs H Q E h => ?_) (fun f cdv A outer s H vs Q E hr h => ?_)
  · obtain ⟨a, ns, p, ks, rfl, _⟩ := h
    rfl
  · obtain ⟨a, ns, p, ks, rfl, hS, p0, hk, q⟩ := h
    refine ⟨_, (pss_cons (ps_set (i := 3) sc_law_person.nd rfl (Or.inl rfl) (pe_fn G_law_cell_at (hr.mono (by decide)) (pa_cons (pv 0) (pa_cons (pe_op op_add pe_int (pv 1)) pa_nil))))
      (pss_cons (ps_set (i := 4) sc_law_person.nd rfl (Or.inr rfl) (pe_fn G_law_stream (hr.mono (by decide)) (pa_cons (pe_op op_add (pv 3) (pv 1)) (pa_cons pe_int pa_nil))))
      (pss_cons (ps_set (i := 5) sc_law_person.nd rfl (Or.inr rfl) (pe_op op_catS (pv 2) (pe_txt (l := [45]) (by decide +kernel))))
      (pss_cons (ps_set (i := 6) sc_law_person.nd rfl (Or.inl rfl) (pe_joinK (K := K) rfl (pe_txt (l := []) (by decide +kernel)) (pa_cons (pe_comp (osc := defScope s_law_person) (ON := ["_law_script", "_law_p", "_law_kinds_here", "_law_cell", "_law_numbers", "_law_marks", "_law_past", "_law_carried", "_law_skills"]) (N := ["_law_k", "_law_marks", "_law_numbers"]) (js := [none, some 5, some 4]) ⟨rfl, by decide +kernel, by decide +kernel, by decide +kernel, rfl, by decide +kernel⟩ rfl rfl rfl (pi_range1 rfl tx.z_range (pa_cons (pe_op op_mod (pe_ix (ix_listK (K := K) rfl) (pv 4) pe_int (fun _ _ => rfl)) pe_int) pa_nil)) (fun _ _ _ _ _ => pg_name (i := 0) (show List.Nodup (["_law_k", "_law_marks", "_law_numbers"] : List Str) from by decide +kernel) rfl (Or.inl rfl)) (fun _ _ _ _ _ => pifs_nil) (fun _ _ _ _ _ => (pe_ix ix_txt (pv 1) (pe_op op_mod (pe_op op_fdiv (pe_ix (ix_listK (K := K) rfl) (pv 2) pe_int (fun _ _ => rfl)) (pe_op op_add pe_int (pe_op op_mul pe_int (pv 0)))) (pe_callB call_lenS rfl tx.z_len PySem.boot_len (pa_cons (pv 1) pa_nil))) (fun _ _ => rfl)))) pa_nil)))
      (pss_cons (ps_set (i := 7) sc_law_person.nd rfl (Or.inl rfl) (pe_op op_mod (pe_op op_fdiv (pv 3) pe_int) (pe_op op_pow pe_int pe_int)))
      (pss_cons (ps_cut (ps_if (pt_cmpR op_eq (pe_op op_mod (pv 3) pe_int) pe_int (nomark _)) (pss_one (ps_set (i := 7) sc_law_person.nd rfl (Or.inl rfl) (pe_op op_mod (pe_ix (ix_listK (K := K) rfl) (pv 4) pe_int (fun _ _ => rfl)) pe_int))) pss_nil))
      (pss_cons (ps_set (i := 8) sc_law_person.nd rfl (Or.inl rfl) (pe_fn G_law_some (hr.mono (by decide)) (pa_cons (pv 2) (pa_cons (pe_ix (ix_listK (K := K) rfl) (pv 4) pe_int (fun _ _ => rfl)) pa_nil))))
      (pss_one (ps_ret (pe_tup (pa_cons (pe_fn G_law_name (hr.mono (by decide)) (pa_cons (pe_fn G_law_cell_at (hr.mono (by decide)) (pa_cons (pv 0) (pa_cons pe_int pa_nil))) (pa_cons (pv 1) pa_nil))) (pa_cons (pv 8) (pa_cons (pe_op op_mod (pe_op op_fdiv (pe_ix (ix_listK (K := K) rfl) (pv 4) pe_int (fun _ _ => rfl)) pe_int) pe_int) (pa_cons (pv 7) (pa_cons (pv 6) pa_nil))))))))))))))), ?_⟩
    walk_at "st"
    clear G_law_cell_at G_law_stream G_law_some G_law_name
    walk_at "rd"
    intro st H1 xs s1 nst hst hxs
    obtain ⟨x0, e0, _⟩ := at_int xs 0 (by decide) (by omega)
    obtain ⟨x1, e1, _⟩ := at_int xs 1 (by decide) (by omega)
    obtain ⟨x2, e2, _⟩ := at_int xs 2 (by decide) (by omega)
    have m0 : 0 ≤ x1 % 7 := Int.emod_nonneg _ (by decide)
    have m1 : x1 % 7 < 7 := Int.emod_lt_of_pos _ (by decide)
    walk_at "rd"
    refine comp_all (fun _ y => ∃ c, y = T [c]) (hands_range 0 (x1 % 7).toNat) ?_ (fun x hx H' s' R hR => ?_) (fun D H2 ys nD s2 hlen hP hD => ?_)
    · rw [List.length_map, List.length_range]; omega
    · obtain ⟨k, hk', rfl⟩ := List.mem_map.mp hx
      have hk' := List.mem_range.mp hk'
      have hst' := s' _ _ hst
      obtain ⟨c, hc, _⟩ := at_some (ks ++ [45]) (x1 / (7 + 5 * (0 + (k : Int))) % ((ks ++ [45]).length : Int)) (Int.emod_nonneg _ (by rw [List.length_append, List.length_singleton]; omega)) (Int.emod_lt_of_pos _ (by rw [List.length_append, List.length_singleton]; omega))
      have hlp : (0 : Int) < ((ks ++ [45]).length : Int) := by rw [List.length_append, List.length_singleton]; omega
      walk_at "rd"
      exact hR _ H' ⟨c, rfl⟩ (Same.refl _)
    rw [List.length_map, List.length_range] at hlen
    obtain ⟨l, rfl, hcs⟩ := ones_txt (ys := ys) fun y hy => by
      obtain ⟨i, hi, rfl⟩ := List.mem_iff_getElem.mp hy
      exact hP i _ _ (List.getElem?_eq_getElem (by rw [List.length_map, List.length_range]; omega)) (List.getElem?_eq_getElem hi)
    have hjl : (((l.map fun c => [c]).map List.length).sum + (l.map fun c => [c]).length * ([] : List Nat).length ≤ 16777216) := by
      rw [sum_ones, List.length_map, List.length_nil, Nat.mul_zero]
      omega
    have hD3 : SqL K H2 D ((l.map fun c => [c]).map T) := SqL.of hD
    have p40 : CPow 10 40 := ⟨by decide, by decide, by decide⟩
    have z40 : (0 : Int) < 10 ^ (40 : Int).toNat := by decide
    have hst2 := s2 _ _ hst
    have hll : l.length ≤ 7 := by omega
    walk_at "rd"
    rw [joinN_nil, flat_ones]
    clear hP hD hD3 hjl hcs hlen
    walk_at "rd"
    refine tCut.mk (fun σ' H' => Here (∃ car, σ' = [some (.ref a), some (.int p), some (T ks), some (.int (cellF ns (4 + p))), some (.ref st), some (T (ks ++ [45])), some (T l), some (.int car), none] ∧ H' = H2)) ?_ ?_
    · walk_at "rd"
      refine ite2 (fun _ => ?_) (fun _ => ?_)
      · walk_at "rd"
        exact Here.mk ⟨_, rfl, rfl⟩
      · exact Here.mk ⟨_, rfl, rfl⟩
    rintro σ' H' hv
    obtain ⟨car, rfl, rfl⟩ := hv.out
    walk_at "rd"
    intro sk H3 s3 lsk
    have t3 := (s1.trans s2).trans s3
    have hS3 := t3.seq hS
    walk_at "rd"
    intro H4 s4
    have hst4 := s4 _ _ (s3 _ _ hst2)
    walk_at "rd"
    intro t ht
    exact q t _ ⟨nameF (cellF ns 1) p, sk, x2 / 12 % 15, car, l⟩ ((t3.trans s4).trans (same_new ht _)) upd_same (by show l.length ≤ 100; omega)
end
def sp_parts (K : PySem.W.Frag) : Sp := fun vs H Q _ => ∃ (a : Addr) (ns : List Int), vs = [.ref a] ∧ SqL K H a (ns.map V.int) ∧ ns.length ≤ 63 ∧
  ∀ (t : Addr) (H' : Hp) (d : Int) (ks : List Nat) (nds : List Nd) (ps : List Ps) (ls : List (List Nat × Int)) (a1 a2 a3 a4 a5 a6 : Addr) (xs ys zs ws rs qs : List V), Same H H' → H' t = some (.tup [.int d, T ks, .ref a1, .ref a2, .ref a3, .ref a4, .ref a5, .ref a6]) →
    H' a1 = some (.lst xs) → All2 NdAt H' nds xs → H' a2 = some (.lst ys) → All2 PsT H' ps ys → H' a3 = some (.lst zs) → All2 LvT H' ls zs → H' a4 = some (.lst ws) → H' a5 = some (.lst rs) → H' a6 = some (.lst qs) →
    1 ≤ d → d ≤ 14 → 1 ≤ ks.length → ks.length ≤ 4 → ps.length ≤ 8 → (∀ n ∈ ps, n.past.length ≤ 100) → Q (.ref t) H'
section
variable {P : Program} {w : World} {K : PySem.W.Frag} {mg : Str → Option Value} {base : Heap} {C_Person C_House : Addr}

theorem g_law_parts (tx : Tx K mg C_Person C_House) : FnG P w K mg base "_law_parts" 3 ["_law_script"] (sp_parts K) := by
  have G_law_cell_at := g_law_cell_at (P := P) (w := w) (base := base) tx
  have G_law_kinds := g_law_kinds (P := P) (w := w) (base := base) tx
  have G_law_needs := g_law_needs (P := P) (w := w) (base := base) tx
  have G_law_person := g_law_person (P := P) (w := w) (base := base) tx
  have G_law_wish := g_law_wish (P := P) (w := w) (base := base) tx
  have G_law_rule := g_law_rule (P := P) (w := w) (base := base) tx
  refine tx.f_law_parts.g sc_law_parts (fun _ _ _ _ _ _ us hl => match us, hl with | [_], _ => rfl) (fun vs H Q E h => ?_) (fun f cdv A outer s H vs Q E hr h => ?_)
  · obtain ⟨a, ns, rfl, _⟩ := h
    rfl
  · obtain ⟨sc, ns, rfl, hS, hns, q⟩ := h
    refine ⟨_, (pss_cons (ps_set (i := 1) sc_law_parts.nd rfl (Or.inl rfl) (pe_op op_add pe_int (pe_op op_mod (pe_fn G_law_cell_at (hr.mono (by decide)) (pa_cons (pv 0) (pa_cons pe_int pa_nil))) pe_int)))
      (pss_cons (ps_set (i := 2) sc_law_parts.nd rfl (Or.inr rfl) (pe_fn G_law_kinds (hr.mono (by decide)) (pa_cons (pe_fn G_law_cell_at (hr.mono (by decide)) (pa_cons (pv 0) (pa_cons pe_int pa_nil))) pa_nil)))
      (pss_cons (ps_set (i := 3) sc_law_parts.nd rfl (Or.inl rfl) (pe_slice (sl_listK (K := K) rfl) (pe_fn G_law_needs (hr.mono (by decide)) (pa_cons (pe_fn G_law_cell_at (hr.mono (by decide)) (pa_cons (pv 0) (pa_cons pe_int pa_nil))) (pa_cons (pv 1) (pa_cons (pv 2) pa_nil)))) po_none (po_some (pe_op op_mod (pe_op op_fdiv (pe_fn G_law_cell_at (hr.mono (by decide)) (pa_cons (pv 0) (pa_cons pe_int pa_nil))) pe_int) pe_int))))
      (pss_cons (ps_set (i := 4) sc_law_parts.nd rfl (Or.inl rfl) (pe_op op_mod (pe_fn G_law_cell_at (hr.mono (by decide)) (pa_cons (pv 0) (pa_cons pe_int pa_nil))) pe_int))
      (pss_cons (ps_setC (k := 5) (osc := defScope s_law_parts) (ON := ["_law_script", "_law_days", "_law_kinds_here", "_law_needs_here", "_law_many", "_law_persons", "_law_leave", "_law_wishes", "_law_rules", "_law_pairs", "_law_cell", "_law_name_here", "_law_other"]) (N := ["_law_p", "_law_script", "_law_kinds_here"]) (js := [none, some 0, some 2]) sc_law_parts.nd rfl (Or.inl rfl) ⟨rfl, by decide +kernel, by decide +kernel, by decide +kernel, rfl, by decide +kernel⟩ rfl rfl rfl (pi_range1 rfl tx.z_range (pa_cons (pv 4) pa_nil)) (fun _ _ _ _ _ => pg_name (i := 0) (show List.Nodup (["_law_p", "_law_script", "_law_kinds_here"] : List Str) from by decide +kernel) rfl (Or.inl rfl)) (fun _ _ _ _ _ => pifs_nil) (fun _ _ _ _ _ => (pe_fn G_law_person (hr.mono (by decide)) (pa_cons (pv 1) (pa_cons (pv 0) (pa_cons (pv 2) pa_nil))))))
      (pss_cons (ps_set (i := 6) sc_law_parts.nd rfl (Or.inl rfl) (pe_lst pa_nil))
      (pss_cons (ps_set (i := 7) sc_law_parts.nd rfl (Or.inl rfl) (pe_lst pa_nil))
      (pss_cons (ps_set (i := 8) sc_law_parts.nd rfl (Or.inl rfl) (pe_lst pa_nil))
      (pss_cons (ps_set (i := 9) sc_law_parts.nd rfl (Or.inl rfl) (pe_lst pa_nil))
      (pss_cons (ps_for PassesOwn.never rfl (pi_listK (K := K) rfl (pe_slice (sl_listK (K := K) rfl) (pv 0) (po_some pe_int) (po_some pe_int))) (pg_name (i := 10) sc_law_parts.nd rfl (Or.inl rfl)) (pss_cons (ps_set (i := 11) sc_law_parts.nd rfl (Or.inl rfl) (pe_txt (l := [97, 108, 108]) (by decide +kernel)))
      (pss_cons (ps_cut (ps_if (pt_cmpR op_gt (pv 4) pe_int (nomark _)) (pss_one (ps_set (i := 11) sc_law_parts.nd rfl (Or.inl rfl) (pe_ix (ix_tupK (K := K) rfl) (pe_ix (ix_listK (K := K) rfl) (pv 5) (pe_op op_mod (pe_op op_fdiv (pv 10) pe_int) (pv 4)) (fun _ _ => rfl)) pe_int (fun _ _ => rfl)))) pss_nil))
      (pss_cons (ps_set (i := 12) sc_law_parts.nd rfl (Or.inl rfl) (pv 11))
      (pss_cons (ps_cut (ps_if (pt_cmpR op_gt (pv 4) pe_int (nomark _)) (pss_one (ps_set (i := 12) sc_law_parts.nd rfl (Or.inl rfl) (pe_ix (ix_tupK (K := K) rfl) (pe_ix (ix_listK (K := K) rfl) (pv 5) (pe_op op_mod (pe_op op_add (pe_op op_add (pe_op op_fdiv (pv 10) pe_int) pe_int) (pe_op op_mod (pe_op op_fdiv (pv 10) pe_int) (pe_op op_sub (pv 4) pe_int))) (pv 4)) (fun _ _ => rfl)) pe_int (fun _ _ => rfl)))) pss_nil))
      (pss_cons (ps_cut (ps_if (PW.pt (pw_and (pt_cmpR op_eq (pe_op op_mod (pv 10) pe_int) pe_int (nomark _)) (pw_and1 (pt_cmpR op_gt (pv 4) pe_int (nomark _))))) (pss_one (ps_expr (pe_bm PySem.F.plainAttrs_list PySem.F.slot_list_append PySem.F.type_list_append mt_append (pv 6) (pa_cons (pe_tup (pa_cons (pv 11) (pa_cons (pe_op op_mod (pe_op op_fdiv (pv 10) pe_int) (pv 1)) pa_nil))) pa_nil)))) pss_nil))
      (pss_cons (ps_cut (ps_if (PW.pt (pw_and (pt_cmpR op_eq (pe_op op_mod (pv 10) pe_int) pe_int (nomark _)) (pw_and1 (pt_cmpR op_gt (pv 4) pe_int (nomark _))))) (pss_one (ps_expr (pe_bm PySem.F.plainAttrs_list PySem.F.slot_list_append PySem.F.type_list_append mt_append (pv 7) (pa_cons (pe_fn G_law_wish (hr.mono (by decide)) (pa_cons (pv 11) (pa_cons (pe_op op_fdiv (pv 10) pe_int) (pa_cons (pv 1) (pa_cons (pv 2) pa_nil))))) pa_nil)))) pss_nil))
      (pss_cons (ps_cut (ps_if (PW.pt (pw_and (pt_cmpR op_eq (pe_op op_mod (pv 10) pe_int) pe_int (nomark _)) (pw_and1 (pt_cmpR op_lt (pe_callB (call_len_seqK (K := K) rfl) rfl tx.z_len PySem.boot_len (pa_cons (pv 8) pa_nil)) pe_int (nomark _))))) (pss_one (ps_expr (pe_bm PySem.F.plainAttrs_list PySem.F.slot_list_append PySem.F.type_list_append mt_append (pv 8) (pa_cons (pe_tup (pa_cons (pe_ix (ix_listK (K := K) rfl) (pe_lst (pa_cons (pv 11) (pa_cons (pe_txt (l := [97, 108, 108]) (by decide +kernel)) pa_nil))) (pe_op op_mod (pe_op op_fdiv (pv 10) pe_int) pe_int) (fun _ _ => rfl)) (pa_cons (pe_fn G_law_rule (hr.mono (by decide)) (pa_cons (pe_op op_fdiv (pv 10) pe_int) pa_nil)) pa_nil))) pa_nil)))) pss_nil))
      (pss_one (ps_cut (ps_if (PW.pt (pw_and (pt_cmpR op_eq (pe_op op_mod (pv 10) pe_int) pe_int (nomark _)) (pw_and (pt_cmpR op_gt (pv 4) pe_int (nomark _)) (pw_and1 (pt_cmpR op_lt (pe_callB (call_len_seqK (K := K) rfl) rfl tx.z_len PySem.boot_len (pa_cons (pv 9) pa_nil)) pe_int (nomark _)))))) (pss_one (ps_expr (pe_bm PySem.F.plainAttrs_list PySem.F.slot_list_append PySem.F.type_list_append mt_append (pv 9) (pa_cons (pe_tup (pa_cons (pe_ix (ix_listK (K := K) rfl) (pe_lst (pa_cons (pe_txt (l := [97, 112, 97, 114, 116]) (by decide +kernel)) (pa_cons (pe_txt (l := [119, 105, 116, 104]) (by decide +kernel)) pa_nil))) (pe_op op_mod (pe_op op_fdiv (pv 10) pe_int) pe_int) (fun _ _ => rfl)) (pa_cons (pv 11) (pa_cons (pv 12) pa_nil)))) pa_nil)))) pss_nil)))))))))))
      (pss_one (ps_ret (pe_tup (pa_cons (pv 1) (pa_cons (pv 2) (pa_cons (pv 3) (pa_cons (pv 5) (pa_cons (pv 6) (pa_cons (pv 7) (pa_cons (pv 8) (pa_cons (pv 9) pa_nil))))))))))))))))))))), ?_⟩
    walk_at "st"
    clear G_law_cell_at G_law_kinds G_law_needs G_law_person G_law_wish G_law_rule
    have d0 : 0 ≤ cellF ns 0 % 14 := Int.emod_nonneg _ (by decide)
    have d1 : cellF ns 0 % 14 < 14 := Int.emod_lt_of_pos _ (by decide)
    have m0 : 0 ≤ cellF ns 3 % 9 := Int.emod_nonneg _ (by decide)
    have m1 : cellF ns 3 % 9 < 9 := Int.emod_lt_of_pos _ (by decide)
    have n0 : 0 ≤ cellF ns 0 / 14 % 20 := Int.emod_nonneg _ (by decide)
    have kl := kindsF_len (cellF ns 1)
    walk_at "rd"
    intro H1 s1
    have hS1 := s1.seq hS
    generalize kindsF (cellF ns 1) = ks at kl ⊢
    generalize cellF ns 0 % 14 = d at d0 d1 ⊢
    walk_at "rd"
    intro nl0 H2 nds nxs s2 nnl hnl hN
    have hS2 := (s1.trans s2).seq hS
    walk_at "rd"
    intro nl nnl2
    obtain ⟨H3, e3, hnl3, s3⟩ := newl (xs := cutV nxs none (some (cellF ns 0 / 14 % 20))) nnl2
    rw [← e3]
    have hN3 : All2 NdAt H3 (nds.take (cellF ns 0 / 14 % 20).toNat) (cutV nxs none (some (cellF ns 0 / 14 % 20))) := by
      have e : cutV nxs none (some (cellF ns 0 / 14 % 20)) = nxs.take (cellF ns 0 / 14 % 20).toNat := cut_to nxs _ n0
      rw [e]
      exact All2.takeL _ (hN.imp fun a y => NdAt.keeps a y _ _ s3.keeps)
    generalize nds.take (cellF ns 0 / 14 % 20).toNat = nds at hN3
    generalize cutV nxs none (some (cellF ns 0 / 14 % 20)) = nxs at hN3 hnl3 e3
    have t3 := (s1.trans s2).trans s3
    have hS3 := t3.seq hS
    clear hN hnl nnl s1 s2 s3 e3 nnl2 hS1 hS2 n0
    walk_at "rd"
    generalize cellF ns 3 % 9 = m at m0 m1 ⊢
    -- persons
    refine comp_hands (vs := (List.range m.toNat).map fun (i : Nat) => V.int (0 + (i : Int))) ((List.range m.toNat).map fun (i : Nat) => (0 + (i : Int))) (fun _ => true) (fun _ y H => ∃ n : Ps, PsT n y H ∧ n.past.length ≤ 100) (fun σ => ∃ v, σ = [v, some (.ref sc), some (T ks)]) (hands_range 0 m.toNat) (by rw [List.length_map, List.length_map]) (by rw [List.length_map, List.length_range]; omega) ⟨_, rfl⟩ (fun a y Ha Hb k h => let ⟨n, g, l⟩ := h; ⟨n, g.keeps _ _ _ _ k, l⟩) (fun i a v σ H' ha hv hσ s' Rf Rt _ hR => ?_) (fun pl H4 ys npl s4 hys hpl => ?_)
    · obtain ⟨w1, rfl⟩ := hσ
      have ha' := List.mem_of_getElem? ha
      obtain ⟨j, hj, rfl⟩ := List.mem_map.mp ha'
      have hv' : v = .int (0 + (j : Int)) := by
        rw [List.getElem?_map] at ha hv
        cases e : (List.range m.toNat)[i]? with
        | none => rw [e] at ha; cases ha
        | some x =>
          rw [e] at ha hv
          have z1 : (0 + (x : Int)) = 0 + (j : Int) := Option.some.inj ha
          have z2 : V.int (0 + (x : Int)) = v := Option.some.inj hv
          rw [← z2, z1]
      subst hv'
      have hS' := s'.seq hS3
      have j0 : (0 : Int) ≤ 0 + (j : Int) := by omega
      walk_at "rd"
      exact fun t H5 n s5 ht hp => hR _ _ _ rfl ⟨_, rfl⟩ s5 ⟨n, ⟨t, rfl, ht⟩, hp⟩
    rw [List.filter_eq_self.mpr fun _ _ => rfl] at hys
    obtain ⟨ps, hP, hpl8, hpp⟩ : ∃ ps : List Ps, All2 PsT H4 ps ys ∧ ps.length = m.toNat ∧ ∀ n ∈ ps, n.past.length ≤ 100 := by
      have hl := hys.len
      rw [List.length_map, List.length_range] at hl
      have key : ∀ (as : List Int) (ys : List V), All2 (fun _ y H => ∃ n : Ps, PsT n y H ∧ n.past.length ≤ 100) H4 as ys → ∃ ps : List Ps, All2 PsT H4 ps ys ∧ ps.length = ys.length ∧ ∀ n ∈ ps, n.past.length ≤ 100 := by
        intro as
        induction as with
        | nil => intro ys h; cases ys with | nil => exact ⟨[], trivial, rfl, fun n hn => by simp at hn⟩ | cons _ _ => exact h.elim
        | cons a r ih =>
          intro ys h
          cases ys with
          | nil => exact h.elim
          | cons y r' =>
            obtain ⟨⟨n, g, l⟩, h2⟩ := h
            obtain ⟨ps, z1, z2, z3⟩ := ih r' h2
            exact ⟨n :: ps, ⟨g, z1⟩, by simp [z2], fun x hx => by rcases List.mem_cons.mp hx with rfl | hx; exact l; exact z3 x hx⟩
      obtain ⟨ps, z1, z2, z3⟩ := key _ _ hys
      exact ⟨ps, z1, by omega, z3⟩
    have t4 := t3.trans s4
    have hnl4 := s4 _ _ hnl3
    have hN4 := hN3.imp fun a y => NdAt.keeps a y _ _ s4.keeps
    clear hys hnl3 hN3 hS3 s4 t3 npl
    -- four lists
    walk_at "rd"
    intro ll n1
    obtain ⟨Ha, ea, a1, ta⟩ := newl (xs := []) n1
    rw [← ea]
    walk_at "rd"
    intro wl n2
    obtain ⟨Hb, eb, b1, tb⟩ := newl (xs := []) n2
    rw [← eb]
    walk_at "rd"
    intro rl n3
    obtain ⟨Hc, ec, c1, tc⟩ := newl (xs := []) n3
    rw [← ec]
    walk_at "rd"
    intro ql n4
    obtain ⟨Hd, ed, dd1, td⟩ := newl (xs := []) n4
    rw [← ed]
    have y12 : ll ≠ wl := ne_of_none a1 n2
    have y13 : ll ≠ rl := ne_of_none (tb _ _ a1) n3
    have y14 : ll ≠ ql := ne_of_none ((tb.trans tc) _ _ a1) n4
    have y23 : wl ≠ rl := ne_of_none b1 n3
    have y24 : wl ≠ ql := ne_of_none (tc _ _ b1) n4
    have y34 : rl ≠ ql := ne_of_none c1 n4
    have f1 : H4 ll = none := n1
    have f2 : H4 wl = none := ta.free n2
    have f3 : H4 rl = none := (ta.trans tb).free n3
    have f4 : H4 ql = none := ((ta.trans tb).trans tc).free n4
    have I0 : PInv H4 Hd ll wl rl ql 0 0 0 0 := ⟨⟨[], [], [], [], [], ((tb.trans tc).trans td) _ _ a1, trivial, (tc.trans td) _ _ b1, td _ _ c1, dd1, Nat.le_refl _, Nat.le_refl _, Nat.le_refl _, Nat.le_refl _⟩, ((ta.trans tb).trans tc).trans td⟩
    have hSd := (t4.trans I0.sm).seq hS
    clear ea eb ec ed a1 b1 c1 dd1 ta tb tc td n1 n2 n3 n4
    walk_at "rd"
    intro cl ncl
    rw [cutV_map]
    obtain ⟨He, ee, hcl, se⟩ := newl (xs := (cutN ns (some 12) (some 64)).map V.int) ncl
    rw [← ee]
    have lcs : (cutN ns (some 12) (some 64)).length ≤ 63 := Nat.le_trans (cut_len ns _ _) hns
    generalize cutN ns (some 12) (some 64) = cs at lcs hcl ee ⊢
    have I1 := I0.same se
    have nc : ∀ {a : Addr} {o : HO}, Hd a = some o → cl ≠ a := fun e => (ne_of_none e ncl).symm
    obtain ⟨nc1, nc2, nc3, nc4⟩ : cl ≠ ll ∧ cl ≠ wl ∧ cl ≠ rl ∧ cl ≠ ql := by
      obtain ⟨ls, zs, ws, rs, qs, g1, g2, g3, g4, g5, _⟩ := I0.ex
      exact ⟨nc g1, nc g3, nc g4, nc g5⟩
    clear I0 nc se ee ncl hSd
    have hlp := hP.len
    walk_at "rd"
    refine for_list (K := K) (xs := cs.map V.int) (fun i σ H5 => Here (∃ v1 v2 v3, σ = [some (.ref sc), some (.int (1 + d)), some (T ks), some (.ref nl), some (.int m), some (.ref pl), some (.ref ll), some (.ref wl), some (.ref rl), some (.ref ql), v1, v2, v3] ∧ PInv H4 H5 ll wl rl ql i i i i ∧ H5 cl = some (.lst (cs.map V.int)))) (Here.mk ⟨none, none, none, rfl, I1, hcl⟩) (fun i σ H5 _ hv => by obtain ⟨_, _, _, _, _, e⟩ := hv.out; exact SqL.of e) ?_ ?_
    · rintro i x σ H5 hx hv
      obtain ⟨v1, v2, v3, rfl, I5, hcl5⟩ := hv.out
      have hi : i < cs.length := by have := (List.getElem?_eq_some_iff.mp hx).1; rwa [List.length_map] at this
      obtain ⟨z, rfl⟩ : ∃ z, x = .int z := by
        obtain ⟨n, _, e⟩ := List.mem_map.mp (List.mem_of_getElem? hx)
        exact ⟨n, e.symm⟩
      have hpl5 := I5.sm _ _ hpl
      have at_ : ∀ k : Int, 0 ≤ k → k < m → ∃ (t : Addr) (n : Ps), atI ys k = some (.ref t) ∧ H5 t = some (.tup [T n.nm, T n.sk, .int n.most, .int n.car, T n.past]) := fun k k0 k1 => by
        have hn : ps[k.toNat]? = some ps[k.toNat] := List.getElem?_eq_getElem (by omega)
        obtain ⟨y, hy, t, rfl, ht⟩ := hP.get hn
        refine ⟨t, _, ?_, I5.sm _ _ ht⟩
        have := atI_nat hy
        rwa [Int.toNat_of_nonneg k0] at this
      walk_at "rd"
      refine tCut.mk (fun σ' H' => Here (∃ nm, σ' = [some (.ref sc), some (.int (1 + d)), some (T ks), some (.ref nl), some (.int m), some (.ref pl), some (.ref ll), some (.ref wl), some (.ref rl), some (.ref ql), some (.int z), some (T nm), v3] ∧ H' = H5)) ?_ ?_
      · walk_at "rd"
        refine ite2 (fun c => ?_) (fun c => ?_)
        · have c' : 0 < m := of_decide_eq_true c
          obtain ⟨t, n, e1, e2⟩ := at_ (z / 5 % m) (Int.emod_nonneg _ (by omega)) (Int.emod_lt_of_pos _ c')
          obtain ⟨e3, _⟩ := at5 (T n.nm) (T n.sk) (.int n.most) (.int n.car) (T n.past)
          walk_at "rd"
          exact Here.mk ⟨_, rfl, rfl⟩
        · exact Here.mk ⟨_, rfl, rfl⟩
      rintro σ' H' hv
      obtain ⟨nm, rfl, rfl⟩ := hv.out
      walk_at "rd"
      refine tCut.mk (fun σ' H'' => Here (∃ ot, σ' = [some (.ref sc), some (.int (1 + d)), some (T ks), some (.ref nl), some (.int m), some (.ref pl), some (.ref ll), some (.ref wl), some (.ref rl), some (.ref ql), some (.int z), some (T nm), some (T ot)] ∧ H'' = H')) ?_ ?_
      · walk_at "rd"
        refine ite2 (fun c => ?_) (fun c => ?_)
        · have c' : 1 < m := of_decide_eq_true c
          obtain ⟨t, n, e1, e2⟩ := at_ ((z / 5 + 1 + z / 40 % (m - 1)) % m) (Int.emod_nonneg _ (by omega)) (Int.emod_lt_of_pos _ (by omega))
          obtain ⟨e3, _⟩ := at5 (T n.nm) (T n.sk) (.int n.most) (.int n.car) (T n.past)
          walk_at "rd"
          exact Here.mk ⟨_, rfl, rfl⟩
        · exact Here.mk ⟨_, rfl, rfl⟩
      rintro σ' H'' hv
      obtain ⟨ot, rfl, rfl⟩ := hv.out
      clear at_ hpl5
      -- leave
      refine tCut.mk (fun σ' H' => Here (σ' = [some (.ref sc), some (.int (1 + d)), some (T ks), some (.ref nl), some (.int m), some (.ref pl), some (.ref ll), some (.ref wl), some (.ref rl), some (.ref ql), some (.int z), some (T nm), some (T ot)] ∧ PInv H4 H' ll wl rl ql (i + 1) i i i ∧ H' cl = some (.lst (cs.map V.int)))) ?_ ?_
      · walk_at "rd"
        refine ite2 (fun c => ?_) (fun c => ?_)
        · walk_at "rd"
          refine ite2 (fun c2 => ?_) (fun c2 => ?_)
          · obtain ⟨ls, zs, ws, rs, qs, g1, g2, g3, g4, g5, g6, g7, g8, g9⟩ := I5.ex
            walk_at "rd"
            intro t ht
            obtain ⟨H6, e6, ht6, s6⟩ := newt (xs := [T nm, V.int (z / 40 % (1 + d))]) ht
            rw [← e6]
            have k1 := s6 _ _ g1
            walk_at "rd"
            have kk : Keeps H6 (upd H6 ll (.lst (zs ++ [.ref t]))) := keeps_lst k1
            refine Here.mk ⟨rfl, ⟨⟨ls ++ [(nm, z / 40 % (1 + d))], zs ++ [.ref t], ws, rs, qs, upd_same, All2.snoc (g2.imp fun a y => LvT.keeps a y _ _ (s6.keeps.trans kk)) ⟨t, rfl, kk _ _ ht6 (fun zs z => by cases z)⟩, ?_, ?_, ?_, by rw [List.length_append, List.length_singleton]; omega, g7, g8, g9⟩, (I5.sm.trans s6).upd f1⟩, ?_⟩
            · rw [upd_ne y12.symm]; exact s6 _ _ g3
            · rw [upd_ne y13.symm]; exact s6 _ _ g4
            · rw [upd_ne y14.symm]; exact s6 _ _ g5
            · rw [upd_ne nc1]; exact s6 _ _ hcl5
          · exact Here.mk ⟨rfl, I5.up (by omega) (Nat.le_refl _) (Nat.le_refl _) (Nat.le_refl _), hcl5⟩
        · walk_at "rd"
          exact Here.mk ⟨rfl, I5.up (by omega) (Nat.le_refl _) (Nat.le_refl _) (Nat.le_refl _), hcl5⟩
      clear I5 hcl5
      rintro σ' H5 hv
      obtain ⟨rfl, I5, hcl5⟩ := hv.out
      -- wishes
      refine tCut.mk (fun σ' H' => Here (σ' = [some (.ref sc), some (.int (1 + d)), some (T ks), some (.ref nl), some (.int m), some (.ref pl), some (.ref ll), some (.ref wl), some (.ref rl), some (.ref ql), some (.int z), some (T nm), some (T ot)] ∧ PInv H4 H' ll wl rl ql (i + 1) (i + 1) i i ∧ H' cl = some (.lst (cs.map V.int)))) ?_ ?_
      · walk_at "rd"
        refine ite2 (fun c => ?_) (fun c => ?_)
        · walk_at "rd"
          refine ite2 (fun c2 => ?_) (fun c2 => ?_)
          · obtain ⟨ls, zs, ws, rs, qs, g1, g2, g3, g4, g5, g6, g7, g8, g9⟩ := I5.ex
            walk_at "rd"
            intro t H6 s6
            have k3 := s6 _ _ g3
            walk_at "rd"
            have kk : Keeps H6 (upd H6 wl (.lst (ws ++ [.ref t]))) := keeps_lst k3
            refine Here.mk ⟨rfl, ⟨⟨ls, zs, ws ++ [.ref t], rs, qs, ?_, g2.imp fun a y => LvT.keeps a y _ _ (s6.keeps.trans kk), upd_same, ?_, ?_, g6, by rw [List.length_append, List.length_singleton]; omega, g8, g9⟩, (I5.sm.trans s6).upd f2⟩, ?_⟩
            · rw [upd_ne y12]; exact s6 _ _ g1
            · rw [upd_ne y23.symm]; exact s6 _ _ g4
            · rw [upd_ne y24.symm]; exact s6 _ _ g5
            · rw [upd_ne nc2]; exact s6 _ _ hcl5
          · exact Here.mk ⟨rfl, I5.up (Nat.le_refl _) (by omega) (Nat.le_refl _) (Nat.le_refl _), hcl5⟩
        · walk_at "rd"
          exact Here.mk ⟨rfl, I5.up (Nat.le_refl _) (by omega) (Nat.le_refl _) (Nat.le_refl _), hcl5⟩
      clear I5 hcl5
      rintro σ' H5 hv
      obtain ⟨rfl, I5, hcl5⟩ := hv.out
      -- rules
      refine tCut.mk (fun σ' H' => Here (σ' = [some (.ref sc), some (.int (1 + d)), some (T ks), some (.ref nl), some (.int m), some (.ref pl), some (.ref ll), some (.ref wl), some (.ref rl), some (.ref ql), some (.int z), some (T nm), some (T ot)] ∧ PInv H4 H' ll wl rl ql (i + 1) (i + 1) (i + 1) i ∧ H' cl = some (.lst (cs.map V.int)))) ?_ ?_
      · have I6 := I5
        obtain ⟨ls, zs, ws, rs, qs, g1, g2, g3, g4, g5, g6, g7, g8, g9⟩ := I6.ex
        walk_at "rd"
        refine ite2 (fun c => ?_) (fun c => ?_)
        · walk_at "rd"
          refine ite2 (fun c2 => ?_) (fun c2 => ?_)
          · obtain ⟨wd, hw, _⟩ := two_at nm [97, 108, 108] (z / 5 % 2) (Int.emod_nonneg _ (by decide)) (Int.emod_lt_of_pos _ (by decide))
            walk_at "rd"
            intro p hp
            walk_at "rd"
            intro t H6 s6
            walk_at "rd"
            intro t2 ht2
            have s7 : Same H5 (upd H6 t2 (.tup [T wd, V.ref t])) := ((same_new hp _).trans s6).trans (same_new ht2 _)
            have k4 := s7 _ _ g4
            walk_at "rd"
            have kk : Keeps (upd H6 t2 (.tup [T wd, V.ref t])) (upd (upd H6 t2 (.tup [T wd, V.ref t])) rl (.lst (rs ++ [.ref t2]))) := keeps_lst k4
            refine Here.mk ⟨rfl, ⟨⟨ls, zs, ws, rs ++ [.ref t2], qs, ?_, g2.imp fun a y => LvT.keeps a y _ _ (s7.keeps.trans kk), ?_, upd_same, ?_, g6, g7, by rw [List.length_append, List.length_singleton]; omega, g9⟩, (I5.sm.trans s7).upd f3⟩, ?_⟩
            · rw [upd_ne y13]; exact s7 _ _ g1
            · rw [upd_ne y23]; exact s7 _ _ g3
            · rw [upd_ne y34.symm]; exact s7 _ _ g5
            · rw [upd_ne nc3]; exact s7 _ _ hcl5
          · exact Here.mk ⟨rfl, I5.up (Nat.le_refl _) (Nat.le_refl _) (by omega) (Nat.le_refl _), hcl5⟩
        · walk_at "rd"
          exact Here.mk ⟨rfl, I5.up (Nat.le_refl _) (Nat.le_refl _) (by omega) (Nat.le_refl _), hcl5⟩
      clear I5 hcl5
      rintro σ' H5 hv
      obtain ⟨rfl, I5, hcl5⟩ := hv.out
      -- pairs
      refine tCut.mk (fun σ' H' => Here (σ' = [some (.ref sc), some (.int (1 + d)), some (T ks), some (.ref nl), some (.int m), some (.ref pl), some (.ref ll), some (.ref wl), some (.ref rl), some (.ref ql), some (.int z), some (T nm), some (T ot)] ∧ PInv H4 H' ll wl rl ql (i + 1) (i + 1) (i + 1) (i + 1) ∧ H' cl = some (.lst (cs.map V.int)))) ?_ (fun σ' H' hv => by obtain ⟨e, i1, e2⟩ := hv.out; exact Here.mk ⟨_, _, _, e, i1, e2⟩)
      have I6 := I5
      obtain ⟨ls, zs, ws, rs, qs, g1, g2, g3, g4, g5, g6, g7, g8, g9⟩ := I6.ex
      have no : Here ([some (.ref sc), some (.int (1 + d)), some (T ks), some (.ref nl), some (.int m), some (.ref pl), some (.ref ll), some (.ref wl), some (.ref rl), some (.ref ql), some (.int z), some (T nm), some (T ot)] = [some (.ref sc), some (.int (1 + d)), some (T ks), some (.ref nl), some (.int m), some (.ref pl), some (.ref ll), some (.ref wl), some (.ref rl), some (.ref ql), some (.int z), some (T nm), some (T ot)] ∧ PInv H4 H5 ll wl rl ql (i + 1) (i + 1) (i + 1) (i + 1) ∧ H5 cl = some (.lst (cs.map V.int))) := Here.mk ⟨rfl, I5.up (Nat.le_refl _) (Nat.le_refl _) (Nat.le_refl _) (by omega), hcl5⟩
      walk_at "rd"
      refine ite2 (fun c => ?_) (fun c => ?_)
      · walk_at "rd"
        refine ite2 (fun c2 => ?_) (fun c2 => ?_)
        · walk_at "rd"
          refine ite2 (fun c3 => ?_) (fun c3 => ?_)
          · obtain ⟨wd, hw, _⟩ := two_at [97, 112, 97, 114, 116] [119, 105, 116, 104] (z / 320 % 2) (Int.emod_nonneg _ (by decide)) (Int.emod_lt_of_pos _ (by decide))
            walk_at "rd"
            intro p hp
            walk_at "rd"
            intro t2 ht2
            have s7 : Same H5 (upd (upd H5 p (.lst [T [97, 112, 97, 114, 116], T [119, 105, 116, 104]])) t2 (.tup [T wd, T nm, T ot])) := (same_new hp _).trans (same_new ht2 _)
            have k5 := s7 _ _ g5
            walk_at "rd"
            have kk : Keeps (upd (upd H5 p (.lst [T [97, 112, 97, 114, 116], T [119, 105, 116, 104]])) t2 (.tup [T wd, T nm, T ot])) (upd (upd (upd H5 p (.lst [T [97, 112, 97, 114, 116], T [119, 105, 116, 104]])) t2 (.tup [T wd, T nm, T ot])) ql (.lst (qs ++ [.ref t2]))) := keeps_lst k5
            refine Here.mk ⟨rfl, ⟨⟨ls, zs, ws, rs, qs ++ [.ref t2], ?_, g2.imp fun a y => LvT.keeps a y _ _ (s7.keeps.trans kk), ?_, ?_, upd_same, g6, g7, g8, by rw [List.length_append, List.length_singleton]; omega⟩, (I5.sm.trans s7).upd f4⟩, ?_⟩
            · rw [upd_ne y14]; exact s7 _ _ g1
            · rw [upd_ne y24]; exact s7 _ _ g3
            · rw [upd_ne y34]; exact s7 _ _ g4
            · rw [upd_ne nc4]; exact s7 _ _ hcl5
          · exact no
        · walk_at "rd"
          exact no
      · walk_at "rd"
        exact no
    rintro σ H5 hv
    obtain ⟨v1, v2, v3, rfl, I5, hcl5⟩ := hv.out
    obtain ⟨ls, zs, ws, rs, qs, g1, g2, g3, g4, g5, _⟩ := I5.ex
    walk_at "rd"
    intro t ht
    have s6 : Same H5 (upd H5 t (.tup [.int (1 + d), T ks, .ref nl, .ref pl, .ref ll, .ref wl, .ref rl, .ref ql])) := same_new ht _
    have s46 := I5.sm.trans s6
    exact q t _ (1 + d) ks nds ps ls nl pl ll wl rl ql nxs ys zs ws rs qs (t4.trans s46) upd_same (s46 _ _ hnl4) (hN4.imp fun a y => NdAt.keeps a y _ _ s46.keeps) (s46 _ _ hpl) (hP.imp fun a y => PsT.keeps a y _ _ s46.keeps) (s6 _ _ g1) (g2.imp fun a y => LvT.keeps a y _ _ s6.keeps) (s6 _ _ g3) (s6 _ _ g4) (s6 _ _ g5) (by omega) (by omega) kl.1 kl.2 (by omega) hpp
end

def sk1 (d : Int) (p : Ps × List Nat) : List (List V) := if (onB d p && skB d p) = true then [skV d p] else []
def lv1 (ls : List (List Nat × Int)) (d : Int) (p : Ps × List Nat) : List (List V) := if (onB d p && lvB ls d p) = true then [lvV d p] else []
def mo1 (d : Int) (p : Ps × List Nat) : List (List V) := if (onB d p && moB d p) = true then [moV d p] else []
theorem ff_step {l : List (Ps × List Nat)} {f g : Ps × List Nat → Bool} {v : Ps × List Nat → List V} {i : Nat} {p : Ps × List Nat} (h : l[i]? = some p) : (((l.take (i + 1)).filter f).filter g).map v = (((l.take i).filter f).filter g).map v ++ (if (f p && g p) = true then [v p] else []) := by
  rw [List.take_add_one, h, List.filter_append, List.filter_append, List.map_append]
  congr 1
  show (List.filter g (List.filter f [p])).map v = _
  rw [List.filter_cons]
  cases hf : f p
  · rfl
  · show (List.filter g [p]).map v = _
    rw [List.filter_cons]
    cases hg : g p <;> rfl
def sp_pf : Sp := fun vs H Q _ => ∃ (d : Int) (row : List Nat) (pt ll : Addr) (n : Ps) (ls : List (List Nat × Int)) (zs : List V), vs = [.int d, T row, .ref pt, .ref ll] ∧ H pt = some (.tup [T n.nm, T n.sk, .int n.most, .int n.car, T n.past]) ∧ H ll = some (.lst zs) ∧ All2 LvT H ls zs ∧ 0 ≤ d ∧ d < (row.length : Int) ∧ row.length ≤ 1000 ∧
  ∀ (t : Addr) (H' : Hp) (b1 b2 b3 : Addr) (y1 y2 y3 : List V), Same H H' → H' t = some (.tup [.ref b1, .ref b2, .ref b3]) → H' b1 = some (.lst y1) → All2 TpV H' (sk1 d (n, row)) y1 → H' b2 = some (.lst y2) → All2 TpV H' (lv1 ls d (n, row)) y2 → H' b3 = some (.lst y3) → All2 TpV H' (mo1 d (n, row)) y3 → Q (.ref t) H'
section
variable {P : Program} {w : World} {K : PySem.W.Frag} {mg : Str → Option Value} {base : Heap} {C_Person C_House : Addr}

theorem g_law_person_faults (tx : Tx K mg C_Person C_House) : FnG P w K mg base "_law_person_faults" 1 ["_law_day", "_law_row", "_law_person_here", "_law_leave"] sp_pf := by
  refine tx.f_law_person_faults.g sc_law_person_faults (fun _ _ _ _ _ _ us hl => match us, hl with | [_, _, _, _], _ => rfl) (fun vs H Q E h => ?_) (fun f cdv A outer s H vs Q E hr h => ?_)
  · obtain ⟨d, row, pt, ll, n, ls, zs, rfl, _⟩ := h
    rfl
  · obtain ⟨d, row, pt, ll, n, ls, zs, rfl, hpt, hll, hA, d0, d1, hrl, q⟩ := h
    refine ⟨_, (pss_cons (ps_asg (pv 2) (pg_tup rfl (pgs_cons (pg_name (i := 4) sc_law_person_faults.nd rfl (Or.inl rfl)) (pgs_cons (pg_name (i := 5) sc_law_person_faults.nd rfl (Or.inl rfl)) (pgs_cons (pg_name (i := 6) sc_law_person_faults.nd rfl (Or.inl rfl)) (pgs_cons (pg_name (i := 7) sc_law_person_faults.nd rfl (Or.inl rfl)) (pgs_cons (pg_name (i := 8) sc_law_person_faults.nd rfl (Or.inl rfl)) pgs_nil)))))))
      (pss_cons (ps_set (i := 9) sc_law_person_faults.nd rfl (Or.inl rfl) (pe_lst pa_nil))
      (pss_cons (ps_set (i := 10) sc_law_person_faults.nd rfl (Or.inl rfl) (pe_lst pa_nil))
      (pss_cons (ps_set (i := 11) sc_law_person_faults.nd rfl (Or.inl rfl) (pe_lst pa_nil))
      (pss_cons (ps_set (i := 12) sc_law_person_faults.nd rfl (Or.inl rfl) (pe_callB (call_len_seqK (K := K) rfl) rfl tx.z_len PySem.boot_len (pa_cons (pe_comp (osc := defScope s_law_person_faults) (ON := ["_law_day", "_law_row", "_law_person_here", "_law_leave", "_law_name_here", "_law_skills", "_law_most", "_law_carried", "_law_past", "_law_skill", "_law_away", "_law_beyond", "_law_many"]) (N := ["_law_mark"]) (js := [none]) ⟨rfl, by decide +kernel, by decide +kernel, by decide +kernel, rfl, by decide +kernel⟩ rfl rfl rfl (pi_txt (pe_slice sl_txt (pv 1) po_none (po_some (pe_op op_add (pv 0) pe_int)))) (fun _ _ _ _ _ => pg_name (i := 0) (show List.Nodup (["_law_mark"] : List Str) from by decide +kernel) rfl (Or.inl rfl)) (fun _ _ _ _ _ => pifs_one (pt_cmpR op_ne (pv 0) (pe_txt (l := [45]) (by decide +kernel)) (nomark _))) (fun _ _ _ _ _ => (pv 0))) pa_nil)))
      (pss_cons (ps_cut (ps_if (pt_cmpR op_ne (pe_ix ix_txt (pv 1) (pv 0) (fun _ _ => rfl)) (pe_txt (l := [45]) (by decide +kernel)) (nomark _)) (pss_cons (ps_cut (ps_if (pt_cmpR op_notinS (pe_ix ix_txt (pv 1) (pv 0) (fun _ _ => rfl)) (pv 5) rfl) (pss_one (ps_expr (pe_bm PySem.F.plainAttrs_list PySem.F.slot_list_append PySem.F.type_list_append mt_append (pv 9) (pa_cons (pe_tup (pa_cons (pv 0) (pa_cons (pe_txt (l := [115, 107, 105, 108, 108]) (by decide +kernel)) (pa_cons (pv 4) (pa_cons (pe_ix ix_txt (pv 1) (pv 0) (fun _ _ => rfl)) pa_nil))))) pa_nil)))) pss_nil))
      (pss_cons (ps_cut (ps_if (pt_cmpR (op_inT (K := K) rfl (hu_of hr)) (pe_tup (pa_cons (pv 4) (pa_cons (pv 0) pa_nil))) (pv 3) rfl) (pss_one (ps_expr (pe_bm PySem.F.plainAttrs_list PySem.F.slot_list_append PySem.F.type_list_append mt_append (pv 10) (pa_cons (pe_tup (pa_cons (pv 0) (pa_cons (pe_txt (l := [108, 101, 97, 118, 101]) (by decide +kernel)) (pa_cons (pv 4) (pa_cons (pe_ix ix_txt (pv 1) (pv 0) (fun _ _ => rfl)) pa_nil))))) pa_nil)))) pss_nil))
      (pss_one (ps_cut (ps_if (pt_cmpR op_gt (pv 12) (pv 6) (nomark _)) (pss_one (ps_expr (pe_bm PySem.F.plainAttrs_list PySem.F.slot_list_append PySem.F.type_list_append mt_append (pv 11) (pa_cons (pe_tup (pa_cons (pv 0) (pa_cons (pe_txt (l := [109, 111, 115, 116]) (by decide +kernel)) (pa_cons (pv 4) (pa_cons (pv 12) pa_nil))))) pa_nil)))) pss_nil))))) pss_nil))
      (pss_one (ps_ret (pe_tup (pa_cons (pv 9) (pa_cons (pv 10) (pa_cons (pv 11) pa_nil)))))))))))), ?_⟩
    walk_at "st"
    have ea := mk_at d0 d1
    have cl := cut_len row none (some (d + 1))
    walk_at "rd"
    intro b1 n1
    obtain ⟨Ha, e1, g1, s1⟩ := newl (xs := []) n1
    rw [← e1]
    walk_at "rd"
    intro b2 n2
    obtain ⟨Hb, e2, g2, s2⟩ := newl (xs := []) n2
    rw [← e2]
    walk_at "rd"
    intro b3 n3
    obtain ⟨Hc, e3, g3, s3⟩ := newl (xs := []) n3
    rw [← e3]
    have y12 : b1 ≠ b2 := ne_of_none g1 n2
    have y13 : b1 ≠ b3 := ne_of_none (s2 _ _ g1) n3
    have y23 : b2 ≠ b3 := ne_of_none g2 n3
    have f1 : H b1 = none := n1
    have f2 : H b2 = none := s1.free n2
    have f3 : H b3 = none := (s1.trans s2).free n3
    walk_at "rd"
    refine comp_by (fun x => !decide (x = T [45])) (fun x => x) (hands_txt (cutN row none (some (d + 1)))) ?_ (fun x hx H' s' R hR => ?_) (fun x hx hp H' s' R hR => ?_) (fun D H0 hD s4 hDD => ?_)
    · rw [List.length_map]; omega
    · obtain ⟨k, _, rfl⟩ := List.mem_map.mp hx
      walk_at "rd"
      exact hR H' (Same.refl _)
    · walk_at "rd"
      exact hR H' (Same.refl _)
    have t0 : Same H H0 := ((s1.trans s2).trans s3).trans s4
    have k1 := ((s2.trans s3).trans s4) _ _ g1
    have k2 := (s3.trans s4) _ _ g2
    have k3 := s4 _ _ g3
    clear e1 e2 e3 g1 g2 g3 s1 s2 s3 s4 n1 n2 n3 hD
    walk_at "rd"
    rw [dut_txt]
    clear hDD
    refine tCut.mk (fun σ' H' => Here (∃ y1 y2 y3, σ' = [some (.int d), some (T row), some (.ref pt), some (.ref ll), some (T n.nm), some (T n.sk), some (.int n.most), some (.int n.car), some (T n.past), some (.ref b1), some (.ref b2), some (.ref b3), some (.int (dut (cutN row none (some (d + 1))) : Nat))] ∧ H' b1 = some (.lst y1) ∧ All2 TpV H' (sk1 d (n, row)) y1 ∧ H' b2 = some (.lst y2) ∧ All2 TpV H' (lv1 ls d (n, row)) y2 ∧ H' b3 = some (.lst y3) ∧ All2 TpV H' (mo1 d (n, row)) y3 ∧ Same H H')) ?_ ?_
    · walk_at "rd"
      refine ite2 (fun c => ?_) (fun c => ?_)
      · have on : onB d (n, row) = true := by
          unfold onB
          rw [decide_eq_false fun z => ?_]
          · rfl
          · have z' : mkA row d = 45 := z
            rw [z'] at c
            exact absurd c (by decide)
        refine tCut.mk (fun σ' H' => Here (∃ y1, σ' = [some (.int d), some (T row), some (.ref pt), some (.ref ll), some (T n.nm), some (T n.sk), some (.int n.most), some (.int n.car), some (T n.past), some (.ref b1), some (.ref b2), some (.ref b3), some (.int (dut (cutN row none (some (d + 1))) : Nat))] ∧ H' b1 = some (.lst y1) ∧ All2 TpV H' (sk1 d (n, row)) y1 ∧ H' b2 = some (.lst []) ∧ H' b3 = some (.lst []) ∧ Same H H')) ?_ ?_
        · walk_at "rd"
          refine ite2 (fun c => ?_) (fun c => ?_)
          · walk_at "rd"
            intro t ht
            have s5 : Same H0 (upd H0 t (.tup [.int d, T wSkill, T n.nm, T [mkA row d]])) := same_new ht _
            have k1' := s5 _ _ k1
            walk_at "rd"
            refine Here.mk ⟨[.ref t], rfl, upd_same, ?_, ?_, ?_, (t0.trans s5).upd f1⟩
            · unfold sk1
              rw [on, show skB d (n, row) = true from c]
              exact ⟨⟨t, rfl, keeps_lst k1' _ _ upd_same (fun zs z => by cases z)⟩, trivial⟩
            · rw [upd_ne y12.symm]; exact s5 _ _ k2
            · rw [upd_ne y13.symm]; exact s5 _ _ k3
          · refine Here.mk ⟨[], rfl, k1, ?_, k2, k3, t0⟩
            unfold sk1
            rw [show skB d (n, row) = false from Bool.eq_false_iff.mpr c, Bool.and_false]
            exact trivial
        clear k1 k2 k3 t0
        rintro σ' H1 hv
        obtain ⟨y1, rfl, k1, A1, k2, k3, t1⟩ := hv.out
        refine tCut.mk (fun σ' H' => Here (∃ y2, σ' = [some (.int d), some (T row), some (.ref pt), some (.ref ll), some (T n.nm), some (T n.sk), some (.int n.most), some (.int n.car), some (T n.past), some (.ref b1), some (.ref b2), some (.ref b3), some (.int (dut (cutN row none (some (d + 1))) : Nat))] ∧ H' b1 = some (.lst y1) ∧ All2 TpV H' (sk1 d (n, row)) y1 ∧ H' b2 = some (.lst y2) ∧ All2 TpV H' (lv1 ls d (n, row)) y2 ∧ H' b3 = some (.lst []) ∧ Same H H')) ?_ ?_
        · walk_at "rd"
          intro t2 ht2
          obtain ⟨H2, e2, ht22, s2⟩ := newt (xs := [T n.nm, V.int d]) ht2
          rw [← e2]
          have t2' := t1.trans s2
          have k6 := t2' _ _ hll
          have k7 := lv_tp (K := K) (hA.imp fun a y => LvT.keeps a y _ _ t2'.keeps)
          have fl : ([T n.nm, V.int d] : List V).all flatV = true := rfl
          walk_at "rd"
          refine ite2 (fun c => ?_) (fun c => ?_)
          · have k2' := s2 _ _ k2
            walk_at "rd"
            intro t ht
            have s5 : Same H2 (upd H2 t (.tup [.int d, T wLeave, T n.nm, T [mkA row d]])) := same_new ht _
            have k2'' := s5 _ _ k2'
            walk_at "rd"
            have kk : Keeps (upd H2 t (.tup [.int d, T wLeave, T n.nm, T [mkA row d]])) (upd (upd H2 t (.tup [.int d, T wLeave, T n.nm, T [mkA row d]])) b2 (.lst ([] ++ [.ref t]))) := keeps_lst k2''
            refine Here.mk ⟨[.ref t], rfl, ?_, A1.imp fun a y => TpV.keeps a y _ _ ((s2.trans s5).keeps.trans kk), upd_same, ?_, ?_, (t2'.trans s5).upd f2⟩
            · rw [upd_ne y12]; exact s5 _ _ (s2 _ _ k1)
            · unfold lv1
              rw [on, show lvB ls d (n, row) = true from c]
              exact ⟨⟨t, rfl, kk _ _ upd_same (fun zs z => by cases z)⟩, trivial⟩
            · rw [upd_ne y23.symm]; exact s5 _ _ (s2 _ _ k3)
          · refine Here.mk ⟨[], rfl, s2 _ _ k1, A1.imp fun a y => TpV.keeps a y _ _ s2.keeps, s2 _ _ k2, ?_, s2 _ _ k3, t2'⟩
            unfold lv1
            rw [show lvB ls d (n, row) = false from Bool.eq_false_iff.mpr c, Bool.and_false]
            exact trivial
        clear k1 k2 k3 t1 A1
        rintro σ' H1 hv
        obtain ⟨y2, rfl, k1, A1, k2, A2, k3, t1⟩ := hv.out
        refine tCut.mk (fun σ' H' => Here (∃ y1 y2 y3, σ' = [some (.int d), some (T row), some (.ref pt), some (.ref ll), some (T n.nm), some (T n.sk), some (.int n.most), some (.int n.car), some (T n.past), some (.ref b1), some (.ref b2), some (.ref b3), some (.int (dut (cutN row none (some (d + 1))) : Nat))] ∧ H' b1 = some (.lst y1) ∧ All2 TpV H' (sk1 d (n, row)) y1 ∧ H' b2 = some (.lst y2) ∧ All2 TpV H' (lv1 ls d (n, row)) y2 ∧ H' b3 = some (.lst y3) ∧ All2 TpV H' (mo1 d (n, row)) y3 ∧ Same H H')) ?_ (fun _ _ hv => hv)
        walk_at "rd"
        refine ite2 (fun c => ?_) (fun c => ?_)
        · walk_at "rd"
          intro t ht
          have s5 : Same H1 (upd H1 t (.tup [.int d, T wMost, T n.nm, .int (dut (cutN row none (some (d + 1))) : Nat)])) := same_new ht _
          have k3' := s5 _ _ k3
          walk_at "rd"
          have kk : Keeps (upd H1 t (.tup [.int d, T wMost, T n.nm, .int (dut (cutN row none (some (d + 1))) : Nat)])) (upd (upd H1 t (.tup [.int d, T wMost, T n.nm, .int (dut (cutN row none (some (d + 1))) : Nat)])) b3 (.lst ([] ++ [.ref t]))) := keeps_lst k3'
          refine Here.mk ⟨y1, y2, [.ref t], rfl, ?_, A1.imp fun a y => TpV.keeps a y _ _ (s5.keeps.trans kk), ?_, A2.imp fun a y => TpV.keeps a y _ _ (s5.keeps.trans kk), upd_same, ?_, (t1.trans s5).upd f3⟩
          · rw [upd_ne y13]; exact s5 _ _ k1
          · rw [upd_ne y23]; exact s5 _ _ k2
          · unfold mo1
            rw [on, show moB d (n, row) = true from c]
            exact ⟨⟨t, rfl, kk _ _ upd_same (fun zs z => by cases z)⟩, trivial⟩
        · refine Here.mk ⟨y1, y2, [], rfl, k1, A1, k2, A2, k3, ?_, t1⟩
          unfold mo1
          rw [show moB d (n, row) = false from Bool.eq_false_iff.mpr c, Bool.and_false]
          exact trivial
      · have on : onB d (n, row) = false := by
          unfold onB
          have : mkA row d = 45 := Decidable.byContradiction fun z => c (by rw [decide_eq_false fun y => z (by simpa using T_inj y)]; rfl)
          rw [decide_eq_true this]
          rfl
        refine Here.mk ⟨[], [], [], rfl, k1, ?_, k2, ?_, k3, ?_, t0⟩
        · unfold sk1; rw [on]; exact trivial
        · unfold lv1; rw [on]; exact trivial
        · unfold mo1; rw [on]; exact trivial
    clear k1 k2 k3 t0
    rintro σ' H1 hv
    obtain ⟨y1, y2, y3, rfl, k1, A1, k2, A2, k3, A3, t1⟩ := hv.out
    walk_at "rd"
    intro t ht
    have s5 : Same H1 (upd H1 t (.tup [.ref b1, .ref b2, .ref b3])) := same_new ht _
    exact q t _ b1 b2 b3 y1 y2 y3 (t1.trans s5) upd_same (s5 _ _ k1) (A1.imp fun a y => TpV.keeps a y _ _ s5.keeps) (s5 _ _ k2) (A2.imp fun a y => TpV.keeps a y _ _ s5.keeps) (s5 _ _ k3) (A3.imp fun a y => TpV.keeps a y _ _ s5.keeps)
end
theorem s8a (x1 x2 x3 x4 x5 x6 x7 x8 : V) : ¬ (HT.sIx [x1, x2, x3, x4, x5, x6, x7, x8].length 0 none = 0 ∧ HT.sIx [x1, x2, x3, x4, x5, x6, x7, x8].length [x1, x2, x3, x4, x5, x6, x7, x8].length (some 4) = [x1, x2, x3, x4, x5, x6, x7, x8].length) := show ¬ (HT.sIx 8 0 none = 0 ∧ HT.sIx 8 8 (some 4) = 8) from by decide
theorem s8b (x1 x2 x3 x4 x5 x6 x7 x8 : V) : ¬ (HT.sIx [x1, x2, x3, x4, x5, x6, x7, x8].length 0 (some 4) = 0 ∧ HT.sIx [x1, x2, x3, x4, x5, x6, x7, x8].length [x1, x2, x3, x4, x5, x6, x7, x8].length none = [x1, x2, x3, x4, x5, x6, x7, x8].length) := show ¬ (HT.sIx 8 0 (some 4) = 0 ∧ HT.sIx 8 8 none = 8) from by decide
theorem c8a (x1 x2 x3 x4 x5 x6 x7 x8 : V) : cutV [x1, x2, x3, x4, x5, x6, x7, x8] none (some 4) = [x1, x2, x3, x4] := rfl
theorem c8b (x1 x2 x3 x4 x5 x6 x7 x8 : V) : cutV [x1, x2, x3, x4, x5, x6, x7, x8] (some 4) none = [x5, x6, x7, x8] := rfl
/-- the parts of a house at t -/
structure Pts (H : Hp) (t : Addr) (d : Int) (ks : List Nat) (nds : List Nd) (ps : List Ps) (ls : List (List Nat × Int)) (a1 a2 a3 a4 a5 a6 : Addr) (xs ys zs ws : List V) : Prop where
  tp : H t = some (.tup [.int d, T ks, .ref a1, .ref a2, .ref a3, .ref a4, .ref a5, .ref a6])
  h1 : H a1 = some (.lst xs)
  n1 : All2 NdAt H nds xs
  h2 : H a2 = some (.lst ys)
  n2 : All2 PsT H ps ys
  h3 : H a3 = some (.lst zs)
  n3 : All2 LvT H ls zs
  h4 : H a4 = some (.lst ws)
theorem Pts.same {H H' : Hp} {t : Addr} {d : Int} {ks : List Nat} {nds : List Nd} {ps : List Ps} {ls : List (List Nat × Int)} {a1 a2 a3 a4 a5 a6 : Addr} {xs ys zs ws : List V} (x : Pts H t d ks nds ps ls a1 a2 a3 a4 a5 a6 xs ys zs ws) (s : Same H H') : Pts H' t d ks nds ps ls a1 a2 a3 a4 a5 a6 xs ys zs ws :=
  ⟨s _ _ x.tp, s _ _ x.h1, x.n1.imp fun a y => NdAt.keeps a y _ _ s.keeps, s _ _ x.h2, x.n2.imp fun a y => PsT.keeps a y _ _ s.keeps, s _ _ x.h3, x.n3.imp fun a y => LvT.keeps a y _ _ s.keeps, s _ _ x.h4⟩
def sp_plf : Sp := fun vs H Q _ => ∃ (d : Int) (pt r : Addr) (dd : Int) (ks : List Nat) (nds : List Nd) (ps : List Ps) (ls : List (List Nat × Int)) (a1 a2 a3 a4 a5 a6 : Addr) (xs ys zs ws : List V) (rows : List (List Nat)), vs = [.int d, .ref pt, .ref r] ∧ Pts H pt dd ks nds ps ls a1 a2 a3 a4 a5 a6 xs ys zs ws ∧ H r = some (.lst (rows.map T)) ∧ rows.length = ps.length ∧ ps.length ≤ 8 ∧ ks.length ≤ 4 ∧ ROk rows d ∧
  ∀ (D : Addr) (H' : Hp) (ys : List V), Same H H' → H' D = some (.lst ys) → All2 TpV H' (dayF ks nds ls ps rows d) ys → Q (.ref D) H'
section
variable {P : Program} {w : World} {K : PySem.W.Frag} {mg : Str → Option Value} {base : Heap} {C_Person C_House : Addr}

theorem g_law_plain_faults (tx : Tx K mg C_Person C_House) : FnG P w K mg base "_law_plain_faults" 2 ["_law_day", "_law_parts_here", "_law_rota_here"] sp_plf := by
  have G_law_person_faults := g_law_person_faults (P := P) (w := w) (base := base) tx
  have G_law_need_by := g_law_need_by (P := P) (w := w) (base := base) tx
  refine tx.f_law_plain_faults.g sc_law_plain_faults (fun _ _ _ _ _ _ us hl => match us, hl with | [_, _, _], _ => rfl) (fun vs H Q E h => ?_) (fun f cdv A outer s H vs Q E hr h => ?_)
  · obtain ⟨d, pt, r, dd, ks, nds, ps, ls, a1, a2, a3, a4, a5, a6, xs, ys, zs, ws, rows, rfl, _⟩ := h
    rfl
  · obtain ⟨d, pt, r, dd, ks, nds, ps, ls, a1, a2, a3, a4, a5, a6, xs, ys, zs, ws, rows, rfl, hP, hr1, hl, hp8, hk4, hR, q⟩ := h
    refine ⟨_, (pss_cons (ps_asg (pe_slice sl_tup (pv 1) po_none (po_some pe_int)) (pg_tup rfl (pgs_cons (pg_name (i := 3) sc_law_plain_faults.nd rfl (Or.inl rfl)) (pgs_cons (pg_name (i := 4) sc_law_plain_faults.nd rfl (Or.inl rfl)) (pgs_cons (pg_name (i := 5) sc_law_plain_faults.nd rfl (Or.inl rfl)) (pgs_cons (pg_name (i := 6) sc_law_plain_faults.nd rfl (Or.inl rfl)) pgs_nil))))))
      (pss_cons (ps_asg (pe_slice sl_tup (pv 1) (po_some pe_int) po_none) (pg_tup rfl (pgs_cons (pg_name (i := 7) sc_law_plain_faults.nd rfl (Or.inl rfl)) (pgs_cons (pg_name (i := 8) sc_law_plain_faults.nd rfl (Or.inl rfl)) (pgs_cons (pg_name (i := 9) sc_law_plain_faults.nd rfl (Or.inl rfl)) (pgs_cons (pg_name (i := 10) sc_law_plain_faults.nd rfl (Or.inl rfl)) pgs_nil))))))
      (pss_cons (ps_set (i := 11) sc_law_plain_faults.nd rfl (Or.inl rfl) (pe_lst pa_nil))
      (pss_cons (ps_set (i := 12) sc_law_plain_faults.nd rfl (Or.inl rfl) (pe_lst pa_nil))
      (pss_cons (ps_set (i := 13) sc_law_plain_faults.nd rfl (Or.inl rfl) (pe_lst pa_nil))
      (pss_cons (ps_for PassesOwn.never rfl (pi_zipLK (K := K) rfl rfl tx.z_zip (pa_cons (pv 6) (pa_cons (pv 2) pa_nil))) (pg_tup rfl (pgs_cons (pg_name (i := 14) sc_law_plain_faults.nd rfl (Or.inl rfl)) (pgs_cons (pg_name (i := 15) sc_law_plain_faults.nd rfl (Or.inl rfl)) pgs_nil))) (pss_cons (ps_asg (pe_fn G_law_person_faults (hr.mono (by decide)) (pa_cons (pv 0) (pa_cons (pv 15) (pa_cons (pv 14) (pa_cons (pv 7) pa_nil))))) (pg_tup rfl (pgs_cons (pg_name (i := 16) sc_law_plain_faults.nd rfl (Or.inl rfl)) (pgs_cons (pg_name (i := 17) sc_law_plain_faults.nd rfl (Or.inl rfl)) (pgs_cons (pg_name (i := 18) sc_law_plain_faults.nd rfl (Or.inl rfl)) pgs_nil)))))
      (pss_cons (ps_set (i := 11) sc_law_plain_faults.nd rfl (Or.inl rfl) (pe_op op_cat (pv 11) (pv 16)))
      (pss_cons (ps_set (i := 12) sc_law_plain_faults.nd rfl (Or.inl rfl) (pe_op op_cat (pv 12) (pv 17)))
      (pss_one (ps_set (i := 13) sc_law_plain_faults.nd rfl (Or.inl rfl) (pe_op op_cat (pv 13) (pv 18))))))))
      (pss_cons (ps_set (i := 19) sc_law_plain_faults.nd rfl (Or.inl rfl) (pe_lst pa_nil))
      (pss_cons (ps_for PassesOwn.never rfl (pi_txt (pv 4)) (pg_name (i := 20) sc_law_plain_faults.nd rfl (Or.inr rfl)) (pss_cons (ps_set (i := 21) sc_law_plain_faults.nd rfl (Or.inl rfl) (pe_callB (call_len_seqK (K := K) rfl) rfl tx.z_len PySem.boot_len (pa_cons (pe_comp (osc := defScope s_law_plain_faults) (ON := ["_law_day", "_law_parts_here", "_law_rota_here", "_law_days", "_law_kinds_here", "_law_needs_here", "_law_persons", "_law_leave", "_law_wishes", "_law_rules", "_law_pairs", "_law_skill", "_law_away", "_law_beyond", "_law_person_here", "_law_row", "_law_one", "_law_two", "_law_three", "_law_short", "_law_kind", "_law_many", "_law_least", "_law_most"]) (N := ["_law_row", "_law_kind", "_law_day"]) (js := [none, some 20, some 0]) ⟨rfl, by decide +kernel, by decide +kernel, by decide +kernel, rfl, by decide +kernel⟩ rfl rfl rfl (pi_listK (K := K) rfl (pv 2)) (fun _ _ _ _ _ => pg_name (i := 0) (show List.Nodup (["_law_row", "_law_kind", "_law_day"] : List Str) from by decide +kernel) rfl (Or.inl rfl)) (fun _ _ _ _ _ => pifs_one (pt_cmpR op_eq (pe_ix ix_txt (pv 0) (pv 2) (fun _ _ => rfl)) (pv 1) (nomark _))) (fun _ _ _ _ _ => (pv 0))) pa_nil)))
      (pss_cons (ps_asg (pe_fn G_law_need_by (hr.mono (by decide)) (pa_cons (pv 5) (pa_cons (pv 0) (pa_cons (pv 20) pa_nil)))) (pg_tup rfl (pgs_cons (pg_name (i := 22) sc_law_plain_faults.nd rfl (Or.inl rfl)) (pgs_cons (pg_name (i := 23) sc_law_plain_faults.nd rfl (Or.inl rfl)) pgs_nil))))
      (pss_one (ps_cut (ps_if (PW.pt (pw_or (pt_cmpR op_lt (pv 21) (pv 22) (nomark _)) (pw_or1 (pt_cmpR op_gt (pv 21) (pv 23) (nomark _))))) (pss_one (ps_expr (pe_bm PySem.F.plainAttrs_list PySem.F.slot_list_append PySem.F.type_list_append mt_append (pv 19) (pa_cons (pe_tup (pa_cons (pv 0) (pa_cons (pe_txt (l := [110, 101, 101, 100]) (by decide +kernel)) (pa_cons (pv 20) (pa_cons (pv 21) pa_nil))))) pa_nil)))) pss_nil))))))
      (pss_one (ps_ret (pe_op op_cat (pe_op op_cat (pe_op op_cat (pv 11) (pv 12)) (pv 19)) (pv 13)))))))))))), ?_⟩
    walk_at "st"
    clear G_law_person_faults G_law_need_by
    have htp := hP.tp
    have c1 := s8a (.int dd) (T ks) (.ref a1) (.ref a2) (.ref a3) (.ref a4) (.ref a5) (.ref a6)
    have c2 := s8b (.int dd) (T ks) (.ref a1) (.ref a2) (.ref a3) (.ref a4) (.ref a5) (.ref a6)
    walk_at "rd"
    intro t1 nt1
    rw [c8a]
    obtain ⟨Ha, e1, g1, s1⟩ := newt (xs := [V.int dd, T ks, .ref a1, .ref a2]) nt1
    rw [← e1]
    have htp1 := s1 _ _ htp
    walk_at "rd"
    intro t2 nt2
    rw [c8b]
    obtain ⟨Hb, e2, g2, s2⟩ := newt (xs := [V.ref a3, .ref a4, .ref a5, .ref a6]) nt2
    rw [← e2]
    walk_at "rd"
    intro b1 m1
    obtain ⟨Hc, e3, k1, s3⟩ := newl (xs := []) m1
    rw [← e3]
    walk_at "rd"
    intro b2 m2
    obtain ⟨Hd, e4, k2, s4⟩ := newl (xs := []) m2
    rw [← e4]
    walk_at "rd"
    intro b3 m3
    obtain ⟨He, e5, k3, s5⟩ := newl (xs := []) m3
    rw [← e5]
    have te : Same H He := (((s1.trans s2).trans s3).trans s4).trans s5
    have z1 := (s4.trans s5) _ _ k1
    have z2 := s5 _ _ k2
    have hpe := te _ _ hP.h2
    have hre := te _ _ hr1
    clear htp c1 c2 e1 e2 e3 e4 e5 g1 g2 s1 s2 s3 s4 s5 m1 m2 m3 nt1 nt2 htp1 k1 k2
    have hyl := hP.n2.len
    walk_at "rd"
    refine for_zipL (K := K) (xs := ys) (ys := rows.map T) (fun i σ H2 => Here (∃ v1 v2 v3 v4 v5 b1 b2 b3 y1 y2 y3, σ = [some (.int d), some (.ref pt), some (.ref r), some (.int dd), some (T ks), some (.ref a1), some (.ref a2), some (.ref a3), some (.ref a4), some (.ref a5), some (.ref a6), some (.ref b1), some (.ref b2), some (.ref b3), v1, v2, v3, v4, v5, none, none, none, none, none] ∧ H2 b1 = some (.lst y1) ∧ All2 TpV H2 (((((ps.zip rows).take i).filter (onB d)).filter (skB d)).map (skV d)) y1 ∧ H2 b2 = some (.lst y2) ∧ All2 TpV H2 (((((ps.zip rows).take i).filter (onB d)).filter (lvB ls d)).map (lvV d)) y2 ∧ H2 b3 = some (.lst y3) ∧ All2 TpV H2 (((((ps.zip rows).take i).filter (onB d)).filter (moB d)).map (moV d)) y3 ∧ y1.length ≤ i ∧ y2.length ≤ i ∧ y3.length ≤ i ∧ Same H H2))
      (Here.mk ⟨none, none, none, none, none, b1, b2, b3, [], [], [], rfl, z1, trivial, z2, trivial, k3, trivial, Nat.le_refl _, Nat.le_refl _, Nat.le_refl _, te⟩) (fun i σ H2 _ _ hv => by obtain ⟨_, _, _, _, _, _, _, _, _, _, _, _, _, _, _, _, _, _, _, _, _, s2⟩ := hv.out; exact ⟨SqL.of (s2 _ _ hP.h2), SqL.of (s2 _ _ hr1)⟩) ?_ ?_
    · clear z1 z2 k3 te hpe hre
      rintro i x y p σ H2 hx hy hp hv
      obtain ⟨v1, v2, v3, v4, v5, b1, b2, b3, y1, y2, y3, rfl, k1, A1, k2, A2, k3, A3, l1, l2, l3, s2⟩ := hv.out
      obtain ⟨n, hn, pa, rfl, hpa⟩ := hP.n2.back hx
      have hi : i < ps.length := (List.getElem?_eq_some_iff.mp hn).1
      have hrow : rows[i]? = some rows[i] := List.getElem?_eq_getElem (by omega)
      rw [List.getElem?_map, hrow] at hy
      cases hy
      have hz : (ps.zip rows)[i]? = some (n, rows[i]) := by rw [List.getElem?_zip_eq_some]; exact ⟨hn, hrow⟩
      obtain ⟨hd, hrl⟩ := hR.2 rows[i] (List.getElem_mem _)
      generalize rows[i] = row at hd hrl hz
      have d0 := hR.1
      obtain ⟨H3, e3, hp3, s3⟩ := newt (xs := [V.ref pa, T row]) hp
      rw [← e3]
      have t3 := s2.trans s3
      have q1 := t3 _ _ hpa
      have q2 := t3 _ _ hP.h3
      have q3 := hP.n3.imp fun a y => LvT.keeps a y _ _ t3.keeps
      walk_at "rd"
      intro t H4 c1 c2 c3 x1 x2 x3 s4 ht r1 B1 r2 B2 r3 B3
      have t24 := s3.trans s4
      have j1 := t24 _ _ k1
      have L1 : x1.length ≤ 1 := by rw [B1.len]; unfold sk1; split; exact Nat.le_refl 1; exact Nat.zero_le 1
      have L2 : x2.length ≤ 1 := by rw [B2.len]; unfold lv1; split; exact Nat.le_refl 1; exact Nat.zero_le 1
      have L3 : x3.length ≤ 1 := by rw [B3.len]; unfold mo1; split; exact Nat.le_refl 1; exact Nat.zero_le 1
      walk_at "rd"
      intro p1 np1
      obtain ⟨H5, e5, w1, s5⟩ := newl (xs := y1 ++ x1) np1
      rw [← e5]
      have j2 := (t24.trans s5) _ _ k2
      have r2' := s5 _ _ r2
      walk_at "rd"
      intro p2 np2
      obtain ⟨H6, e6, w2, s6⟩ := newl (xs := y2 ++ x2) np2
      rw [← e6]
      have j3 := ((t24.trans s5).trans s6) _ _ k3
      have r3' := (s5.trans s6) _ _ r3
      walk_at "rd"
      intro p3 np3
      obtain ⟨H7, e7, w3, s7⟩ := newl (xs := y3 ++ x3) np3
      rw [← e7]
      have u47 := (s5.trans s6).trans s7
      have u27 := t24.trans u47
      refine Here.mk ⟨_, _, _, _, _, p1, p2, p3, y1 ++ x1, y2 ++ x2, y3 ++ x3, rfl, (s6.trans s7) _ _ w1, ?_, s7 _ _ w2, ?_, w3, ?_, by rw [List.length_append]; omega, by rw [List.length_append]; omega, by rw [List.length_append]; omega, s2.trans u27⟩
      · rw [ff_step hz]
        exact All2.app (A1.imp fun a y => TpV.keeps a y _ _ u27.keeps) (B1.imp fun a y => TpV.keeps a y _ _ u47.keeps)
      · rw [ff_step hz]
        exact All2.app (A2.imp fun a y => TpV.keeps a y _ _ u27.keeps) (B2.imp fun a y => TpV.keeps a y _ _ u47.keeps)
      · rw [ff_step hz]
        exact All2.app (A3.imp fun a y => TpV.keeps a y _ _ u27.keeps) (B3.imp fun a y => TpV.keeps a y _ _ u47.keeps)
    clear z1 z2 k3 te hpe hre
    rintro i σ H2 hi hv
    obtain ⟨v1, v2, v3, v4, v5, b1, b2, b3, y1, y2, y3, rfl, k1, A1, k2, A2, k3, A3, l1, l2, l3, s2⟩ := hv.out
    rw [List.length_map] at hi
    have hi8 : i ≤ 8 := by omega
    rw [List.take_of_length_le (by rw [List.length_zip]; omega)] at A1 A2 A3
    -- needs
    walk_at "rd"
    intro sl nsl
    have f2 : H sl = none := s2.free nsl
    have sa : Same H2 (upd H2 sl (.lst [])) := same_new nsl _
    walk_at "rd"
    refine for_txt (l := ks) (fun i σ H3 => Here (∃ w1 w2 w3 w4 xs', σ = [some (.int d), some (.ref pt), some (.ref r), some (.int dd), some (T ks), some (.ref a1), some (.ref a2), some (.ref a3), some (.ref a4), some (.ref a5), some (.ref a6), some (.ref b1), some (.ref b2), some (.ref b3), v1, v2, v3, v4, v5, some (.ref sl), w1, w2, w3, w4] ∧ H3 sl = some (.lst xs') ∧ All2 TpV H3 (((ks.take i).filter (neB nds rows d)).map (neV rows d)) xs' ∧ Same H2 H3)) (Here.mk ⟨none, none, none, none, [], rfl, upd_same, trivial, sa⟩) ?_ ?_
    · rintro i k σ H3 hk hv
      obtain ⟨w1, w2, w3, w4, xs', rfl, hf3, hA3, s3⟩ := hv.out
      have t3 := s2.trans s3
      have hr3 := t3 _ _ hr1
      have hxl : xs'.length ≤ 10 := by
        have h1 := hA3.len
        have h2 := List.length_filter_le (neB nds rows d) (ks.take i)
        rw [List.length_map] at h1
        rw [List.length_take] at h2
        omega
      walk_at "rd"
      refine comp_hands rows (fun r => decide (mkA r d = k)) (fun _ _ _ => True) (fun σ => ∃ v, σ = [v, some (T [k]), some (.int d)]) (hands_list (SqL.of hr3)) (by rw [List.length_map]) (by omega) ⟨_, rfl⟩ (fun _ _ _ _ _ z => z) (fun j row v σ H' hj hv hσ s' Rf Rt hF hR' => ?_) (fun D H4 ds hD s4 hds hDD => ?_)
      · obtain ⟨u1, rfl⟩ := hσ
        rw [List.getElem?_map, hj] at hv
        cases hv
        obtain ⟨hd, hrl⟩ := hR.2 row (List.mem_of_getElem? hj)
        have e := mk_at hR.1 hd
        walk_at "rd"
        refine ite2 (fun c => ?_) (fun c => ?_)
        · have c' : mkA row d = k := by simpa using T_inj (of_decide_eq_true c)
          walk_at "rd"
          exact hR' _ _ _ (decide_eq_true c') ⟨_, rfl⟩ (Same.refl _) trivial
        · exact hF _ _ (decide_eq_false fun z => c (decide_eq_true (by rw [z]))) ⟨_, rfl⟩ (Same.refl _)
      have hyl' : ds.length = cntF rows d k := hds.len
      have t4 := t3.trans s4
      have q1 := t4 _ _ hP.h1
      have q2 := hP.n1.imp fun a y => NdAt.keeps a y _ _ t4.keeps
      walk_at "rd"
      rw [hyl']
      clear hds hDD hyl' hD
      walk_at "rd"
      intro t H5 s5 ht
      have u35 := s4.trans s5
      have hf5 := u35 _ _ hf3
      have ek : ((ks.take (i + 1)).filter (neB nds rows d)).map (neV rows d) = ((ks.take i).filter (neB nds rows d)).map (neV rows d) ++ (if neB nds rows d k = true then [neV rows d k] else []) := by
        rw [List.take_add_one, hk, List.filter_append, List.map_append]
        congr 1
        show (List.filter (neB nds rows d) [k]).map _ = _
        rw [List.filter_cons]
        split <;> rfl
      walk_at "rd"
      refine tCut.mk (fun σ' H' => Here (∃ xs', σ' = [some (.int d), some (.ref pt), some (.ref r), some (.int dd), some (T ks), some (.ref a1), some (.ref a2), some (.ref a3), some (.ref a4), some (.ref a5), some (.ref a6), some (.ref b1), some (.ref b2), some (.ref b3), v1, v2, v3, v4, v5, some (.ref sl), some (T [k]), some (.int (cntF rows d k : Nat)), some (.int (needF nds d k).1), some (.int (needF nds d k).2)] ∧ H' sl = some (.lst xs') ∧ All2 TpV H' (((ks.take (i + 1)).filter (neB nds rows d)).map (neV rows d)) xs' ∧ Same H2 H')) ?_ (fun σ' H' hv => by obtain ⟨x, e, g1, g2, g3⟩ := hv.out; exact Here.mk ⟨_, _, _, _, x, e, g1, g2, g3⟩)
      have put : neB nds rows d k = true → ∀ t2, H5 t2 = none → Here (∃ xq, [some (.int d), some (.ref pt), some (.ref r), some (.int dd), some (T ks), some (.ref a1), some (.ref a2), some (.ref a3), some (.ref a4), some (.ref a5), some (.ref a6), some (.ref b1), some (.ref b2), some (.ref b3), v1, v2, v3, v4, v5, some (.ref sl), some (T [k]), some (.int (cntF rows d k : Nat)), some (.int (needF nds d k).1), some (.int (needF nds d k).2)] = [some (.int d), some (.ref pt), some (.ref r), some (.int dd), some (T ks), some (.ref a1), some (.ref a2), some (.ref a3), some (.ref a4), some (.ref a5), some (.ref a6), some (.ref b1), some (.ref b2), some (.ref b3), v1, v2, v3, v4, v5, some (.ref sl), some (T [k]), some (.int (cntF rows d k : Nat)), some (.int (needF nds d k).1), some (.int (needF nds d k).2)] ∧ upd (upd H5 t2 (.tup [.int d, T wNeed, T [k], .int (cntF rows d k : Nat)])) sl (.lst (xs' ++ [.ref t2])) sl = some (.lst xq) ∧ All2 TpV (upd (upd H5 t2 (.tup [.int d, T wNeed, T [k], .int (cntF rows d k : Nat)])) sl (.lst (xs' ++ [.ref t2]))) (((ks.take (i + 1)).filter (neB nds rows d)).map (neV rows d)) xq ∧ Same H2 (upd (upd H5 t2 (.tup [.int d, T wNeed, T [k], .int (cntF rows d k : Nat)])) sl (.lst (xs' ++ [.ref t2])))) := fun hb t2 ht2 => by
        have s6 : Same H5 (upd H5 t2 (.tup [.int d, T wNeed, T [k], .int (cntF rows d k : Nat)])) := same_new ht2 _
        have kk : Keeps (upd H5 t2 (.tup [.int d, T wNeed, T [k], .int (cntF rows d k : Nat)])) (upd (upd H5 t2 (.tup [.int d, T wNeed, T [k], .int (cntF rows d k : Nat)])) sl (.lst (xs' ++ [.ref t2]))) := keeps_lst (s6 _ _ hf5)
        refine Here.mk ⟨xs' ++ [.ref t2], rfl, upd_same, ?_, ((s3.trans u35).trans s6).upd nsl⟩
        rw [ek, if_pos hb]
        exact All2.snoc (hA3.imp fun a y => TpV.keeps a y _ _ ((u35.trans s6).keeps.trans kk)) ⟨t2, rfl, kk _ _ upd_same (fun zs z => by cases z)⟩
      walk_at "rd"
      refine ite2 (fun c1 => ?_) (fun c1 => ?_)
      · walk_at "rd"
        intro t2 ht2
        have hf6 := same_new ht2 (.tup [.int d, T wNeed, T [k], .int (cntF rows d k : Nat)]) _ _ hf5
        walk_at "rd"
        exact put (by unfold neB; rw [c1]; rfl) t2 ht2
      · walk_at "rd"
        refine ite2 (fun c2 => ?_) (fun c2 => ?_)
        · walk_at "rd"
          intro t2 ht2
          have hf6 := same_new ht2 (.tup [.int d, T wNeed, T [k], .int (cntF rows d k : Nat)]) _ _ hf5
          walk_at "rd"
          exact put (by unfold neB; rw [c2, Bool.or_true]) t2 ht2
        · have hb : ¬ neB nds rows d k = true := by unfold neB; rw [Bool.eq_false_iff.mpr c1, Bool.eq_false_iff.mpr c2]; decide
          walk_at "rd"
          refine Here.mk ⟨xs', rfl, hf5, ?_, s3.trans u35⟩
          rw [ek, if_neg hb, List.append_nil]
          exact hA3.imp fun a y => TpV.keeps a y _ _ u35.keeps
    rintro σ H3 hv
    obtain ⟨w1, w2, w3, w4, xs', rfl, hf3, hA3, s3⟩ := hv.out
    rw [List.take_of_length_le (Nat.le_refl _)] at hA3
    have lx : xs'.length ≤ 4 := by rw [hA3.len]; exact ne_len hk4
    have j1 := s3 _ _ k1
    have j2 := s3 _ _ k2
    walk_at "rd"
    intro p1 np1
    obtain ⟨H4, e4, g4, s4⟩ := newl (xs := y1 ++ y2) np1
    rw [← e4]
    have hf4 := s4 _ _ hf3
    walk_at "rd"
    intro p2 np2
    obtain ⟨H5, e5, g5, s5⟩ := newl (xs := y1 ++ y2 ++ xs') np2
    rw [← e5]
    have j3 := ((s3.trans s4).trans s5) _ _ k3
    walk_at "rd"
    intro p3 np3
    have s6 : Same H5 (upd H5 p3 (.lst (y1 ++ y2 ++ xs' ++ y3))) := same_new np3 _
    have u3 := (s4.trans s5).trans s6
    have u2 := s3.trans u3
    refine q p3 _ _ (s2.trans u2) upd_same ?_
    exact All2.app (All2.app (All2.app (A1.imp fun a y => TpV.keeps a y _ _ u2.keeps) (A2.imp fun a y => TpV.keeps a y _ _ u2.keeps)) (hA3.imp fun a y => TpV.keeps a y _ _ u3.keeps)) (A3.imp fun a y => TpV.keeps a y _ _ u2.keeps)
end
def Plain (x : List V) : Prop := ∀ v ∈ x, (∃ i, v = .int i) ∨ ∃ z, v = .str z
theorem Plain.flat {x : List V} (h : Plain x) : x.all flatV = true := List.all_eq_true.mpr fun v hv => by
  rcases h v hv with ⟨i, rfl⟩ | ⟨z, rfl⟩ <;> rfl
theorem p4 {a b : V} {x y : List Nat} {i : Int} (hb : (∃ i, b = .int i) ∨ ∃ z, b = .str z) : Plain [.int i, T x, T y, b] := fun v hv => by
  simp only [List.mem_cons, List.not_mem_nil, or_false] at hv
  rcases hv with rfl | rfl | rfl | rfl
  · exact .inl ⟨_, rfl⟩
  · exact .inr ⟨_, rfl⟩
  · exact .inr ⟨_, rfl⟩
  · exact hb
theorem day_plain {ks : List Nat} {nds : List Nd} {ls : List (List Nat × Int)} {ps : List Ps} {rows : List (List Nat)} {d : Int} : ∀ x ∈ dayF ks nds ls ps rows d, Plain x := by
  intro x hx
  unfold dayF at hx
  simp only [List.mem_append] at hx
  rcases hx with ((hx | hx) | hx) | hx <;> (obtain ⟨p, _, rfl⟩ := List.mem_map.mp hx)
  · exact p4 (a := .non) (.inr ⟨_, rfl⟩)
  · exact p4 (a := .non) (.inr ⟨_, rfl⟩)
  · exact p4 (a := .non) (.inl ⟨_, rfl⟩)
  · exact p4 (a := .non) (.inl ⟨_, rfl⟩)
theorem all_plain {ks : List Nat} {nds : List Nd} {ls : List (List Nat × Int)} {ps : List Ps} {rows : List (List Nat)} : ∀ n, ∀ x ∈ allF ks nds ls ps rows n, Plain x
  | 0 => fun x hx => by simp [allF] at hx
  | n + 1 => fun x hx => by
    rw [allF] at hx
    rcases List.mem_append.mp hx with hx | hx
    · exact all_plain n x hx
    · exact day_plain x hx
theorem all_four {ks : List Nat} {nds : List Nd} {ls : List (List Nat × Int)} {ps : List Ps} {rows : List (List Nat)} : ∀ n, ∀ x ∈ allF ks nds ls ps rows n, x.length ≤ 10
  | 0 => fun x hx => by simp [allF] at hx
  | n + 1 => fun x hx => by
    rw [allF] at hx
    rcases List.mem_append.mp hx with hx | hx
    · exact all_four n x hx
    · unfold dayF at hx
      simp only [List.mem_append] at hx
      rcases hx with ((hx | hx) | hx) | hx <;> (obtain ⟨p, _, rfl⟩ := List.mem_map.mp hx) <;> exact (show 4 ≤ 10 by decide)
def sp_same : Sp := fun vs H Q _ => ∃ (f g : Addr) (xs ys : List V) (fs : List (List V)), vs = [.ref f, .ref g] ∧ H f = some (.lst xs) ∧ All2 TpV H fs xs ∧ H g = some (.lst ys) ∧ All2 TpV H fs ys ∧ (∀ x ∈ fs, Plain x ∧ x.length ≤ 10) ∧ ∀ H', Same H H' → Q (.bl true) H'
section
variable {P : Program} {w : World} {K : PySem.W.Frag} {mg : Str → Option Value} {base : Heap} {C_Person C_House : Addr}
local macro_rules | `(tactic| walk_at "lk") => `(tactic| exact Or.inr (SqT.of (by with_reducible assumption)))

theorem g_law_same (tx : Tx K mg C_Person C_House) : FnG P w K mg base "_law_same" 1 ["_law_found", "_law_due"] sp_same := by
  refine tx.f_law_same.g sc_law_same (fun _ _ _ _ _ _ us hl => match us, hl with | [_, _], _ => rfl) (fun vs H Q E h => ?_) (fun f cdv A outer s H vs Q E hr h => ?_)
  · obtain ⟨f, g, xs, ys, fs, rfl, _⟩ := h
    rfl
  · obtain ⟨f, g, xs, ys, fs, rfl, h1, A1, h2, A2, hpl, q⟩ := h
    refine ⟨_, (pss_cons (ps_if (PW.pt (pw_or (pt_not (pt_val (pe_callB call_isBl rfl tx.z_isinstance bt_isinstance (pa_cons (pv 0) (pa_cons (pe_ty tx.z_list bt_ty_list) pa_nil))))) (pw_or1 (pt_cmpR op_ne (pe_callB (call_len_seqK (K := K) rfl) rfl tx.z_len PySem.boot_len (pa_cons (pv 0) pa_nil)) (pe_callB (call_len_seqK (K := K) rfl) rfl tx.z_len PySem.boot_len (pa_cons (pv 1) pa_nil)) (nomark _))))) (pss_one (ps_ret pe_bl)) pss_nil)
      (pss_cons (ps_for PassesOwn.never rfl (pi_zipLK (K := K) rfl rfl tx.z_zip (pa_cons (pv 0) (pa_cons (pv 1) pa_nil))) (pg_tup rfl (pgs_cons (pg_name (i := 2) sc_law_same.nd rfl (Or.inl rfl)) (pgs_cons (pg_name (i := 3) sc_law_same.nd rfl (Or.inl rfl)) pgs_nil))) (pss_one (ps_if (PW.pt (pw_or (pt_not (pt_val (pe_callB call_isTup rfl tx.z_isinstance bt_isinstance (pa_cons (pv 2) (pa_cons (pe_ty tx.z_tuple bt_ty_tuple) pa_nil))))) (pw_or (pt_cmpR (op_neT (K := K) rfl hr.units0) (pv 2) (pv 3) (nomark _)) (pw_or1 (pt_val (pe_callB (call_anyBK (K := K) rfl rfl) rfl tx.z_any bt_any (pa_cons (pe_comp (osc := defScope s_law_same) (ON := ["_law_found", "_law_due", "_law_one", "_law_other"]) (N := ["_law_part"]) (js := [none]) ⟨rfl, by decide +kernel, by decide +kernel, by decide +kernel, rfl, by decide +kernel⟩ rfl rfl rfl (pi_tupK (K := K) rfl (pv 2)) (fun _ _ _ _ _ => pg_name (i := 0) (show List.Nodup (["_law_part"] : List Str) from by decide +kernel) rfl (Or.inl rfl)) (fun _ _ _ _ _ => pifs_nil) (fun _ _ _ _ _ => (pe_callB call_isNoB rfl tx.z_isinstance bt_isinstance (pa_cons (pv 0) (pa_cons (pe_ty tx.z_bool bt_ty_bool) pa_nil))))) pa_nil))))))) (pss_one (ps_ret pe_bl)) pss_nil)))
      (pss_one (ps_ret pe_bl)))), ?_⟩
    walk_at "st"
    have l1 := A1.len
    have l2 := A2.len
    walk_at "rd"
    refine iteNS (by rw [l1, l2]) ?_
    walk_at "rd"
    refine for_zipL (K := K) (xs := xs) (ys := ys) (fun i σ H2 => Here (∃ v1 v2, σ = [some (.ref f), some (.ref g), v1, v2] ∧ Same H H2)) (Here.mk ⟨none, none, rfl, Same.refl _⟩) (fun i σ H2 _ _ hv => by obtain ⟨_, _, _, s2⟩ := hv.out; exact ⟨SqL.of (s2 _ _ h1), SqL.of (s2 _ _ h2)⟩) ?_ ?_
    · rintro i x y p σ H2 hx hy hp hv
      obtain ⟨v1, v2, rfl, s2⟩ := hv.out
      obtain ⟨w1, e1, t1, rfl, ht1⟩ := A1.back hx
      obtain ⟨w2, e2, t2, rfl, ht2⟩ := A2.back hy
      rw [e1] at e2
      cases e2
      obtain ⟨hw, hwl⟩ := hpl w1 (List.mem_of_getElem? e1)
      have fl := hw.flat
      obtain ⟨H3, e3, hp3, s3⟩ := newt (xs := [V.ref t1, V.ref t2]) hp
      rw [← e3]
      have t3 := s2.trans s3
      have k1 := t3 _ _ ht1
      have k2 := t3 _ _ ht2
      have ee : eqVs w1 w1 = true := eqVs_refl fl
      walk_at "rd"
      rw [ee]
      walk_at "rd"
      refine And.intro ⟨w1, SqT.of k1⟩ ?_
      refine comp_hands w1 (fun _ => true) (fun _ y _ => y = .bl false) (fun σ => ∃ v, σ = [v]) (hands_tup (SqT.of k1)) rfl (by omega) ⟨_, rfl⟩ (fun _ _ _ _ _ z => z) (fun j a v σ H' ha hv hσ s' Rf Rt _ hR => ?_) (fun D H4 zs hD s4 hzs hDD => ?_)
      · obtain ⟨u, rfl⟩ := hσ
        have hva : v = a := Option.some.inj (hv.symm.trans ha)
        subst hva
        have hva := hw v (List.mem_of_getElem? ha)
        walk_at "rd"
        exact hR _ _ _ rfl ⟨_, rfl⟩ (Same.refl _) rfl
      rw [List.filter_eq_self.mpr fun _ _ => rfl] at hzs
      have ez := hzs.eqmap (f := fun _ => .bl false) (fun a y e => e)
      have hSz : SqL K H4 D ((w1.map fun _ => false).map V.bl) := by rw [List.map_map]; refine SqL.of ?_; rw [hDD, ez]; rfl
      have ea : ((w1.map fun _ => false).any id) = false := by
        rw [List.any_map]
        exact List.any_eq_false.mpr fun _ _ => by simp
      walk_at "rd"
      rw [ea]
      walk_at "rd"
      exact Here.mk ⟨_, _, rfl, t3.trans s4⟩
    · rintro i σ H2 hi hv
      obtain ⟨v1, v2, rfl, s2⟩ := hv.out
      walk_at "rd"
      exact q H2 s2
end
section
variable {P : Program} {w : World} {K : PySem.W.Frag} {mg : Str → Option Value} {base : Heap} {C_Person C_House : Addr}

theorem law_ok {f : Addr} {fd : FuncData} (tx : Tx K mg C_Person C_House) (F : Fun K "law" "law" s_law f fd) : FnOk P w K mg base CX0 14 f fd ["_law_script"] (sp_law K) := by
  have G_law_parts := g_law_parts (P := P) (w := w) (base := base) tx
  have G_law_cell_at := g_law_cell_at (P := P) (w := w) (base := base) tx
  have G_law_rota := g_law_rota (P := P) (w := w) (base := base) tx
  have G_law_plain_faults := g_law_plain_faults (P := P) (w := w) (base := base) tx
  have G_law_same := g_law_same (P := P) (w := w) (base := base) tx
  have G_faults := g_faults (P := P) (w := w) (base := base) tx
  have G_Person := tx.c_Person.g (g_Person_init (P := P) (w := w) (base := base) tx)
  have G_House := tx.c_House.g (g_House_init (P := P) (w := w) (base := base) tx)
  refine F.ok sc_law (fun vs H Q E h => ?_) (fun cdv A outer s H vs Q E hr h => ?_)
  · obtain ⟨a, ns, rfl, _⟩ := h
    rfl
  · obtain ⟨sc, ns, rfl, hS, hns, q⟩ := h
    refine ⟨_, (pss_cons (ps_set (i := 1) sc_law.nd rfl (Or.inl rfl) (pe_fn G_law_parts (hr.mono (by decide)) (pa_cons (pv 0) pa_nil)))
      (pss_cons (ps_asg (pe_slice sl_tup (pv 1) po_none (po_some pe_int)) (pg_tup rfl (pgs_cons (pg_name (i := 2) sc_law.nd rfl (Or.inl rfl)) (pgs_cons (pg_name (i := 3) sc_law.nd rfl (Or.inr rfl)) (pgs_cons (pg_name (i := 4) sc_law.nd rfl (Or.inl rfl)) (pgs_cons (pg_name (i := 5) sc_law.nd rfl (Or.inl rfl)) pgs_nil))))))
      (pss_cons (ps_asg (pe_slice sl_tup (pv 1) (po_some pe_int) po_none) (pg_tup rfl (pgs_cons (pg_name (i := 6) sc_law.nd rfl (Or.inl rfl)) (pgs_cons (pg_name (i := 7) sc_law.nd rfl (Or.inl rfl)) (pgs_cons (pg_name (i := 8) sc_law.nd rfl (Or.inl rfl)) (pgs_cons (pg_name (i := 9) sc_law.nd rfl (Or.inl rfl)) pgs_nil))))))
      (pss_cons (ps_set (i := 10) sc_law.nd rfl (Or.inl rfl) (pe_fn G_law_cell_at (hr.mono (by decide)) (pa_cons (pv 0) (pa_cons pe_int pa_nil))))
      (pss_cons (ps_cut (ps_if (pt_cmpR op_eq (pe_op op_mod (pv 10) pe_int) pe_int (nomark _)) (pss_cons (ps_setC (k := 5) (osc := defScope s_law) (ON := ["_law_script", "_law_parts_here", "_law_days", "_law_kinds_here", "_law_needs_here", "_law_persons", "_law_leave", "_law_wishes", "_law_rules", "_law_pairs", "_law_cell", "_law_marks", "_law_rota_here", "_law_some_here", "_law_house", "_law_due", "_law_day", "_law_found"]) (N := ["_law_one", "_law_kinds_here"]) (js := [none, some 3]) sc_law.nd rfl (Or.inl rfl) ⟨rfl, by decide +kernel, by decide +kernel, by decide +kernel, rfl, by decide +kernel⟩ rfl rfl rfl (pi_listK (K := K) rfl (pv 5)) (fun _ _ _ _ _ => pg_name (i := 0) (show List.Nodup (["_law_one", "_law_kinds_here"] : List Str) from by decide +kernel) rfl (Or.inl rfl)) (fun _ _ _ _ _ => pifs_nil) (fun _ _ _ _ _ => (pe_tup (pa_cons (pe_ix (ix_tupK (K := K) rfl) (pv 0) pe_int (fun _ _ => rfl)) (pa_cons (pv 1) (pa_cons (pe_ix (ix_tupK (K := K) rfl) (pv 0) pe_int (fun _ _ => rfl)) (pa_cons (pe_ix (ix_tupK (K := K) rfl) (pv 0) pe_int (fun _ _ => rfl)) (pa_cons (pe_ix (ix_tupK (K := K) rfl) (pv 0) pe_int (fun _ _ => rfl)) pa_nil))))))))
      (pss_one (ps_set (i := 1) sc_law.nd rfl (Or.inl rfl) (pe_tup (pa_cons (pv 2) (pa_cons (pv 3) (pa_cons (pv 4) (pa_cons (pv 5) (pa_cons (pv 6) (pa_cons (pv 7) (pa_cons (pv 8) (pa_cons (pv 9) pa_nil)))))))))))) pss_nil))
      (pss_cons (ps_set (i := 11) sc_law.nd rfl (Or.inl rfl) (pe_op op_catS (pv 3) (pe_op op_mulS1 (pe_txt (l := [45]) (by decide +kernel)) (pe_op op_add pe_int (pe_op op_mul (pe_op op_sub (pe_callB call_lenS rfl tx.z_len PySem.boot_len (pa_cons (pv 3) pa_nil)) pe_int) (pe_op op_mod (pe_op op_fdiv (pv 10) pe_int) pe_int))))))
      (pss_cons (ps_set (i := 12) sc_law.nd rfl (Or.inl rfl) (pe_fn G_law_rota (hr.mono (by decide)) (pa_cons (pe_op op_fdiv (pv 10) pe_int) (pa_cons (pe_callB (call_len_seqK (K := K) rfl) rfl tx.z_len PySem.boot_len (pa_cons (pv 5) pa_nil)) (pa_cons (pv 2) (pa_cons (pv 11) pa_nil))))))
      (pss_cons (ps_setC (k := 13) (osc := defScope s_law) (ON := ["_law_script", "_law_parts_here", "_law_days", "_law_kinds_here", "_law_needs_here", "_law_persons", "_law_leave", "_law_wishes", "_law_rules", "_law_pairs", "_law_cell", "_law_marks", "_law_rota_here", "_law_some_here", "_law_house", "_law_due", "_law_day", "_law_found"]) (N := ["_law_one"]) (js := [none]) sc_law.nd rfl (Or.inl rfl) ⟨rfl, by decide +kernel, by decide +kernel, by decide +kernel, rfl, by decide +kernel⟩ rfl rfl rfl (pi_listK (K := K) rfl (pv 5)) (fun _ _ _ _ _ => pg_name (i := 0) (show List.Nodup (["_law_one"] : List Str) from by decide +kernel) rfl (Or.inl rfl)) (fun _ _ _ _ _ => pifs_nil) (fun _ _ _ _ _ => (pe_mkI (r := rPer C_Person) G_Person (hr.mono (by decide)) mk_per (pa_cons (pe_ix (ix_tupK (K := K) rfl) (pv 0) pe_int (fun _ _ => rfl)) (pa_cons (pe_ix (ix_tupK (K := K) rfl) (pv 0) pe_int (fun _ _ => rfl)) (pa_cons (pe_ix (ix_tupK (K := K) rfl) (pv 0) pe_int (fun _ _ => rfl)) (pa_cons (pe_ix (ix_tupK (K := K) rfl) (pv 0) pe_int (fun _ _ => rfl)) (pa_cons (pe_ix (ix_tupK (K := K) rfl) (pv 0) pe_int (fun _ _ => rfl)) pa_nil))))))))
      (pss_cons (ps_set (i := 14) sc_law.nd rfl (Or.inl rfl) (pe_mkI (r := rHou C_House) G_House (hr.mono (by decide)) mk_hou (pa_cons (pv 2) (pa_cons (pv 3) (pa_cons (pv 4) (pa_cons (pv 13) (pa_cons (pv 6) (pa_cons (pv 7) (pa_cons (pe_lst pa_nil) (pa_cons (pe_lst pa_nil) pa_nil))))))))))
      (pss_cons (ps_set (i := 15) sc_law.nd rfl (Or.inl rfl) (pe_lst pa_nil))
      (pss_cons (ps_for PassesOwn.never rfl (pi_range1 rfl tx.z_range (pa_cons (pv 2) pa_nil)) (pg_name (i := 16) sc_law.nd rfl (Or.inl rfl)) (pss_one (ps_set (i := 15) sc_law.nd rfl (Or.inl rfl) (pe_op op_cat (pv 15) (pe_fn G_law_plain_faults (hr.mono (by decide)) (pa_cons (pv 16) (pa_cons (pv 1) (pa_cons (pv 12) pa_nil))))))))
      (pss_cons (ps_set (i := 17) sc_law.nd rfl (Or.inl rfl) (pe_fn G_faults (hr.mono (by decide)) (pa_cons (pv 14) (pa_cons (pv 12) pa_nil))))
      (pss_cons (ps_if (pt_not (pt_val (pe_fn G_law_same (hr.mono (by decide)) (pa_cons (pv 17) (pa_cons (pv 15) pa_nil))))) (pss_one (ps_ret pe_bl)) pss_nil)
      (pss_cons (ps_expr (pe_bm0 PySem.F.plainAttrs_list PySem.F.slot_list_clear PySem.F.type_list_clear mt_clear (pv 17)))
      (pss_one (ps_ret (pe_fn G_law_same (hr.mono (by decide)) (pa_cons (pe_fn G_faults (hr.mono (by decide)) (pa_cons (pv 14) (pa_cons (pv 12) pa_nil))) (pa_cons (pv 15) pa_nil))))))))))))))))))), ?_⟩
    walk_at "st"
    clear G_law_parts G_law_cell_at G_law_rota G_law_plain_faults G_law_same G_faults G_Person G_House
    walk_at "rd"
    intro pt H1 d ks nds ps ls a1 a2 a3 a4 a5 a6 xs ys zs ws rs qs s1 htp g1 g2 g3 g4 g5 g6 g7 g8 g9 d0 d1 k0 k1 p8 pp
    have hP : Pts H1 pt d ks nds ps ls a1 a2 a3 a4 a5 a6 xs ys zs ws := ⟨htp, g1, g2, g3, g4, g5, g6, g7⟩
    have c1 := s8a (.int d) (T ks) (.ref a1) (.ref a2) (.ref a3) (.ref a4) (.ref a5) (.ref a6)
    have c2 := s8b (.int d) (T ks) (.ref a1) (.ref a2) (.ref a3) (.ref a4) (.ref a5) (.ref a6)
    clear g1 g2 g3 g4 g5 g6 g7 g8 g9
    walk_at "rd"
    intro t1 nt1
    rw [c8a]
    obtain ⟨Ha, e1, g1, sa⟩ := newt (xs := [V.int d, T ks, .ref a1, .ref a2]) nt1
    rw [← e1]
    have htp1 := sa _ _ htp
    walk_at "rd"
    intro t2 nt2
    rw [c8b]
    obtain ⟨H2, e2, g2, sb⟩ := newt (xs := [V.ref a3, .ref a4, .ref a5, .ref a6]) nt2
    rw [← e2]
    have s2 := (s1.trans sa).trans sb
    have hS2 := s2.seq hS
    have hP2 := hP.same (sa.trans sb)
    clear hP htp htp1 c1 c2 sa sb nt1 nt2 s1 hS
    walk_at "rd"
    clear e1 e2 g1 g2
    refine tCut.mk (fun σ' H' => Here (∃ pt a2 ps ys, σ' = [some (.ref sc), some (.ref pt), some (.int d), some (T ks), some (.ref a1), some (.ref a2), some (.ref a3), some (.ref a4), some (.ref a5), some (.ref a6), some (.int (cellF ns 13)), none, none, none, none, none, none, none] ∧ Pts H' pt d ks nds ps ls a1 a2 a3 a4 a5 a6 xs ys zs ws ∧ ps.length ≤ 8 ∧ (∀ n ∈ ps, n.past.length ≤ 100) ∧ Same H H')) ?_ ?_
    · walk_at "rd"
      refine ite2 (fun c => ?_) (fun c => ?_)
      · have h2 := hP2.h2
        walk_at "rd"
        refine comp_hands ps (fun _ => true) (fun n y H => PsT ⟨n.nm, ks, n.most, n.car, n.past⟩ y H) (fun σ => ∃ v, σ = [v, some (T ks)]) (hands_list (SqL.of h2)) hP2.n2.len (by omega) ⟨_, rfl⟩ (fun a y Ha Hb k h => PsT.keeps _ y Ha Hb k h) (fun i n v σ H' hn hv hσ s' Rf Rt _ hR => ?_) (fun D H3 ds nD s3 hds hD => ?_)
        · obtain ⟨u, rfl⟩ := hσ
          obtain ⟨y, hy, t, rfl, ht⟩ := hP2.n2.get hn
          rw [hv] at hy
          cases hy
          have ht' := s' _ _ ht
          obtain ⟨e0, _, e2, e3, e4⟩ := at5 (T n.nm) (T n.sk) (.int n.most) (.int n.car) (T n.past)
          walk_at "rd"
          intro t2 ht2
          exact hR _ _ _ rfl ⟨_, rfl⟩ (same_new ht2 _) ⟨t2, rfl, upd_same⟩
        rw [List.filter_eq_self.mpr fun _ _ => rfl] at hds
        have hP3 := hP2.same s3
        walk_at "rd"
        intro t ht
        have s4 : Same H3 (upd H3 t (.tup [V.int d, T ks, .ref a1, .ref D, .ref a3, .ref a4, .ref a5, .ref a6])) := same_new ht _
        have hP4 := hP3.same s4
        exact Here.mk ⟨t, D, ps.map fun n => ⟨n.nm, ks, n.most, n.car, n.past⟩, ds, rfl, ⟨upd_same, hP4.h1, hP4.n1, s4 _ _ hD, All2.mapL (hds.imp fun a y => PsT.keeps _ y _ _ s4.keeps), hP4.h3, hP4.n3, hP4.h4⟩, by rw [List.length_map]; exact p8, fun n hn => by obtain ⟨m, hm, rfl⟩ := List.mem_map.mp hn; exact pp m hm, (s2.trans s3).trans s4⟩
      · exact Here.mk ⟨_, _, ps, ys, rfl, hP2, p8, pp, s2⟩
    clear hP2 hS2 s2 p8 pp
    rintro σ' H2 hv
    obtain ⟨pt, a2, ps, ys, rfl, hP2, p8, pp, s2⟩ := hv.out
    have b0 : cellF ns 13 / 2 % 2 = 0 ∨ cellF ns 13 / 2 % 2 = 1 := by omega
    have kk0 : 1 ≤ 1 + ((ks.length : Int) - 1) * (cellF ns 13 / 2 % 2) := by rcases b0 with e | e <;> rw [e] <;> omega
    have kk1 : 1 + ((ks.length : Int) - 1) * (cellF ns 13 / 2 % 2) ≤ 5 := by rcases b0 with e | e <;> rw [e] <;> omega
    have h2 := hP2.h2
    have hyl := hP2.n2.len
    have lrep : (List.replicate (1 + ((ks.length : Int) - 1) * (cellF ns 13 / 2 % 2)).toNat 45).length ≤ 5 := by rw [List.length_replicate]; omega
    have lmk0 : 1 ≤ (ks ++ List.replicate (1 + ((ks.length : Int) - 1) * (cellF ns 13 / 2 % 2)).toNat 45).length := by rw [List.length_append]; omega
    have lmk1 : (ks ++ List.replicate (1 + ((ks.length : Int) - 1) * (cellF ns 13 / 2 % 2)).toNat 45).length ≤ 100 := by rw [List.length_append]; omega
    walk_at "rd"
    intro r H3 rows s3 nr hr3 lrows hrows
    clear lrep lmk0 lmk1 kk0 kk1 b0
    generalize ks ++ List.replicate (1 + ((ks.length : Int) - 1) * (cellF ns 13 / 2 % 2)).toNat 45 = mk
    have hP3 := hP2.same s3
    have h3 := hP3.h2
    clear hP2 s2 h2
    walk_at "rd"
    refine comp_hands ps (fun _ => true) (PsO C_Person) (fun σ => ∃ v, σ = [v]) (hands_list (SqL.of h3)) hyl (by omega) ⟨_, rfl⟩ (fun a y Ha Hb k h => PsO.keeps a y Ha Hb k h) (fun i n v σ H' hn hv hσ s' Rf Rt _ hR => ?_) (fun ol H4 os nol s4 hos hol => ?_)
    · obtain ⟨u, rfl⟩ := hσ
      obtain ⟨y, hy, t, rfl, ht⟩ := hP3.n2.get hn
      rw [hv] at hy
      cases hy
      have ht' := s' _ _ ht
      obtain ⟨e0, e1, e2, e3, e4⟩ := at5 (T n.nm) (T n.sk) (.int n.most) (.int n.car) (T n.past)
      walk_at "rd"
      intro pp' H9 s9 npp hper
      exact hR _ _ _ rfl ⟨_, rfl⟩ s9 ⟨pp', rfl, hper, pp n (List.mem_of_getElem? hn)⟩
    rw [List.filter_eq_self.mpr fun _ _ => rfl] at hos
    have hP4 := hP3.same s4
    have hr4 := s4 _ _ hr3
    clear hP3 hr3 h3 nol nr s3 s4
    walk_at "rd"
    intro l5 n5
    obtain ⟨Ha, ea, g5, ta⟩ := newl (xs := []) n5
    rw [← ea]
    walk_at "rd"
    intro l6 n6
    obtain ⟨Hb, eb, g6, tb⟩ := newl (xs := []) n6
    rw [← eb]
    have tt := ta.trans tb
    have k1' := tt _ _ hP4.h1
    have k2' := tt _ _ hol
    have k3' := tt _ _ hP4.h3
    have k4' := tt _ _ hP4.h4
    have k5' := tb _ _ g5
    walk_at "rd"
    intro ho H5 x1 x2 x3 x4 x5 x6 s5 hho f1 f2 f3 f4 f5 f6 _ _ _ _ _ _
    have t5 := tt.trans s5
    have hP5 := hP4.same t5
    have hr5 := t5 _ _ hr4
    have hq : Hq C_Person C_House H5 ho d ks nds ps ls := ⟨x1, x2, x3, x4, x5, x6, xs, os, zs, hho, f1, hP5.n1, f2, hos.imp fun a y => PsO.keeps a y _ _ t5.keeps, f3, hP5.n3, f5, f6⟩
    clear hP4 hr4 hos hol ea eb g5 g6 ta tb tt k1' k2' k3' k4' k5' s5 t5 hho f1 f2 f3 f4 f5 f6 n5 n6
    have hlr : rows.length = ps.length := by omega
    have hrd : ∀ r ∈ rows, (r.length : Int) = d := fun r hr => (hrows r hr).1
    clear hrows
    walk_at "rd"
    intro du0 ndu
    walk_at "rd"
    refine for_range (n := d.toNat) (fun i σ H6 => Here (∃ v1 du ds, σ = [some (.ref sc), some (.ref pt), some (.int d), some (T ks), some (.ref a1), some (.ref a2), some (.ref a3), some (.ref a4), some (.ref a5), some (.ref a6), some (.int (cellF ns 13)), some (T mk), some (.ref r), some (.ref ol), some (.ref ho), some (.ref du), v1, none] ∧ H6 du = some (.lst ds) ∧ All2 TpV H6 (allF ks nds ls ps rows i) ds ∧ Same H5 H6)) (Here.mk ⟨none, du0, [], rfl, upd_same, trivial, same_new ndu _⟩) ?_ ?_
    · rintro i σ H6 hi hv
      obtain ⟨v1, du, ds, rfl, hdu, hA6, s6⟩ := hv.out
      have hP6 := hP5.same s6
      have hr6 := s6 _ _ hr5
      have hR : ROk rows (0 + (i : Int)) := ⟨by omega, fun r hr => by have := hrd r hr; omega⟩
      have lds : ds.length ≤ 400 := by
        have e1 := hA6.len
        have e2 := all_len (nds := nds) (ls := ls) (rows := rows) p8 k1 i
        omega
      walk_at "rd"
      intro D H7 es s7 hD hE
      have hdu7 := s7 _ _ hdu
      have les : es.length ≤ 28 := by rw [hE.len]; exact day_len p8 k1
      walk_at "rd"
      intro p np
      have s8 : Same H7 (upd H7 p (.lst (ds ++ es))) := same_new np _
      refine Here.mk ⟨_, p, ds ++ es, rfl, upd_same, ?_, (s6.trans s7).trans s8⟩
      rw [allF]
      exact All2.app (hA6.imp fun a y => TpV.keeps a y _ _ (s7.trans s8).keeps) (hE.imp fun a y => TpV.keeps a y _ _ s8.keeps)
    rintro σ H6 hv
    obtain ⟨v1, du, ds, rfl, hdu, hA6, s6⟩ := hv.out
    have hq6 := hq.same s6
    have hr6 := s6 _ _ hr5
    have pl : ∀ x ∈ allF ks nds ls ps rows d.toNat, Plain x ∧ x.length ≤ 10 := fun x hx => ⟨all_plain _ x hx, all_four _ x hx⟩
    clear hq hr5 hP5 s6 ndu
    have d0' : 0 ≤ d := by omega
    walk_at "rd"
    intro fd H7 fs s7 nfd hfd hF
    have hdu7 := s7 _ _ hdu
    have hA7 := hA6.imp fun a y => TpV.keeps a y _ _ s7.keeps
    walk_at "rd"
    intro H8 s8
    have hfd8 := s8 _ _ hfd
    have s9 : Same H6 (upd H8 fd (.lst [])) := (s7.trans s8).upd nfd
    have hq9 := hq6.same s9
    have hr9 := s9 _ _ hr6
    walk_at "rd"
    intro fd2 H10 fs2 s10 nfd2 hfd2 hG2
    have s11 := s9.trans s10
    have hdu10 := s11 _ _ hdu
    have hA10 := hA6.imp fun a y => TpV.keeps a y _ _ s11.keeps
    walk_at "rd"
    exact fun H11 _ => q H11
end

theorem all_mk {l : PySem.W.OpenLaw} {w : World} {K : PySem.W.Frag} {h : Heap} {mg : Str → Option Value} {fa C_Person C_House q1 q2 q3 q4 q5 q6 q7 q8 q9 q10 q11 q12 q13 q14 q15 q16 q17 q18 q19 q20 q21 q22 q23 q24 q25 q26 q27 q28 q29 q30 : Addr} (X : K.In h) (G : h.Ns mainGlobals mg) (hfa : mg "law" = some (.ref fa))
    {od1 an1 od2 an2 od3 an3 od4 an4 od5 an5 od6 an6 od7 an7 od8 an8 od9 an9 od10 an10 od11 an11 od12 an12 od13 an13 od14 an14 od15 an15 od16 an16 od17 an17 od18 an18 od19 an19 od20 an20 od21 an21 od22 an22 od23 an23 od24 an24 od25 an25 od26 an26 od27 an27 od28 an28 od29 an29 od30 an30 : Option Addr} {sl1 sl2 sl3 sl4 sl5 sl6 sl7 sl8 sl9 sl10 sl11 sl12 sl13 sl14 sl15 sl16 sl17 sl18 sl19 sl20 sl21 sl22 sl23 sl24 sl25 sl26 sl27 sl28 sl29 sl30 : Array (Option Value)} {oc1 kV1 dc1 pm1 cd1 ct1 oc2 kV2 dc2 pm2 cd2 ct2 oc3 kV3 dc3 pm3 cd3 ct3 oc4 kV4 dc4 pm4 cd4 ct4 oc5 kV5 dc5 pm5 cd5 ct5 oc6 kV6 dc6 pm6 cd6 ct6 oc7 kV7 dc7 pm7 cd7 ct7 oc8 kV8 dc8 pm8 cd8 ct8 oc9 kV9 dc9 pm9 cd9 ct9 oc10 kV10 dc10 pm10 cd10 ct10 oc11 kV11 dc11 pm11 cd11 ct11 oc12 kV12 dc12 pm12 cd12 ct12 oc13 kV13 dc13 pm13 cd13 ct13 oc14 kV14 dc14 pm14 cd14 ct14 oc15 kV15 dc15 pm15 cd15 ct15 oc16 kV16 dc16 pm16 cd16 ct16 oc17 kV17 dc17 pm17 cd17 ct17 oc18 kV18 dc18 pm18 cd18 ct18 oc19 kV19 dc19 pm19 cd19 ct19 oc20 kV20 dc20 pm20 cd20 ct20 oc21 kV21 dc21 pm21 cd21 ct21 oc22 kV22 dc22 pm22 cd22 ct22 oc23 kV23 dc23 pm23 cd23 ct23 oc24 kV24 dc24 pm24 cd24 ct24 oc25 kV25 dc25 pm25 cd25 ct25 oc26 kV26 dc26 pm26 cd26 ct26 oc27 kV27 dc27 pm27 cd27 ct27 oc28 kV28 dc28 pm28 cd28 ct28 oc29 kV29 dc29 pm29 cd29 ct29 oc30 kV30 dc30 pm30 cd30 ct30 : Value}
    (g_Person : PySem.W.nsIn K mainGlobals "Person" = some (some (.ref C_Person)))
    (g_House : PySem.W.nsIn K mainGlobals "House" = some (some (.ref C_House)))
    (a1 : PySem.W.findIn K (.ref C_Person) "__init__" = some (some (.ref q1)))
    (i1 : PySem.W.isFn K (.ref q1) = true)
    (l1 : K.lookup q1 = some ⟨oc1, od1, .func (PySem.W.fnOf "__init__" "Person.__init__" (defArgs s_Person_init) (defBody s_Person_init) (defScope s_Person_init) .none kV1 dc1 pm1 an1 cd1 ct1), sl1⟩)
    (c1 : PySem.W.codeIn K cd1 "Person.__init__" = true)
    (k1 : PySem.W.keepIn K (.ref q1) = true)
    (a2 : PySem.W.findIn K (.ref C_House) "__init__" = some (some (.ref q2)))
    (i2 : PySem.W.isFn K (.ref q2) = true)
    (l2 : K.lookup q2 = some ⟨oc2, od2, .func (PySem.W.fnOf "__init__" "House.__init__" (defArgs s_House_init) (defBody s_House_init) (defScope s_House_init) .none kV2 dc2 pm2 an2 cd2 ct2), sl2⟩)
    (c2 : PySem.W.codeIn K cd2 "House.__init__" = true)
    (k2 : PySem.W.keepIn K (.ref q2) = true)
    (a3 : PySem.W.nsIn K mainGlobals "_law_cell_at" = some (some (.ref q3)))
    (l3 : K.lookup q3 = some ⟨oc3, od3, .func (PySem.W.fnOf "_law_cell_at" "_law_cell_at" (defArgs s_law_cell_at) (defBody s_law_cell_at) (defScope s_law_cell_at) .none kV3 dc3 pm3 an3 cd3 ct3), sl3⟩)
    (c3 : PySem.W.codeIn K cd3 "_law_cell_at" = true)
    (k3 : PySem.W.keepIn K (.ref q3) = true)
    (a4 : PySem.W.nsIn K mainGlobals "_law_stream" = some (some (.ref q4)))
    (l4 : K.lookup q4 = some ⟨oc4, od4, .func (PySem.W.fnOf "_law_stream" "_law_stream" (defArgs s_law_stream) (defBody s_law_stream) (defScope s_law_stream) .none kV4 dc4 pm4 an4 cd4 ct4), sl4⟩)
    (c4 : PySem.W.codeIn K cd4 "_law_stream" = true)
    (k4 : PySem.W.keepIn K (.ref q4) = true)
    (a5 : PySem.W.nsIn K mainGlobals "_law_kinds" = some (some (.ref q5)))
    (l5 : K.lookup q5 = some ⟨oc5, od5, .func (PySem.W.fnOf "_law_kinds" "_law_kinds" (defArgs s_law_kinds) (defBody s_law_kinds) (defScope s_law_kinds) .none kV5 dc5 pm5 an5 cd5 ct5), sl5⟩)
    (c5 : PySem.W.codeIn K cd5 "_law_kinds" = true)
    (k5 : PySem.W.keepIn K (.ref q5) = true)
    (a6 : PySem.W.nsIn K mainGlobals "_law_name" = some (some (.ref q6)))
    (l6 : K.lookup q6 = some ⟨oc6, od6, .func (PySem.W.fnOf "_law_name" "_law_name" (defArgs s_law_name) (defBody s_law_name) (defScope s_law_name) .none kV6 dc6 pm6 an6 cd6 ct6), sl6⟩)
    (c6 : PySem.W.codeIn K cd6 "_law_name" = true)
    (k6 : PySem.W.keepIn K (.ref q6) = true)
    (a7 : PySem.W.nsIn K mainGlobals "_law_rota" = some (some (.ref q7)))
    (l7 : K.lookup q7 = some ⟨oc7, od7, .func (PySem.W.fnOf "_law_rota" "_law_rota" (defArgs s_law_rota) (defBody s_law_rota) (defScope s_law_rota) .none kV7 dc7 pm7 an7 cd7 ct7), sl7⟩)
    (c7 : PySem.W.codeIn K cd7 "_law_rota" = true)
    (k7 : PySem.W.keepIn K (.ref q7) = true)
    (a8 : PySem.W.nsIn K mainGlobals "_law_some" = some (some (.ref q8)))
    (l8 : K.lookup q8 = some ⟨oc8, od8, .func (PySem.W.fnOf "_law_some" "_law_some" (defArgs s_law_some) (defBody s_law_some) (defScope s_law_some) .none kV8 dc8 pm8 an8 cd8 ct8), sl8⟩)
    (c8 : PySem.W.codeIn K cd8 "_law_some" = true)
    (k8 : PySem.W.keepIn K (.ref q8) = true)
    (a9 : PySem.W.nsIn K mainGlobals "_law_needs" = some (some (.ref q9)))
    (l9 : K.lookup q9 = some ⟨oc9, od9, .func (PySem.W.fnOf "_law_needs" "_law_needs" (defArgs s_law_needs) (defBody s_law_needs) (defScope s_law_needs) .none kV9 dc9 pm9 an9 cd9 ct9), sl9⟩)
    (c9 : PySem.W.codeIn K cd9 "_law_needs" = true)
    (k9 : PySem.W.keepIn K (.ref q9) = true)
    (a10 : PySem.W.nsIn K mainGlobals "_law_need_by" = some (some (.ref q10)))
    (l10 : K.lookup q10 = some ⟨oc10, od10, .func (PySem.W.fnOf "_law_need_by" "_law_need_by" (defArgs s_law_need_by) (defBody s_law_need_by) (defScope s_law_need_by) .none kV10 dc10 pm10 an10 cd10 ct10), sl10⟩)
    (c10 : PySem.W.codeIn K cd10 "_law_need_by" = true)
    (k10 : PySem.W.keepIn K (.ref q10) = true)
    (a11 : PySem.W.nsIn K mainGlobals "duties_in" = some (some (.ref q11)))
    (l11 : K.lookup q11 = some ⟨oc11, od11, .func (PySem.W.fnOf "duties_in" "duties_in" (defArgs s_duties_in) (defBody s_duties_in) (defScope s_duties_in) .none kV11 dc11 pm11 an11 cd11 ct11), sl11⟩)
    (c11 : PySem.W.codeIn K cd11 "duties_in" = true)
    (k11 : PySem.W.keepIn K (.ref q11) = true)
    (a12 : PySem.W.findIn K (.ref C_House) "need" = some (some (.ref q12)))
    (i12 : PySem.W.isFn K (.ref q12) = true)
    (l12 : K.lookup q12 = some ⟨oc12, od12, .func (PySem.W.fnOf "need" "House.need" (defArgs s_House_need) (defBody s_House_need) (defScope s_House_need) .none kV12 dc12 pm12 an12 cd12 ct12), sl12⟩)
    (c12 : PySem.W.codeIn K cd12 "House.need" = true)
    (k12 : PySem.W.keepIn K (.ref q12) = true)
    (a13 : PySem.W.findIn K (.ref C_House) "rules_for" = some (some (.ref q13)))
    (i13 : PySem.W.isFn K (.ref q13) = true)
    (l13 : K.lookup q13 = some ⟨oc13, od13, .func (PySem.W.fnOf "rules_for" "House.rules_for" (defArgs s_House_rules_for) (defBody s_House_rules_for) (defScope s_House_rules_for) .none kV13 dc13 pm13 an13 cd13 ct13), sl13⟩)
    (c13 : PySem.W.codeIn K cd13 "House.rules_for" = true)
    (k13 : PySem.W.keepIn K (.ref q13) = true)
    (a14 : PySem.W.nsIn K mainGlobals "on_duty" = some (some (.ref q14)))
    (l14 : K.lookup q14 = some ⟨oc14, od14, .func (PySem.W.fnOf "on_duty" "on_duty" (defArgs s_on_duty) (defBody s_on_duty) (defScope s_on_duty) .none kV14 dc14 pm14 an14 cd14 ct14), sl14⟩)
    (c14 : PySem.W.codeIn K cd14 "on_duty" = true)
    (k14 : PySem.W.keepIn K (.ref q14) = true)
    (a15 : PySem.W.nsIn K mainGlobals "skill_faults" = some (some (.ref q15)))
    (l15 : K.lookup q15 = some ⟨oc15, od15, .func (PySem.W.fnOf "skill_faults" "skill_faults" (defArgs s_skill_faults) (defBody s_skill_faults) (defScope s_skill_faults) .none kV15 dc15 pm15 an15 cd15 ct15), sl15⟩)
    (c15 : PySem.W.codeIn K cd15 "skill_faults" = true)
    (k15 : PySem.W.keepIn K (.ref q15) = true)
    (a16 : PySem.W.nsIn K mainGlobals "leave_faults" = some (some (.ref q16)))
    (l16 : K.lookup q16 = some ⟨oc16, od16, .func (PySem.W.fnOf "leave_faults" "leave_faults" (defArgs s_leave_faults) (defBody s_leave_faults) (defScope s_leave_faults) .none kV16 dc16 pm16 an16 cd16 ct16), sl16⟩)
    (c16 : PySem.W.codeIn K cd16 "leave_faults" = true)
    (k16 : PySem.W.keepIn K (.ref q16) = true)
    (a17 : PySem.W.nsIn K mainGlobals "need_faults" = some (some (.ref q17)))
    (l17 : K.lookup q17 = some ⟨oc17, od17, .func (PySem.W.fnOf "need_faults" "need_faults" (defArgs s_need_faults) (defBody s_need_faults) (defScope s_need_faults) .none kV17 dc17 pm17 an17 cd17 ct17), sl17⟩)
    (c17 : PySem.W.codeIn K cd17 "need_faults" = true)
    (k17 : PySem.W.keepIn K (.ref q17) = true)
    (a18 : PySem.W.nsIn K mainGlobals "most_faults" = some (some (.ref q18)))
    (l18 : K.lookup q18 = some ⟨oc18, od18, .func (PySem.W.fnOf "most_faults" "most_faults" (defArgs s_most_faults) (defBody s_most_faults) (defScope s_most_faults) .none kV18 dc18 pm18 an18 cd18 ct18), sl18⟩)
    (c18 : PySem.W.codeIn K cd18 "most_faults" = true)
    (k18 : PySem.W.keepIn K (.ref q18) = true)
    (a19 : PySem.W.nsIn K mainGlobals "rule_faults" = some (some (.ref q19)))
    (l19 : K.lookup q19 = some ⟨oc19, od19, .func (PySem.W.fnOf "rule_faults" "rule_faults" (defArgs s_rule_faults) (defBody s_rule_faults) (defScope s_rule_faults) .none kV19 dc19 pm19 an19 cd19 ct19), sl19⟩)
    (c19 : PySem.W.codeIn K cd19 "rule_faults" = true)
    (k19 : PySem.W.keepIn K (.ref q19) = true)
    (a20 : PySem.W.nsIn K mainGlobals "pair_faults" = some (some (.ref q20)))
    (l20 : K.lookup q20 = some ⟨oc20, od20, .func (PySem.W.fnOf "pair_faults" "pair_faults" (defArgs s_pair_faults) (defBody s_pair_faults) (defScope s_pair_faults) .none kV20 dc20 pm20 an20 cd20 ct20), sl20⟩)
    (c20 : PySem.W.codeIn K cd20 "pair_faults" = true)
    (k20 : PySem.W.keepIn K (.ref q20) = true)
    (a21 : PySem.W.nsIn K mainGlobals "faults" = some (some (.ref q21)))
    (l21 : K.lookup q21 = some ⟨oc21, od21, .func (PySem.W.fnOf "faults" "faults" (defArgs s_faults) (defBody s_faults) (defScope s_faults) .none kV21 dc21 pm21 an21 cd21 ct21), sl21⟩)
    (c21 : PySem.W.codeIn K cd21 "faults" = true)
    (k21 : PySem.W.keepIn K (.ref q21) = true)
    (a22 : PySem.W.nsIn K mainGlobals "_law_plain_rule" = some (some (.ref q22)))
    (l22 : K.lookup q22 = some ⟨oc22, od22, .func (PySem.W.fnOf "_law_plain_rule" "_law_plain_rule" (defArgs s_law_plain_rule) (defBody s_law_plain_rule) (defScope s_law_plain_rule) .none kV22 dc22 pm22 an22 cd22 ct22), sl22⟩)
    (c22 : PySem.W.codeIn K cd22 "_law_plain_rule" = true)
    (k22 : PySem.W.keepIn K (.ref q22) = true)
    (a23 : PySem.W.nsIn K mainGlobals "_law_rule" = some (some (.ref q23)))
    (l23 : K.lookup q23 = some ⟨oc23, od23, .func (PySem.W.fnOf "_law_rule" "_law_rule" (defArgs s_law_rule) (defBody s_law_rule) (defScope s_law_rule) .none kV23 dc23 pm23 an23 cd23 ct23), sl23⟩)
    (c23 : PySem.W.codeIn K cd23 "_law_rule" = true)
    (k23 : PySem.W.keepIn K (.ref q23) = true)
    (a24 : PySem.W.nsIn K mainGlobals "_law_wish" = some (some (.ref q24)))
    (l24 : K.lookup q24 = some ⟨oc24, od24, .func (PySem.W.fnOf "_law_wish" "_law_wish" (defArgs s_law_wish) (defBody s_law_wish) (defScope s_law_wish) .none kV24 dc24 pm24 an24 cd24 ct24), sl24⟩)
    (c24 : PySem.W.codeIn K cd24 "_law_wish" = true)
    (k24 : PySem.W.keepIn K (.ref q24) = true)
    (a25 : PySem.W.nsIn K mainGlobals "_law_person" = some (some (.ref q25)))
    (l25 : K.lookup q25 = some ⟨oc25, od25, .func (PySem.W.fnOf "_law_person" "_law_person" (defArgs s_law_person) (defBody s_law_person) (defScope s_law_person) .none kV25 dc25 pm25 an25 cd25 ct25), sl25⟩)
    (c25 : PySem.W.codeIn K cd25 "_law_person" = true)
    (k25 : PySem.W.keepIn K (.ref q25) = true)
    (a26 : PySem.W.nsIn K mainGlobals "_law_parts" = some (some (.ref q26)))
    (l26 : K.lookup q26 = some ⟨oc26, od26, .func (PySem.W.fnOf "_law_parts" "_law_parts" (defArgs s_law_parts) (defBody s_law_parts) (defScope s_law_parts) .none kV26 dc26 pm26 an26 cd26 ct26), sl26⟩)
    (c26 : PySem.W.codeIn K cd26 "_law_parts" = true)
    (k26 : PySem.W.keepIn K (.ref q26) = true)
    (a27 : PySem.W.nsIn K mainGlobals "_law_person_faults" = some (some (.ref q27)))
    (l27 : K.lookup q27 = some ⟨oc27, od27, .func (PySem.W.fnOf "_law_person_faults" "_law_person_faults" (defArgs s_law_person_faults) (defBody s_law_person_faults) (defScope s_law_person_faults) .none kV27 dc27 pm27 an27 cd27 ct27), sl27⟩)
    (c27 : PySem.W.codeIn K cd27 "_law_person_faults" = true)
    (k27 : PySem.W.keepIn K (.ref q27) = true)
    (a28 : PySem.W.nsIn K mainGlobals "_law_plain_faults" = some (some (.ref q28)))
    (l28 : K.lookup q28 = some ⟨oc28, od28, .func (PySem.W.fnOf "_law_plain_faults" "_law_plain_faults" (defArgs s_law_plain_faults) (defBody s_law_plain_faults) (defScope s_law_plain_faults) .none kV28 dc28 pm28 an28 cd28 ct28), sl28⟩)
    (c28 : PySem.W.codeIn K cd28 "_law_plain_faults" = true)
    (k28 : PySem.W.keepIn K (.ref q28) = true)
    (a29 : PySem.W.nsIn K mainGlobals "_law_same" = some (some (.ref q29)))
    (l29 : K.lookup q29 = some ⟨oc29, od29, .func (PySem.W.fnOf "_law_same" "_law_same" (defArgs s_law_same) (defBody s_law_same) (defScope s_law_same) .none kV29 dc29 pm29 an29 cd29 ct29), sl29⟩)
    (c29 : PySem.W.codeIn K cd29 "_law_same" = true)
    (k29 : PySem.W.keepIn K (.ref q29) = true)
    (a30 : PySem.W.nsIn K mainGlobals "law" = some (some (.ref q30)))
    (l30 : K.lookup q30 = some ⟨oc30, od30, .func (PySem.W.fnOf "law" "law" (defArgs s_law) (defBody s_law) (defScope s_law) .none kV30 dc30 pm30 an30 cd30 ct30), sl30⟩)
    (c30 : PySem.W.codeIn K cd30 "law" = true)
    (k30 : PySem.W.keepIn K (.ref q30) = true)
    (pg_Person : PySem.W.plainGet K C_Person Str.empty = true)
    (hd_Person : PySem.W.hasDictIn K C_Person = true)
    (po_Person : PySem.W.plainOver K C_Person = true)
    (sa_Person : PySem.W.findIn K (.ref C_Person) "__setattr__" = some (some (.builtin "object.__setattr__")))
    (mk_Person : PySem.W.makesIn K C_Person = true)
    (kc_Person : PySem.W.keepIn K (.ref C_Person) = true)
    (pg_House : PySem.W.plainGet K C_House Str.empty = true)
    (hd_House : PySem.W.hasDictIn K C_House = true)
    (po_House : PySem.W.plainOver K C_House = true)
    (sa_House : PySem.W.findIn K (.ref C_House) "__setattr__" = some (some (.builtin "object.__setattr__")))
    (mk_House : PySem.W.makesIn K C_House = true)
    (kc_House : PySem.W.keepIn K (.ref C_House) = true)
    (n_Person_name : PySem.W.findIn K (.ref C_Person) "name" = some none)
    (n_Person_skills : PySem.W.findIn K (.ref C_Person) "skills" = some none)
    (n_Person_most : PySem.W.findIn K (.ref C_Person) "most" = some none)
    (n_Person_carried : PySem.W.findIn K (.ref C_Person) "carried" = some none)
    (n_Person_past : PySem.W.findIn K (.ref C_Person) "past" = some none)
    (n_House_days : PySem.W.findIn K (.ref C_House) "days" = some none)
    (n_House_kinds : PySem.W.findIn K (.ref C_House) "kinds" = some none)
    (n_House_needs : PySem.W.findIn K (.ref C_House) "needs" = some none)
    (n_House_persons : PySem.W.findIn K (.ref C_House) "persons" = some none)
    (n_House_leave : PySem.W.findIn K (.ref C_House) "leave" = some none)
    (n_House_wishes : PySem.W.findIn K (.ref C_House) "wishes" = some none)
    (n_House_rules : PySem.W.findIn K (.ref C_House) "rules" = some none)
    (n_House_pairs : PySem.W.findIn K (.ref C_House) "pairs" = some none)
    (z_any : PySem.W.nsIn K mainGlobals "any" = some none)
    (z_bool : PySem.W.nsIn K mainGlobals "bool" = some none)
    (z_enumerate : PySem.W.nsIn K mainGlobals "enumerate" = some none)
    (z_isinstance : PySem.W.nsIn K mainGlobals "isinstance" = some none)
    (z_len : PySem.W.nsIn K mainGlobals "len" = some none)
    (z_list : PySem.W.nsIn K mainGlobals "list" = some none)
    (z_range : PySem.W.nsIn K mainGlobals "range" = some none)
    (z_str : PySem.W.nsIn K mainGlobals "str" = some none)
    (z_tuple : PySem.W.nsIn K mainGlobals "tuple" = some none)
    (z_zip : PySem.W.nsIn K mainGlobals "zip" = some none)
    : ∃ fd : FuncData, (∀ (s : Shared) (v : Value), BindsTo s fd ⟨[v], []⟩ [("_law_script", v)]) ∧ ∀ base : Heap, K.In base → base.Ns mainGlobals mg → FnOk l.prog w K mg base CX0 14 fa fd ["_law_script"] (sp_law K) := by
  have e := hfa.symm.trans (PySem.W.mg_of X G a30)
  cases e
  have T : Tx K mg C_Person C_House := ⟨⟨_, _, fun_mk (st := s_Person_init) l1 c1 k1, ⟨a1, i1, k1⟩⟩,
    ⟨_, _, fun_mk (st := s_House_init) l2 c2 k2, ⟨a2, i2, k2⟩⟩,
    ⟨_, _, fun_mk (st := s_law_cell_at) l3 c3 k3, PySem.W.mg_of X G a3⟩,
    ⟨_, _, fun_mk (st := s_law_stream) l4 c4 k4, PySem.W.mg_of X G a4⟩,
    ⟨_, _, fun_mk (st := s_law_kinds) l5 c5 k5, PySem.W.mg_of X G a5⟩,
    ⟨_, _, fun_mk (st := s_law_name) l6 c6 k6, PySem.W.mg_of X G a6⟩,
    ⟨_, _, fun_mk (st := s_law_rota) l7 c7 k7, PySem.W.mg_of X G a7⟩,
    ⟨_, _, fun_mk (st := s_law_some) l8 c8 k8, PySem.W.mg_of X G a8⟩,
    ⟨_, _, fun_mk (st := s_law_needs) l9 c9 k9, PySem.W.mg_of X G a9⟩,
    ⟨_, _, fun_mk (st := s_law_need_by) l10 c10 k10, PySem.W.mg_of X G a10⟩,
    ⟨_, _, fun_mk (st := s_duties_in) l11 c11 k11, PySem.W.mg_of X G a11⟩,
    ⟨_, _, fun_mk (st := s_House_need) l12 c12 k12, ⟨a12, i12, k12⟩⟩,
    ⟨_, _, fun_mk (st := s_House_rules_for) l13 c13 k13, ⟨a13, i13, k13⟩⟩,
    ⟨_, _, fun_mk (st := s_on_duty) l14 c14 k14, PySem.W.mg_of X G a14⟩,
    ⟨_, _, fun_mk (st := s_skill_faults) l15 c15 k15, PySem.W.mg_of X G a15⟩,
    ⟨_, _, fun_mk (st := s_leave_faults) l16 c16 k16, PySem.W.mg_of X G a16⟩,
    ⟨_, _, fun_mk (st := s_need_faults) l17 c17 k17, PySem.W.mg_of X G a17⟩,
    ⟨_, _, fun_mk (st := s_most_faults) l18 c18 k18, PySem.W.mg_of X G a18⟩,
    ⟨_, _, fun_mk (st := s_rule_faults) l19 c19 k19, PySem.W.mg_of X G a19⟩,
    ⟨_, _, fun_mk (st := s_pair_faults) l20 c20 k20, PySem.W.mg_of X G a20⟩,
    ⟨_, _, fun_mk (st := s_faults) l21 c21 k21, PySem.W.mg_of X G a21⟩,
    ⟨_, _, fun_mk (st := s_law_plain_rule) l22 c22 k22, PySem.W.mg_of X G a22⟩,
    ⟨_, _, fun_mk (st := s_law_rule) l23 c23 k23, PySem.W.mg_of X G a23⟩,
    ⟨_, _, fun_mk (st := s_law_wish) l24 c24 k24, PySem.W.mg_of X G a24⟩,
    ⟨_, _, fun_mk (st := s_law_person) l25 c25 k25, PySem.W.mg_of X G a25⟩,
    ⟨_, _, fun_mk (st := s_law_parts) l26 c26 k26, PySem.W.mg_of X G a26⟩,
    ⟨_, _, fun_mk (st := s_law_person_faults) l27 c27 k27, PySem.W.mg_of X G a27⟩,
    ⟨_, _, fun_mk (st := s_law_plain_faults) l28 c28 k28, PySem.W.mg_of X G a28⟩,
    ⟨_, _, fun_mk (st := s_law_same) l29 c29 k29, PySem.W.mg_of X G a29⟩,
    ⟨_, _, fun_mk (st := s_law) l30 c30 k30, PySem.W.mg_of X G a30⟩,
    ⟨⟨pg_Person, hd_Person, po_Person, sa_Person⟩, PySem.W.mg_of X G g_Person, mk_Person, kc_Person⟩,
    ⟨⟨pg_House, hd_House, po_House, sa_House⟩, PySem.W.mg_of X G g_House, mk_House, kc_House⟩,
    n_Person_name,
    n_Person_skills,
    n_Person_most,
    n_Person_carried,
    n_Person_past,
    n_House_days,
    n_House_kinds,
    n_House_needs,
    n_House_persons,
    n_House_leave,
    n_House_wishes,
    n_House_rules,
    n_House_pairs,
    PySem.W.mg_none_of X G z_any,
    PySem.W.mg_none_of X G z_bool,
    PySem.W.mg_none_of X G z_enumerate,
    PySem.W.mg_none_of X G z_isinstance,
    PySem.W.mg_none_of X G z_len,
    PySem.W.mg_none_of X G z_list,
    PySem.W.mg_none_of X G z_range,
    PySem.W.mg_none_of X G z_str,
    PySem.W.mg_none_of X G z_tuple,
    PySem.W.mg_none_of X G z_zip⟩
  refine ⟨PySem.W.fnOf "law" "law" (defArgs s_law) (defBody s_law) (defScope s_law) .none kV30 dc30 pm30 an30 cd30 ct30, fun s v => .of_eq rfl, fun base _ _ => ?_⟩
  exact law_ok T (fun_mk (st := s_law) l30 c30 k30)
theorem walk {l : PySem.W.OpenLaw} {q : Program} {loose : List Str} {XP : (Str → Option Value) → Heap → Prop} {YP : World → Heap → Prop} {d : DefRec} {K : Params → PySem.W.Frag} (hn : l.most = some 63) (hdf : d.params.defaults = [])
    (hY : ∀ (w : World) (h : Heap), YP w h → (K w.params).In h)
    (F : ∀ (w : World) (mg : Str → Option Value) (fa : Addr) (h : Heap), (K w.params).In h → h.Ns mainGlobals mg → mg d.name = some (.ref fa) →
      ∃ fd : FuncData, (∀ (s : Shared) (u : Value), BindsTo s fd ⟨[u], []⟩ [("_law_script", u)]) ∧ ∀ base : Heap, (K w.params).In base → base.Ns mainGlobals mg → FnOk l.prog w (K w.params) mg base CX0 14 fa fd ["_law_script"] (sp_law (K w.params))) :
    PySem.W.WalkO q loose XP YP l.row.toRowW d [] (fun f vs => PySem.call f vs) :=
  L2.walk_of (n := 63) (k := 14) (x := "_law_script") (CX := fun _ => CX0) (sp := fun w => sp_law (K w.params)) hn (by decide) hdf ⟨rfl, by decide, by decide⟩ hY F (fun _ _ a ns hl _ hS => ⟨a, ns, rfl, hS, hl, fun _ => rfl⟩) fun _ _ _ _ _ z => z
theorem walkX {q : Program} {loose : List Str} {XP : (Str → Option Value) → Heap → Prop} {K : Params → PySem.W.Frag} {as : List Addr} {n t : Nat} {r : PySem.W.RowW} {d : DefRec} {kwd : List (Str × Expr)} {run : Value → List Value → Sem Value} (e : ∀ P, as = (K P).map (·.1))
    (h : PySem.W.WalkO q loose XP (fun w hp => (K w.params).In hp) r d kwd run) : PySem.W.WalkX q loose XP (PySem.W.X.obsZ as) (PySem.W.X.valZ K n t) r d kwd run := by
  intro w s₀ s₁ mg mb G Y a o pm cd doc dV kV h1 h2 h3 h4 h5 h6 args vals as' L p1 p2 p3 p4 p5
  exact h w s₀ s₁ mg mb G (PySem.W.InK.keeps w _ _ (PySem.W.X.z_facts e Y).2.1 L.keeps) a o pm cd doc dV kV h1 h2 h3 h4 h5 h6 args vals as' p1 p2 p3 p4 p5
end K33
open PySem PySem.W PyProof.Rows
set_option maxRecDepth 100000 in
set_option maxHeartbeats 0 in
theorem PySem.Challenge.cw_rotafair_k33_faults_of_marks_holds : PySem.Challenge.rw_rotafair_k33_faults_of_marks.Holds := by
  w_on; o_law; z_head; (case hw => w_witness2)
  k_fill
  refine K33.walkX (fun _ => rfl) ?_
  refine K33.walk (l := PySem.Challenge.rw_rotafair_k33_faults_of_marks) rfl rfl (fun w h Y => Y) ?F
  case F =>
    intro w mg fa h KX G hmg
    refine' K33.all_mk KX G hmg ?g_Person ?g_House ?a1 ?i1 ?l1 ?c1 ?k1 ?a2 ?i2 ?l2 ?c2 ?k2 ?a3 ?l3 ?c3 ?k3 ?a4 ?l4 ?c4 ?k4 ?a5 ?l5 ?c5 ?k5 ?a6 ?l6 ?c6 ?k6 ?a7 ?l7 ?c7 ?k7 ?a8 ?l8 ?c8 ?k8 ?a9 ?l9 ?c9 ?k9 ?a10 ?l10 ?c10 ?k10 ?a11 ?l11 ?c11 ?k11 ?a12 ?i12 ?l12 ?c12 ?k12 ?a13 ?i13 ?l13 ?c13 ?k13 ?a14 ?l14 ?c14 ?k14 ?a15 ?l15 ?c15 ?k15 ?a16 ?l16 ?c16 ?k16 ?a17 ?l17 ?c17 ?k17 ?a18 ?l18 ?c18 ?k18 ?a19 ?l19 ?c19 ?k19 ?a20 ?l20 ?c20 ?k20 ?a21 ?l21 ?c21 ?k21 ?a22 ?l22 ?c22 ?k22 ?a23 ?l23 ?c23 ?k23 ?a24 ?l24 ?c24 ?k24 ?a25 ?l25 ?c25 ?k25 ?a26 ?l26 ?c26 ?k26 ?a27 ?l27 ?c27 ?k27 ?a28 ?l28 ?c28 ?k28 ?a29 ?l29 ?c29 ?k29 ?a30 ?l30 ?c30 ?k30 ?pg_Person ?hd_Person ?po_Person ?sa_Person ?mk_Person ?kc_Person ?pg_House ?hd_House ?po_House ?sa_House ?mk_House ?kc_House ?n_Person_name ?n_Person_skills ?n_Person_most ?n_Person_carried ?n_Person_past ?n_House_days ?n_House_kinds ?n_House_needs ?n_House_persons ?n_House_leave ?n_House_wishes ?n_House_rules ?n_House_pairs ?z_any ?z_bool ?z_enumerate ?z_isinstance ?z_len ?z_list ?z_range ?z_str ?z_tuple ?z_zip
    (case g_Person => k_is)
    (case g_House => k_is)
    (case a1 => k_is)
    (case i1 => k_is)
    (case l1 => k_is)
    (case c1 => k_is)
    (case k1 => k_is)
    (case a2 => k_is)
    (case i2 => k_is)
    (case l2 => k_is)
    (case c2 => k_is)
    (case k2 => k_is)
    (case a3 => k_is)
    (case l3 => k_is)
    (case c3 => k_is)
    (case k3 => k_is)
    (case a4 => k_is)
    (case l4 => k_is)
    (case c4 => k_is)
    (case k4 => k_is)
    (case a5 => k_is)
    (case l5 => k_is)
    (case c5 => k_is)
    (case k5 => k_is)
    (case a6 => k_is)
    (case l6 => k_is)
    (case c6 => k_is)
    (case k6 => k_is)
    (case a7 => k_is)
    (case l7 => k_is)
    (case c7 => k_is)
    (case k7 => k_is)
    (case a8 => k_is)
    (case l8 => k_is)
    (case c8 => k_is)
    (case k8 => k_is)
    (case a9 => k_is)
    (case l9 => k_is)
    (case c9 => k_is)
    (case k9 => k_is)
    (case a10 => k_is)
    (case l10 => k_is)
    (case c10 => k_is)
    (case k10 => k_is)
    (case a11 => k_is)
    (case l11 => k_is)
    (case c11 => k_is)
    (case k11 => k_is)
    (case a12 => k_is)
    (case i12 => k_is)
    (case l12 => k_is)
    (case c12 => k_is)
    (case k12 => k_is)
    (case a13 => k_is)
    (case i13 => k_is)
    (case l13 => k_is)
    (case c13 => k_is)
    (case k13 => k_is)
    (case a14 => k_is)
    (case l14 => k_is)
    (case c14 => k_is)
    (case k14 => k_is)
    (case a15 => k_is)
    (case l15 => k_is)
    (case c15 => k_is)
    (case k15 => k_is)
    (case a16 => k_is)
    (case l16 => k_is)
    (case c16 => k_is)
    (case k16 => k_is)
    (case a17 => k_is)
    (case l17 => k_is)
    (case c17 => k_is)
    (case k17 => k_is)
    (case a18 => k_is)
    (case l18 => k_is)
    (case c18 => k_is)
    (case k18 => k_is)
    (case a19 => k_is)
    (case l19 => k_is)
    (case c19 => k_is)
    (case k19 => k_is)
    (case a20 => k_is)
    (case l20 => k_is)
    (case c20 => k_is)
    (case k20 => k_is)
    (case a21 => k_is)
    (case l21 => k_is)
    (case c21 => k_is)
    (case k21 => k_is)
    (case a22 => k_is)
    (case l22 => k_is)
    (case c22 => k_is)
    (case k22 => k_is)
    (case a23 => k_is)
    (case l23 => k_is)
    (case c23 => k_is)
    (case k23 => k_is)
    (case a24 => k_is)
    (case l24 => k_is)
    (case c24 => k_is)
    (case k24 => k_is)
    (case a25 => k_is)
    (case l25 => k_is)
    (case c25 => k_is)
    (case k25 => k_is)
    (case a26 => k_is)
    (case l26 => k_is)
    (case c26 => k_is)
    (case k26 => k_is)
    (case a27 => k_is)
    (case l27 => k_is)
    (case c27 => k_is)
    (case k27 => k_is)
    (case a28 => k_is)
    (case l28 => k_is)
    (case c28 => k_is)
    (case k28 => k_is)
    (case a29 => k_is)
    (case l29 => k_is)
    (case c29 => k_is)
    (case k29 => k_is)
    (case a30 => k_is)
    (case l30 => k_is)
    (case c30 => k_is)
    (case k30 => k_is)
    (case pg_Person => k_is)
    (case hd_Person => k_is)
    (case po_Person => k_is)
    (case sa_Person => k_is)
    (case mk_Person => k_is)
    (case kc_Person => k_is)
    (case pg_House => k_is)
    (case hd_House => k_is)
    (case po_House => k_is)
    (case sa_House => k_is)
    (case mk_House => k_is)
    (case kc_House => k_is)
    (case n_Person_name => k_is)
    (case n_Person_skills => k_is)
    (case n_Person_most => k_is)
    (case n_Person_carried => k_is)
    (case n_Person_past => k_is)
    (case n_House_days => k_is)
    (case n_House_kinds => k_is)
    (case n_House_needs => k_is)
    (case n_House_persons => k_is)
    (case n_House_leave => k_is)
    (case n_House_wishes => k_is)
    (case n_House_rules => k_is)
    (case n_House_pairs => k_is)
    (case z_any => k_is)
    (case z_bool => k_is)
    (case z_enumerate => k_is)
    (case z_isinstance => k_is)
    (case z_len => k_is)
    (case z_list => k_is)
    (case z_range => k_is)
    (case z_str => k_is)
    (case z_tuple => k_is)
    (case z_zip => k_is)
#print axioms PySem.Challenge.cw_rotafair_k33_faults_of_marks_holds
