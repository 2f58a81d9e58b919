import PyProof.Rows.All
import Wide.All
import OpenK.AllK
import Wide.FinOn
import Lean
import PyProof.EqAt
import PyProof.EqKinds
import PyProof.TupleCall
import PySem.Challenge.RW_rotafair_k53_no_rota_below_a_floor

set_option Elab.async false
set_option linter.all false
set_option maxRecDepth 100000
/-! THE HAND LAYER, for ints, bools, texts, own classes, LISTS and tuples (index, slices, in, append, pop ..), calls, loops. Paste it whole ahead of your own text; what your proof does not reach may be deleted. -/
namespace L2
open PySem PySem.Spec PyProof.Rows

/-- a key: an int or a str -/
abbrev Key := Sum Int Str
def keyIs : Key → Value → Bool
  | .inl k, v => Value.isInt k v
  | .inr x, v => Value.isStrOf x v
def keyH (w : World) : Key → Int
  | .inl k => hashInt k
  | .inr x => hashStr w x
theorem keyIs_shape : ∀ {k : Key} {v : Value}, keyIs k v = true → (∃ i t, k = Sum.inl i ∧ v = Value.int i t) ∨ (∃ x t, k = Sum.inr x ∧ v = Value.str x t)
  | .inl i, v, h => by
    obtain ⟨t, e⟩ := Value.isInt_shape (k := i) (v := v) h
    exact .inl ⟨i, t, rfl, e⟩
  | .inr x, v, h => by
    obtain ⟨t, e⟩ := Value.isStrOf_shape (x := x) (v := v) h
    exact .inr ⟨x, t, rfl, e⟩
theorem keyIs_int (i : Int) (t : Tok) : keyIs (.inl i) (.int i t) = true := by simp [keyIs, Value.isInt]
theorem keyIs_str (x : Str) (t : Tok) : keyIs (.inr x) (.str x t) = true := by simp [keyIs, Value.isStrOf]
theorem key_ll (a b : Int) : decide ((Sum.inl a : Key) = Sum.inl b) = (a == b) := by
  by_cases e : a = b
  · subst e; simp
  · have h : ¬ (Sum.inl a : Key) = Sum.inl b := fun q => e (Sum.inl.inj q)
    rw [decide_eq_false h]
    exact (beq_eq_false_iff_ne.mpr e).symm
theorem key_rr (a b : Str) : decide ((Sum.inr a : Key) = Sum.inr b) = decide (a = b) := by
  by_cases e : a = b
  · subst e; simp
  · have h : ¬ (Sum.inr a : Key) = Sum.inr b := fun q => e (Sum.inr.inj q)
    rw [decide_eq_false h, decide_eq_false e]
theorem key_lr (a : Int) (b : Str) : decide ((Sum.inl a : Key) = Sum.inr b) = false := decide_eq_false (fun q => nomatch q)
theorem key_rl (a : Str) (b : Int) : decide ((Sum.inr a : Key) = Sum.inl b) = false := decide_eq_false (fun q => nomatch q)

def mixKind (prog : Program) (w : World) : PySem.KeyKind prog w Key where
  is := keyIs
  hash := keyH w
  inj := fun v a b ha hb => by
    rcases keyIs_shape ha with ⟨i, t, rfl, rfl⟩ | ⟨x, t, rfl, rfl⟩
    · rcases keyIs_shape hb with ⟨j, u, rfl, e⟩ | ⟨y, u, rfl, e⟩
      · injection e with e1 _; rw [e1]
      · exact nomatch e
    · rcases keyIs_shape hb with ⟨j, u, rfl, e⟩ | ⟨y, u, rfl, e⟩
      · exact nomatch e
      · injection e with e1 _; rw [e1]
  byValue := fun k v h => by
    rcases keyIs_shape h with ⟨i, t, rfl, rfl⟩ | ⟨x, t, rfl, rfl⟩ <;> rfl
  pyHash := fun hv h => by
    rcases keyIs_shape hv with ⟨i, t, rfl, rfl⟩ | ⟨x, t, rfl, rfl⟩
    · exact wpAny_pyHash_int h
    · exact wpAny_pyHash_str h
  eqBool := fun hu hv h => by
    rcases keyIs_shape hu with ⟨i, t, rfl, rfl⟩ | ⟨x, t, rfl, rfl⟩
    · rcases keyIs_shape hv with ⟨j, u, rfl, rfl⟩ | ⟨y, u, rfl, rfl⟩
      · rw [key_ll] at h; exact wpAny_eqBool_int h
      · rw [key_lr] at h; exact SeqAt.EqAt.int_str i t y u _ _ _ _ h
    · rcases keyIs_shape hv with ⟨j, u, rfl, rfl⟩ | ⟨y, u, rfl, rfl⟩
      · rw [key_rl] at h; exact SeqAt.EqAt.str_int x t j u _ _ _ _ h
      · rw [key_rr] at h; exact wpAny_eqBool_str h
  «strs» := fun k x t v h => by
    rcases keyIs_shape h with ⟨i, u, rfl, e⟩ | ⟨y, u, rfl, e⟩
    · exact nomatch e
    · injection e with e1 _
      subst e1
      cases v <;> rfl

theorem mixKind_int (prog : Program) (w : World) (i : Int) (t : Tok) : (mixKind prog w).is (.inl i) (.int i t) = true := keyIs_int i t
theorem mixKind_str (prog : Program) (w : World) (x : Str) (t : Tok) : (mixKind prog w).is (.inr x) (.str x t) = true := keyIs_str x t
end L2

namespace L2
open PySem PySem.Spec PyProof.Rows

/-- a value, without the heap -/
inductive V where
  | non | bl (b : Bool) | int (i : Int) | str (x : Str) | byt (b : Array UInt8) | flt (b : UInt64) | ref (a : Addr) | ty (n : String)
  deriving DecidableEq

def RelV : V → Value → Prop
  | .non, u => u = Value.none
  | .bl b, u => u = Value.bool b
  | .int i, u => ∃ t, u = Value.int i t
  | .str x, u => ∃ t, u = Value.str x t
  | .byt b, u => ∃ t, u = Value.bytes b t
  | .flt b, u => ∃ t, u = Value.float b t
  | .ref a, u => u = Value.ref a
  | .ty n, u => u = Value.type n

abbrev Vals : List V → List Value → Prop := Paired RelV
theorem Vals.length {xs : List V} {us : List Value} (r : Vals xs us) : xs.length = us.length := Paired.length r
theorem Vals.get : ∀ {xs : List V} {us : List Value} {i : Nat} {x : V}, Vals xs us → xs[i]? = some x → ∃ u, us[i]? = some u ∧ RelV x u
  | _, _, _, _, .nil, e => by simp at e
  | _, _, 0, _, .cons r _, e => by simp at e; subst e; exact ⟨_, rfl, r⟩
  | _, _, i + 1, x, .cons _ t, e => by
    obtain ⟨u, h1, h2⟩ := Vals.get (i := i) (x := x) t (by simpa using e)
    exact ⟨u, by simpa using h1, h2⟩
theorem Vals.append : ∀ {xs ys : List V} {us ws : List Value}, Vals xs us → Vals ys ws → Vals (xs ++ ys) (us ++ ws)
  | _, _, _, _, .nil, s => s
  | _, _, _, _, .cons r t, s => .cons r (Vals.append t s)
theorem Vals.take : ∀ {xs : List V} {us : List Value} (n : Nat), Vals xs us → Vals (xs.take n) (us.take n)
  | _, _, 0, _ => .nil
  | _, _, _ + 1, .nil => .nil
  | _, _, n + 1, .cons r t => .cons r (Vals.take n t)
theorem Vals.drop : ∀ {xs : List V} {us : List Value} (n : Nat), Vals xs us → Vals (xs.drop n) (us.drop n)
  | _, _, 0, r => r
  | _, _, _ + 1, .nil => .nil
  | _, _, n + 1, .cons _ t => Vals.drop n t
def RelO : Option V → Option Value → Prop
  | some v, some u => RelV v u
  | none, none => True
  | _, _ => False
def KV {κ : Type} : List (κ × V) → List (κ × Value) → Prop := Paired fun (p : κ × V) (q : κ × Value) => p.1 = q.1 ∧ RelV p.2 q.2

/-- a key of a dict (00_mix): an int or a text -/
def kV : Key → V
  | .inl i => .int i
  | .inr x => .str x

/-- what stands at a tracked address -/
inductive HO where
  /-- a list -/
  | lst (xs : List V)
  /-- a tuple (never changes) -/
  | tup (xs : List V)
  /-- a dict whose keys are ints and texts; one whose keys are tuples of ints and texts (the empty one is both) -/
  | dK (kvs : List (Key × V)) | dT (kvs : List (List Key × V))
  /-- a set of ints: its members, its size -/
  | set (S : Int → Bool) (n : Nat)
  /-- an instance of the class at C, its dict at dx, its attributes -/
  | ins (C dx : Addr) (fs : List (Str × V))
  /-- the dict of the instance at x -/
  | own (x : Addr)
  /-- the dict of an exception -/
  | xd (fs : List (Str × V))
  /-- a bound method, f of x -/
  | met (f x : Addr)
  /-- a range object lo, lo + 1, .. below hi -/
  | rng (lo hi : Int)
  /-- a thing that is known to the object (the script; a dict while a loop walks it): read, never written while it is so -/
  | frz (o : Obj) (u : HO)
  /-- a code object's table -/
  | tbl (ps : Array Value)
  /-- any other thing, by what is true of its one object (a def of one's own: SetO a S n := HO.ext fun h => ..) -/
  | ext (φ : Heap → Prop)

abbrev Hp := Addr → Option HO
def upd (H : Hp) (a : Addr) (o : HO) : Hp := fun b => if b = a then some o else H b
theorem upd_same {H : Hp} {a : Addr} {o : HO} : upd H a o a = some o := by unfold upd; rw [if_pos rfl]
theorem upd_ne {H : Hp} {a b : Addr} {o : HO} (h : b ≠ a) : upd H a o b = H b := by unfold upd; rw [if_neg h]
/-- two objects of different content stand apart -/
theorem ne_of {H : Hp} {a b : Addr} {o u : HO} (h : H a = some o) (h' : H b = some u) (d : o ≠ u) : a ≠ b := by
  intro e; subst e; rw [h] at h'; exact d (Option.some.inj h')
theorem ne_of_none {H : Hp} {a b : Addr} {o : HO} (h : H a = some o) (h' : H b = none) : a ≠ b := by
  intro e; subst e; rw [h] at h'; cases h'

section
variable (P : Program) (w : World)
def ObjOk (H : Hp) (h : Heap) (a : Addr) : HO → Prop
  | .lst xs => xs.length ≤ sizeLine ∧ ∃ (its : List Value) (n : Nat), Vals xs its ∧ h.get? a = some { cls := .type "list", data := .seq its.toArray n }
  | .tup xs => xs.length ≤ sizeLine ∧ ∃ its : List Value, Vals xs its ∧ IsTup h a its.toArray
  | .dK kvs => kvs.length ≤ sizeLine ∧ (a == sysModules) = false ∧ ∃ vs, KV kvs vs ∧ h.DictOf (mixKind P w) a vs
  | .dT kvs => kvs.length ≤ sizeLine ∧ (a == sysModules) = false ∧ ∃ xs : List (List Key × Addr × Value),
      Paired (fun (p : List Key × V) (q : List Key × Addr × Value) => p.1 = q.1 ∧ H q.2.1 = some (.tup (p.1.map kV)) ∧ RelV p.2 q.2.2) kvs xs ∧
      ∃ o es ep, h.get? a = some o ∧ o.ExactDict ∧ o.data = .dict es ep ∧ es.toList = xs.map (entryOfKey (tupleKind (mixKind P w))) ∧ (xs.map (·.1)).Nodup
  | .set S n => h.SetOf (intKind P w) a S n
  | .ins C dx fs => H dx = some (.own a) ∧ fs.length ≤ 1000 ∧ dx ≠ a ∧ h.get? a = some (PySem.W.instObj C dx) ∧
      ∃ mA, h.Ns1 dx mA ∧ (∀ f, RelO (fs.lookup f) (mA f)) ∧ PySem.Within mA (fs.map (·.1))
  | .own _ => ∃ o, h.get? a = some o
  | .xd fs => ∃ mA, h.Ns1 a mA ∧ ∀ f, RelO (fs.lookup f) (mA f)
  | .rng lo hi => ∃ t u v, h.get? a = some { cls := .type "range", data := .fields #[.int lo t, .int hi u, .int 1 v] }
  | .frz o u => h.get? a = some o ∧ ObjOk H h a u
  | .tbl ps => h.get? a = some { cls := .none, data := .fields ps }
  | .met f x => h.get? a = some (PySem.W.methodObj (.ref f) (.ref x))
  | .ext φ => φ h ∧ (∃ o, h.get? a = some o) ∧ ∀ h1 h2 : Heap, φ h1 → (∀ o, h1.get? a = some o → h2.get? a = some o) → φ h2
/-- the abstract heap is held -/
def HOk (H : Hp) (h : Heap) : Prop := ∀ a o, H a = some o → ObjOk P w H h a o
end

section
variable {P : Program} {w : World} {H H' : Hp} {h h' : Heap} {a : Addr} {o : HO}
theorem ObjOk.lt (x : ObjOk P w H h a o) : a < h.objs.size := by
  cases o with
  | lst xs => obtain ⟨_, _, _, _, e⟩ := x; exact Heap.lt_size e
  | tup xs => obtain ⟨_, _, _, p⟩ := x; exact p.lt
  | dK kvs => obtain ⟨_, _, _, _, o, _, _, e, _⟩ := x; exact Heap.lt_size e
  | dT kvs => obtain ⟨_, _, _, _, o, _, _, e, _⟩ := x; exact Heap.lt_size e
  | set S n => obtain ⟨o, _, _, _, e, _⟩ := x; exact Heap.lt_size e
  | ins C dx fs => obtain ⟨_, _, _, e, _⟩ := x; exact Heap.lt_size e
  | own y => obtain ⟨_, e⟩ := x; exact Heap.lt_size e
  | xd fs => obtain ⟨_, ⟨_, _, _, e, _⟩, _⟩ := x; exact Heap.lt_size e
  | rng lo hi => obtain ⟨_, _, _, e⟩ := x; exact Heap.lt_size e
  | frz ob u => obtain ⟨e, _⟩ := x; exact Heap.lt_size e
  | tbl ps => exact Heap.lt_size (show h.get? a = some _ from x)
  | met f y => exact Heap.lt_size (show h.get? a = some _ from x)
  | ext φ => obtain ⟨_, ⟨_, e⟩, _⟩ := x; exact Heap.lt_size e
theorem Paired.mapP {α β : Type} {F G : α → β → Prop} : ∀ {l₁ : List α} {l₂ : List β}, Paired F l₁ l₂ → (∀ a b, F a b → G a b) → Paired G l₁ l₂
  | _, _, .nil, _ => .nil
  | _, _, .cons r t, f => .cons (f _ _ r) (Paired.mapP t f)
/-- what an object's description leans on: its own object, its own dict, the tuples -/
theorem ObjOk.stay (x : ObjOk P w H h a o) (k : ∀ b u, (b = a ∨ H b = some (.own a)) → h.get? b = some u → h'.get? b = some u)
    (ho : ∀ b, H b = some (.own a) → H' b = some (.own a)) (ht : ∀ b xs, H b = some (.tup xs) → H' b = some (.tup xs)) : ObjOk P w H' h' a o := by
  induction o with
  | lst xs => obtain ⟨z, its, n, r, e⟩ := x; exact ⟨z, its, n, r, k _ _ (.inl rfl) e⟩
  | tup xs => obtain ⟨z, its, r, ob, e, c⟩ := x; exact ⟨z, its, r, ob, k _ _ (.inl rfl) e, c⟩
  | dK kvs => obtain ⟨z, y, vs, r, ob, es, ep, e, c⟩ := x; exact ⟨z, y, vs, r, ob, es, ep, k _ _ (.inl rfl) e, c⟩
  | dT kvs =>
    obtain ⟨z, y, xs, r, ob, es, ep, e, c⟩ := x
    exact ⟨z, y, xs, Paired.mapP r fun p q z => ⟨z.1, ht _ _ z.2.1, z.2.2⟩, ob, es, ep, k _ _ (.inl rfl) e, c⟩
  | set S n => obtain ⟨ob, es, ep, t, e, c⟩ := x; exact ⟨ob, es, ep, t, k _ _ (.inl rfl) e, c⟩
  | ins C dx fs =>
    obtain ⟨d, z, ne, e, mA, ⟨od, es, ep, e2, c⟩, r⟩ := x
    exact ⟨ho _ d, z, ne, k _ _ (.inl rfl) e, mA, ⟨od, es, ep, k _ _ (.inr d) e2, c⟩, r⟩
  | own y => obtain ⟨ob, e⟩ := x; exact ⟨ob, k _ _ (.inl rfl) e⟩
  | xd fs => obtain ⟨mA, ⟨od, es, ep, e, c⟩, r⟩ := x; exact ⟨mA, ⟨od, es, ep, k _ _ (.inl rfl) e, c⟩, r⟩
  | rng lo hi => obtain ⟨t, u, v, e⟩ := x; exact ⟨t, u, v, k _ _ (.inl rfl) e⟩
  | frz ob u ih => obtain ⟨e, q⟩ := x; exact ⟨k _ _ (.inl rfl) e, ih q⟩
  | tbl ps =>
    have e : h.get? a = some { cls := .none, data := .fields ps } := x
    show h'.get? a = some { cls := .none, data := .fields ps }
    exact k a _ (.inl rfl) e
  | met f y =>
    have e : h.get? a = some (PySem.W.methodObj (.ref f) (.ref y)) := x
    show h'.get? a = some (PySem.W.methodObj (.ref f) (.ref y))
    exact k a _ (.inl rfl) e
  | ext φ => obtain ⟨p, ⟨o, e⟩, st⟩ := x; exact ⟨st _ _ p fun o q => k _ _ (.inl rfl) q, ⟨o, k _ _ (.inl rfl) e⟩, st⟩
theorem HOk.lt (x : HOk P w H h) (e : H a = some o) : a < h.objs.size := (x a o e).lt
theorem HOk.fresh (x : HOk P w H h) (e : h.objs.size ≤ a) : H a = none := by
  cases q : H a with
  | none => rfl
  | some u => exact absurd (Nat.lt_of_lt_of_le (x.lt q) e) (Nat.lt_irrefl _)
/-- every object of the heap is kept -/
theorem HOk.kept (x : HOk P w H h) (k : ∀ b u, h.get? b = some u → h'.get? b = some u) : HOk P w H h' := fun a o e =>
  (x a o e).stay (fun b u _ q => k b u q) (fun _ q => q) fun _ _ q => q
/-- a new object is laid and tracked -/
theorem HOk.laid (x : HOk P w H h) (k : ∀ b u, h.get? b = some u → h'.get? b = some u) (hp : h.objs.size ≤ a) (new : ObjOk P w (upd H a o) h' a o) : HOk P w (upd H a o) h' := fun b u e => by
  have hn := x.fresh hp
  by_cases hb : b = a
  · subst hb; rw [upd_same] at e; cases e; exact new
  · rw [upd_ne hb] at e
    exact (x b u e).stay (fun c v _ q => k c v q) (fun c q => by rw [upd_ne (ne_of_none q hn)]; exact q) fun c xs q => by rw [upd_ne (ne_of_none q hn)]; exact q
end

/-- what may be read as u: it is u, or a known u -/
def Rd (H : Hp) (a : Addr) (u : HO) : Prop := H a = some u ∨ ∃ o, H a = some (.frz o u)
theorem Rd.ok {P : Program} {w : World} {H : Hp} {h : Heap} {a : Addr} {u : HO} (r : Rd H a u) (x : HOk P w H h) : ObjOk P w H h a u := by
  rcases r with r | ⟨o, r⟩
  · exact x a u r
  · obtain ⟨_, q⟩ := x a _ r
    exact q
/-- what may be written -/
def Mut : Option HO → Prop
  | some (.lst _) => True
  | some (.dK _) => True
  | some (.dT _) => True
  | some (.set _ _) => True
  | some (.ins _ _ _) => True
  | some (.ext _) => True
  | _ => False
section
variable {P : Program} {w : World} {H : Hp} {h h' : Heap} {x e : Addr} {o' : HO}
/-- the object at e is changed: x itself, or the dict of the instance x -/
theorem HOk.write (ok : HOk P w H h) (mu : Mut (H x)) (he : e = x ∨ H e = some (.own x)) (k : ∀ b u, b ≠ e → h.get? b = some u → h'.get? b = some u) (heo : ∃ u, h'.get? e = some u)
    (new : ObjOk P w (upd H x o') h' x o') : HOk P w (upd H x o') h' := fun b u q => by
  have nown : ∀ c y, H c = some (.own y) → c ≠ x := fun c y r z => by subst z; rw [r] at mu; exact mu
  have ntup : ∀ c xs, H c = some (.tup xs) → c ≠ x := fun c xs r z => by subst z; rw [r] at mu; exact mu
  by_cases hb : b = x
  · subst hb; rw [upd_same] at q; cases q; exact new
  · rw [upd_ne hb] at q
    by_cases hbe : b = e
    · have q' : H b = some (.own x) := by
        rcases he with z | z
        · exact absurd (hbe.trans z) hb
        · rw [hbe]; exact z
      rw [q] at q'; cases q'
      obtain ⟨v, hv⟩ := heo
      exact ⟨v, by rw [hbe]; exact hv⟩
    · refine (ok b u q).stay (fun c v hc r => k c v ?_ r) (fun c r => by rw [upd_ne (nown c b r)]; exact r) fun c xs r => by rw [upd_ne (ntup c xs r)]; exact r
      rcases hc with rfl | hc
      · exact hbe
      · rintro rfl
        rcases he with z | z
        · exact nown c b hc z
        · rw [hc] at z; cases z; exact hb rfl
end

/-! ### kept unless tracked; of the frames at fs (the callers') the slots may change (an exception that passes writes there); of the records at ex (iterators) nothing is said -/
structure Un (fs ex : List Addr) (H H' : Hp) (h h' : Heap) : Prop where
  keep : ∀ b o, h.get? b = some o → H b = none → b ∉ fs → b ∉ ex → h'.get? b = some o
  slot : ∀ b o, h.get? b = some o → H b = none → b ∈ fs → b ∉ ex → ∃ sl, h'.get? b = some { o with slots := sl }
  free : ∀ b o, h.get? b = some o → H b = none → b ∉ ex → H' b = none
  there : ∀ b o, h.get? b = some o → b ∉ ex → ∃ o', h'.get? b = some o'
  tups : ∀ b xs, H b = some (.tup xs) → H' b = some (.tup xs)
  frzs : ∀ b o u, H b = some (.frz o u) → H' b = some (.frz o u)
  tbls : ∀ b ps, H b = some (.tbl ps) → ∃ more, H' b = some (.tbl (ps ++ more))
section
variable {fs fs' ex ex' : List Addr} {H H1 H2 : Hp} {h h1 h2 h' : Heap} {a x e : Addr} {o : HO}
theorem Un.any (u : Un fs ex H H1 h h1) {b : Addr} {ob : Obj} (q : h.get? b = some ob) (n : H b = none) (hx : b ∉ ex) : ∃ sl, h1.get? b = some { ob with slots := sl } := by
  by_cases hb : b ∈ fs
  · exact u.slot b ob q n hb hx
  · exact ⟨ob.slots, u.keep b ob q n hb hx⟩
theorem Un.kept (k : ∀ b u, h.get? b = some u → h'.get? b = some u) : Un fs ex H H h h' :=
  ⟨fun b ob q _ _ _ => k b ob q, fun b ob q _ _ _ => ⟨ob.slots, k b ob q⟩, fun _ _ _ n _ => n, fun b ob q _ => ⟨ob, k b ob q⟩, fun _ _ q => q, fun _ _ _ q => q, fun _ ps q => ⟨#[], by rw [q]; simp⟩⟩
theorem Un.refl : Un fs ex H H h h := Un.kept fun _ _ q => q
theorem Un.laid (k : ∀ b u, h.get? b = some u → h'.get? b = some u) (hp : h.objs.size ≤ a) (hn : H a = none) : Un fs ex H (upd H a o) h h' where
  keep := fun b u q _ _ _ => k b u q
  slot := fun b u q _ _ _ => ⟨u.slots, k b u q⟩
  free := fun b u q n _ => by rw [upd_ne (Nat.ne_of_lt (Nat.lt_of_lt_of_le (Heap.lt_size q) hp))]; exact n
  there := fun b u q _ => ⟨u, k b u q⟩
  tups := fun b xs q => by rw [upd_ne (ne_of_none q hn)]; exact q
  frzs := fun b u xs q => by rw [upd_ne (ne_of_none q hn)]; exact q
  tbls := fun b ps q => ⟨#[], by rw [upd_ne (ne_of_none q hn), q]; simp⟩
theorem Un.write (mu : Mut (H x)) (he : e = x ∨ H e = some (.own x)) (k : ∀ b u, b ≠ e → h.get? b = some u → h'.get? b = some u) (heo : ∃ u, h'.get? e = some u) : Un fs ex H (upd H x o) h h' := by
  have hx : ∀ b, H b = none → b ≠ x := fun b n z => by subst z; rw [n] at mu; exact mu
  have hb : ∀ b, H b = none → b ≠ e := fun b n z => by
    subst z
    rcases he with r | r
    · exact hx b n r
    · rw [n] at r; cases r
  have hm : ∀ b u, H b = some u → ¬ Mut (some u) → b ≠ x := fun b u q nm z => by subst z; rw [q] at mu; exact nm mu
  refine ⟨fun b u q n _ _ => k b u (hb b n) q, fun b u q n _ _ => ⟨u.slots, k b u (hb b n) q⟩, fun b u q n _ => by rw [upd_ne (hx b n)]; exact n, fun b u q _ => ?_,
    fun b xs q => by rw [upd_ne (hm b _ q fun z => z)]; exact q, fun b u xs q => by rw [upd_ne (hm b _ q fun z => z)]; exact q, fun b ps q => ⟨#[], by rw [upd_ne (hm b _ q fun z => z), q]; simp⟩⟩
  by_cases hbe : b = e
  · subst hbe; exact heo
  · exact ⟨u, k b u hbe q⟩
end

/-! ### the heap without what is tracked -/
def trk (h : Heap) (H : Hp) : List Addr := (List.range h.objs.size).filter fun a => (H a).isSome
def hidT (h : Heap) (H : Hp) : Heap := PySem.W.hideAll h (trk h H)
theorem hidT_size (h : Heap) (H : Hp) : (hidT h H).objs.size = h.objs.size := PySem.W.hideAll_size _ _
theorem hidT_get {h : Heap} {H : Hp} {b : Addr} {o : Obj} (e : h.get? b = some o) (n : H b = none) : (hidT h H).get? b = some o :=
  PySem.W.hideAll_get _ e fun hm => by
    have q : (H b).isSome = true := (List.mem_filter.mp hm).2
    rw [n] at q; simp at q
theorem of_hidT {h : Heap} {H : Hp} {b : Addr} {o : Obj} (e : (hidT h H).get? b = some o) : h.get? b = some o ∧ H b = none := by
  have e' : h.get? b = some o := PySem.W.of_hideAll (trk h H) e
  refine ⟨e', ?_⟩
  cases q : H b with
  | none => rfl
  | some x =>
    have hm : b ∈ trk h H := List.mem_filter.mpr ⟨List.mem_range.mpr (Heap.lt_size e'), by simp [q]⟩
    have z : (hidT h H).get? b = none := PySem.W.hideAll_none (trk h H) hm
    rw [z] at e; cases e

/-! ### OpenK's ledger, filled with every new object but one -/
end L2

namespace L2
open PySem PySem.Spec PyProof.Rows

/-- the module's facts, over the base: the heap at the law's entry without what is tracked there -/
structure Mod (K : PySem.W.Frag) (mg : Str → Option Value) (base : Heap) : Prop where
  kin : K.In base
  glob : base.Ns mainGlobals mg
  blt : ∃ mb, base.Ns builtinsNs mb ∧ ∀ x : Str, x ≠ "__name__" → mb x = bootBuiltins x
  nolimit : base.NoLimit

/-- the context: a def's body (or a comprehension's block) running. base: fixed through the whole law; s₀, H₀: the entry; outer: the frames whose slots others may change (a def's callers); stack: all frames that run;
   ex: iterators that were made ahead of the entry and are walked here (a comprehension's); fn: the names whose cells were made at the entry (a def: all; a comprehension's block: its own); calm: not within an except suite; pn: pins that every state bears; xe: what is wanted of an exception that leaves the code -/
structure Cx where
  prog : Program
  w : World
  K : PySem.W.Frag
  mg : Str → Option Value
  base : Heap
  A : Around
  N : List Str
  s₀ : Shared
  H₀ : Hp
  env : Env
  outer : List Env
  stack : List Env
  ex : List Addr
  fn : Str → Bool
  calm : Bool
  pn : List (Addr × Obj)
  xe : Value → Shared → Prop
/-- the callers' frames -/
def frs (l : List Env) : List Addr := l.filterMap (·.frame)
abbrev Cx.fs (X : Cx) : List Addr := frs X.outer

def Vis (sc : Scope) (x : Str) : Prop := sc.names.lookup x = some .local ∨ sc.names.lookup x = some .cell ∨ sc.names.lookup x = some .free
def Loc (sc : Scope) (x : Str) : Prop := sc.names.lookup x = some .local ∨ sc.names.lookup x = some .cell
def Look (env : Env) (h : Heap) (m : Str → Option Value) (x : Str) (u : Value) : Prop :=
  (env.kindOf x = some .local ∧ m x = some u) ∨ ((env.kindOf x = some .cell ∨ env.kindOf x = some .free) ∧ ∃ c, env.cells.lookup x = some c ∧ h.IsCell c (some u))

structure Cx.Ok (X : Cx) : Prop where
  mod : Mod X.K X.mg X.base
  kind : X.env.scope.kind = .function
  glob : X.env.globals = mainGlobals
  blt : X.env.builtins = builtinsNs
  above : X.s₀.heap.objs.size ≤ X.env.locals
  inj : ∀ x y c, X.env.cells.lookup x = some c → X.env.cells.lookup y = some c → x = y
  has : ∀ x, (X.env.kindOf x = some .cell ∨ X.env.kindOf x = some .free) → ∃ c, X.env.cells.lookup x = some c
  cab : ∀ x c, X.fn x = true → X.env.cells.lookup x = some c → X.s₀.heap.objs.size ≤ c
  hd : X.calm = true → X.A.handled = none
  frames : X.A.frames = some X.stack
  stk : X.stack = X.outer ∨ (X.stack = X.env :: X.outer ∧ X.env.frame = some X.env.locals)
  exf : ∀ b ∈ X.ex, b ≠ X.env.locals ∧ ∀ x c, X.env.cells.lookup x = some c → c ≠ b
  bs : ∀ b o, X.base.get? b = some o → X.s₀.heap.get? b = some o ∧ X.H₀ b = none
  bsz : X.base.objs.size ≤ X.s₀.heap.objs.size
  noex : ∀ b o, X.base.get? b = some o → b ∉ X.ex
  exfs : ∀ b ∈ X.ex, b ∉ X.fs
  funs : X.s₀.heap.FunFrames X.base X.outer
  frf : ∀ b ∈ X.fs, X.H₀ b = none

structure Inv (X : Cx) (pins : List (Addr × Obj)) (σ : List (Option V)) (H : Hp) (s : Shared) : Prop where
  ok : X.Ok
  os : s.os = X.s₀.os
  bare : AllBare s.gens
  base : Un X.fs X.ex X.H₀ H X.s₀.heap s.heap
  loc : ∃ m, s.heap.Ns X.env.locals m ∧ ∀ (i : Nat) (x : Str) (v : V), X.N[i]? = some x → σ[i]? = some (some v) → Vis X.env.scope x → ∃ u, RelV v u ∧ Look X.env s.heap m x u
  cell : ∀ x c, X.env.cells.lookup x = some c → ∃ v, s.heap.IsCell c v
  free : H X.env.locals = none
  freeC : ∀ x c, X.env.cells.lookup x = some c → H c = none
  pin : ∀ p ∈ X.pn ++ pins, s.heap.get? p.1 = some p.2 ∧ H p.1 = none ∧ p.1 ≠ X.env.locals ∧ p.1 ∉ X.fs ∧ ∀ v, p.2.data ≠ .cell v
  hok : HOk X.prog X.w H s.heap
  len : σ.length = X.N.length

section
variable {X : Cx} {pins : List (Addr × Obj)} {σ : List (Option V)} {H H' : Hp} {s : Shared} {h' : Heap}

theorem Cx.Ok.nofr (ok : X.Ok) {b : Addr} {o : Obj} (e : X.base.get? b = some o) : b ∉ X.fs := fun hb => by
  have := (ok.funs.mem hb).1
  rw [e] at this; cases this
theorem Inv.bs (I : Inv X pins σ H s) : ∀ b o, X.base.get? b = some o → s.heap.get? b = some o ∧ H b = none := fun b o e =>
  ⟨I.base.keep b o (I.ok.bs b o e).1 (I.ok.bs b o e).2 (I.ok.nofr e) (I.ok.noex b o e), I.base.free b o (I.ok.bs b o e).1 (I.ok.bs b o e).2 (I.ok.noex b o e)⟩
theorem Inv.bk (I : Inv X pins σ H s) : ∀ b o, X.base.get? b = some o → s.heap.get? b = some o := fun b o e => (I.bs b o e).1
theorem Inv.mod (I : Inv X pins σ H s) : Mod X.K X.mg X.base := I.ok.mod
theorem Inv.kIn (I : Inv X pins σ H s) : X.K.In s.heap := I.ok.mod.kin.keeps I.bk
theorem Inv.lt (I : Inv X pins σ H s) : X.env.locals < s.heap.objs.size := let ⟨_, hn, _⟩ := I.loc; hn.lt
theorem Inv.sz (I : Inv X pins σ H s) : X.s₀.heap.objs.size ≤ s.heap.objs.size := Nat.le_trans I.ok.above (Nat.le_of_lt I.lt)
theorem Inv.nofs (I : Inv X pins σ H s) {a : Addr} (h : s.heap.objs.size ≤ a) : a ∉ X.fs := fun hb => by
  obtain ⟨_, o, ho, _⟩ := I.ok.funs.mem hb
  exact absurd (Nat.lt_of_lt_of_le (Heap.lt_size ho) (Nat.le_trans I.sz h)) (Nat.lt_irrefl _)
theorem Inv.cne (I : Inv X pins σ H s) : ∀ x c, X.env.cells.lookup x = some c → c ≠ X.env.locals := fun x c e z => by
  obtain ⟨v, o, ho, hd⟩ := I.cell x c e
  obtain ⟨m, ⟨o', es, ep, ho', hd', _⟩, _⟩ := I.loc
  rw [z, ho'] at ho; cases ho; rw [hd'] at hd; cases hd
theorem Inv.funs (I : Inv X pins σ H s) : s.heap.FunFrames X.base X.outer := by
  have all : ∀ (l : List Env), (∀ b ∈ frs l, b ∈ X.fs) → X.s₀.heap.FunFrames X.base l → s.heap.FunFrames X.base l := by
    intro l
    induction l with
    | nil => intro _ _; trivial
    | cons env r ih =>
      intro hs hl
      obtain ⟨hk, ⟨L, o, hf, hn, ho, hd⟩, hr⟩ := hl
      have hL : L ∈ X.fs := hs L (by unfold frs; rw [List.filterMap_cons, hf]; exact List.mem_cons_self)
      obtain ⟨sl, e⟩ := I.base.slot L o ho (I.ok.frf L hL) hL fun z => I.ok.exfs L z hL
      exact ⟨hk, ⟨L, _, hf, hn, e, hd⟩, ih (fun b hb => hs b (by unfold frs; rw [List.filterMap_cons, hf]; exact List.mem_cons_of_mem _ hb)) hr⟩
  exact all X.outer (fun _ hb => hb) I.ok.funs

/-- the frames that run, for a call -/
theorem Inv.stack (I : Inv X pins σ H s) : s.heap.FunFrames X.base X.stack := by
  rcases I.ok.stk with e | ⟨e, hf⟩
  · rw [e]; exact I.funs
  · rw [e]
    obtain ⟨m, hn, _⟩ := I.loc
    refine .cons (by rw [I.ok.kind]; decide) hf hn ?_ I.funs
    exact Heap.get?_none_of_le (Nat.le_trans I.ok.bsz I.ok.above)
theorem Inv.stkSub (I : Inv X pins σ H s) : ∀ b ∈ frs X.stack, b ∈ X.env.locals :: X.fs := fun b hb => by
  rcases I.ok.stk with e | ⟨e, hf⟩
  · rw [e] at hb; exact List.mem_cons_of_mem _ hb
  · rw [e] at hb
    unfold frs at hb
    rw [List.filterMap_cons, hf] at hb
    exact hb
theorem Inv.stkFree (I : Inv X pins σ H s) : ∀ b ∈ frs X.stack, H b = none := fun b hb => by
  rcases List.mem_cons.mp (I.stkSub b hb) with e | hb
  · rw [e]; exact I.free
  · obtain ⟨_, o, ho, _⟩ := I.ok.funs.mem hb
    exact I.base.free b o ho (I.ok.frf b hb) fun z => I.ok.exfs b z hb

/-- THE STEP: the untracked objects but the frame and the records at ch are kept (the callers' frames up to slots), the frame's map is kept, the new abstract heap is held -/
theorem Inv.step {g' : Array GenState} {t' : Nat} {d' : Drawn} {ch : List Addr} (I : Inv X pins σ H s)
    (hch : ∀ b ∈ ch, (b ∈ X.ex ∨ X.s₀.heap.objs.size ≤ b) ∧ b ≠ X.env.locals ∧ (∀ x c, X.env.cells.lookup x = some c → c ≠ b) ∧ ∀ p ∈ X.pn ++ pins, p.1 ≠ b)
    (keep : ∀ b o, b ≠ X.env.locals → b ∉ X.fs → b ∉ ch → s.heap.get? b = some o → H b = none → h'.get? b = some o)
    (slot : ∀ b o, b ≠ X.env.locals → b ∈ X.fs → b ∉ ch → s.heap.get? b = some o → H b = none → ∃ sl, h'.get? b = some { o with slots := sl }) (free : ∀ b o, b ∉ ch → s.heap.get? b = some o → H b = none → H' b = none)
    (there : ∀ b o, b ∉ ch → s.heap.get? b = some o → ∃ o', h'.get? b = some o')
    (tups : ∀ b xs, H b = some (.tup xs) → H' b = some (.tup xs)) (frzs : ∀ b o u, H b = some (.frz o u) → H' b = some (.frz o u)) (tbls : ∀ b ps, H b = some (.tbl ps) → ∃ more, H' b = some (.tbl (ps ++ more)))
    (ns : ∀ m, s.heap.Ns X.env.locals m → h'.Ns X.env.locals m) (hok : HOk X.prog X.w H' h') (hg : AllBare g') :
    Inv X pins σ H' { s with heap := h', gens := g', drawn := d', toks := t' } := by
  have neL : ∀ b o, X.s₀.heap.get? b = some o → b ≠ X.env.locals := fun b o e => Nat.ne_of_lt (Nat.lt_of_lt_of_le (Heap.lt_size e) I.ok.above)
  have neC : ∀ b o, X.s₀.heap.get? b = some o → b ∉ X.ex → b ∉ ch := fun b o e hx hb => by
    rcases (hch b hb).1 with z | z
    · exact hx z
    · exact absurd (Nat.lt_of_lt_of_le (Heap.lt_size e) z) (Nat.lt_irrefl _)
  have cellK : ∀ x c, X.env.cells.lookup x = some c → ∀ v, s.heap.IsCell c v → h'.IsCell c v := fun x c e v ⟨o, ho, hd⟩ => by
    have nch : c ∉ ch := fun z => (hch c z).2.2.1 x c e rfl
    by_cases hc : c ∈ X.fs
    · obtain ⟨sl, q⟩ := slot c o (I.cne x c e) hc nch ho (I.freeC x c e)
      exact ⟨_, q, hd⟩
    · exact ⟨o, keep c o (I.cne x c e) hc nch ho (I.freeC x c e), hd⟩
  refine ⟨I.ok, I.os, hg, ⟨fun b o e n hb hx => ?_, fun b o e n hb hx => ?_, fun b o e n hx => ?_, fun b o e hx => ?_, fun b xs e => tups b xs (I.base.tups b xs e), fun b o xs e => frzs b o xs (I.base.frzs b o xs e), fun b ps e => ?_⟩, ?_, fun x c e => ?_, ?_, fun x c e => ?_, fun p hp => ?_, hok, I.len⟩
  · exact keep b o (neL b o e) hb (neC b o e hx) (I.base.keep b o e n hb hx) (I.base.free b o e n hx)
  · obtain ⟨sl, e1⟩ := I.base.slot b o e n hb hx
    obtain ⟨sl', e2⟩ := slot b _ (neL b o e) hb (neC b o e hx) e1 (I.base.free b o e n hx)
    exact ⟨sl', e2⟩
  · obtain ⟨o', e1⟩ := I.base.there b o e hx
    exact free b o' (neC b o e hx) e1 (I.base.free b o e n hx)
  · obtain ⟨o', e1⟩ := I.base.there b o e hx
    exact there b o' (neC b o e hx) e1
  · obtain ⟨m1, e1⟩ := I.base.tbls b ps e
    obtain ⟨m2, e2⟩ := tbls b _ e1
    exact ⟨m1 ++ m2, by rw [e2, Array.append_assoc]⟩
  · obtain ⟨m, hn, hl⟩ := I.loc
    refine ⟨m, ns m hn, fun i x v e1 e2 e3 => ?_⟩
    obtain ⟨u, r, l⟩ := hl i x v e1 e2 e3
    refine ⟨u, r, ?_⟩
    rcases l with l | ⟨k, c, e, z⟩
    · exact .inl l
    · exact .inr ⟨k, c, e, cellK x c e _ z⟩
  · obtain ⟨v, z⟩ := I.cell x c e
    exact ⟨v, cellK x c e v z⟩
  · obtain ⟨m, ⟨o, _, _, ho, _⟩, _⟩ := I.loc
    exact free _ o (fun z => (hch _ z).2.1 rfl) ho I.free
  · obtain ⟨v, o, ho, hd⟩ := I.cell x c e
    exact free c o (fun z => (hch c z).2.2.1 x c e rfl) ho (I.freeC x c e)
  · obtain ⟨e, n, ne, nf, d⟩ := I.pin p hp
    have nch : p.1 ∉ ch := fun z => (hch p.1 z).2.2.2 p hp rfl
    exact ⟨keep p.1 p.2 ne nf nch e n, free p.1 p.2 nch e n, ne, nf, d⟩
/-- .. where the frame's own object is kept too -/
theorem Inv.un {t' : Nat} (I : Inv X pins σ H s) (u : Un X.fs [] H H' s.heap h') (hok : HOk X.prog X.w H' h') : Inv X pins σ H' { s with heap := h', toks := t' } := by
  obtain ⟨m, ⟨o, es, ep, ho, r⟩, _⟩ := id I.loc
  obtain ⟨sl, hL⟩ := u.any ho I.free (by simp)
  exact I.step (g' := s.gens) (d' := s.drawn) (ch := []) (fun _ z => nomatch z) (fun b o _ hb _ e n => u.keep b o e n hb (by simp)) (fun b o _ hb _ e n => u.slot b o e n hb (by simp)) (fun b o _ e n => u.free b o e n (by simp)) (fun b o _ e => u.there b o e (by simp)) u.tups u.frzs u.tbls (fun m' hm => by
    obtain ⟨o', es', ep', ho', r'⟩ := hm
    rw [ho] at ho'; cases ho'
    exact ⟨_, es', ep', hL, r'⟩) hok I.bare
/-- behind a call (or a comprehension's block): the slots of this frame may have changed too, the records at ch may have turned -/
theorem Inv.call {g' : Array GenState} {t' : Nat} {d' : Drawn} {ch : List Addr} (I : Inv X pins σ H s) (u : Un (frs X.stack) ch H H' s.heap h') (hok : HOk X.prog X.w H' h') (hg : AllBare g')
    (hch : ∀ b ∈ ch, (b ∈ X.ex ∨ X.s₀.heap.objs.size ≤ b) ∧ b ≠ X.env.locals ∧ (∀ x c, X.env.cells.lookup x = some c → c ≠ b) ∧ ∀ p ∈ X.pn ++ pins, p.1 ≠ b) :
    Inv X pins σ H' { s with heap := h', gens := g', drawn := d', toks := t' } := by
  obtain ⟨m, ⟨o, es, ep, ho, r⟩, _⟩ := id I.loc
  obtain ⟨sl, hL⟩ := u.any ho I.free fun z => (hch _ z).2.1 rfl
  exact I.step (ch := ch) hch (fun b o hL hb hc e n => u.keep b o e n (fun z => (List.mem_cons.mp (I.stkSub b z)).elim hL hb) hc) (fun b o _ _ hc e n => u.any e n hc) (fun b o hc e n => u.free b o e n hc) (fun b o hc e => u.there b o e hc) u.tups u.frzs u.tbls (fun m' hm => by
    obtain ⟨o', es', ep', ho', r'⟩ := hm
    rw [ho] at ho'; cases ho'
    exact ⟨_, es', ep', hL, r'⟩) hok hg
/-- an untracked record of ours (an iterator) has turned -/
theorem Inv.turned {t' : Nat} {it : Addr} (I : Inv X pins σ H s) (k : ∀ b o, b ≠ it → s.heap.get? b = some o → h'.get? b = some o) (hn : H it = none) (hL : it ≠ X.env.locals)
    (h1 : it ∈ X.ex ∨ X.s₀.heap.objs.size ≤ it) (h2 : ∀ x c, X.env.cells.lookup x = some c → c ≠ it) (h3 : ∀ p ∈ X.pn ++ pins, p.1 ≠ it) : Inv X pins σ H { s with heap := h', toks := t' } := by
  have nit : ∀ b u, H b = some u → b ≠ it := fun b u e z => by rw [z, hn] at e; cases e
  refine I.step (g' := s.gens) (d' := s.drawn) (ch := [it]) (fun b hb => ?_) (fun b o _ _ hc e _ => k b o (fun z => hc (by simp [z])) e) (fun b o _ _ hc e _ => ⟨o.slots, k b o (fun z => hc (by simp [z])) e⟩) (fun _ _ _ _ n => n)
    (fun b o hc e => ⟨o, k b o (fun z => hc (by simp [z])) e⟩) (fun _ _ e => e) (fun _ _ _ e => e) (fun b ps e => ⟨#[], by rw [e]; simp⟩) (fun m hm => ?_) (fun b u e => ?_) I.bare
  · have e : b = it := by simpa using hb
    subst e
    exact ⟨h1, hL, h2, h3⟩
  · obtain ⟨o, es, ep, ho, r⟩ := hm
    exact ⟨o, es, ep, k _ o (Ne.symm hL) ho, r⟩
  · refine (I.hok b u e).stay (fun c v hc q => k c v ?_ q) (fun _ q => q) fun _ _ q => q
    rcases hc with z | z
    · rw [z]; exact nit b u e
    · exact nit c _ z
theorem Inv.tok (I : Inv X pins σ H s) (t : Nat) : Inv X pins σ H { s with toks := t } := I.un (h' := s.heap) (t' := t) Un.refl I.hok
/-- all objects kept -/
theorem Inv.kept {t' : Nat} (I : Inv X pins σ H s) (k : ∀ b u, s.heap.get? b = some u → h'.get? b = some u) : Inv X pins σ H { s with heap := h', toks := t' } := I.un (Un.kept k) (I.hok.kept k)
/-- a new object laid and tracked -/
theorem Inv.laid {a : Addr} {o : HO} {t' : Nat} (I : Inv X pins σ H s) (k : ∀ b u, s.heap.get? b = some u → h'.get? b = some u) (hp : s.heap.objs.size ≤ a) (new : ObjOk X.prog X.w (upd H a o) h' a o) :
    Inv X pins σ (upd H a o) { s with heap := h', toks := t' } := I.un (Un.laid k hp (I.hok.fresh hp)) (I.hok.laid k hp new)
/-- an object written -/
theorem Inv.write {x e : Addr} {o : HO} {t' : Nat} (I : Inv X pins σ H s) (mu : Mut (H x)) (he : e = x ∨ H e = some (.own x)) (k : ∀ b u, b ≠ e → s.heap.get? b = some u → h'.get? b = some u) (heo : ∃ u, h'.get? e = some u)
    (new : ObjOk X.prog X.w (upd H x o) h' x o) : Inv X pins σ (upd H x o) { s with heap := h', toks := t' } := I.un (Un.write mu he k heo) (I.hok.write mu he k heo new)
theorem Inv.pins_of {pins' : List (Addr × Obj)} (I : Inv X pins σ H s) (h : ∀ p ∈ pins', s.heap.get? p.1 = some p.2 ∧ H p.1 = none ∧ p.1 ≠ X.env.locals ∧ p.1 ∉ X.fs ∧ ∀ v, p.2.data ≠ .cell v) : Inv X pins' σ H s :=
  ⟨I.ok, I.os, I.bare, I.base, I.loc, I.cell, I.free, I.freeC, fun p hp => (List.mem_append.mp hp).elim (fun z => I.pin p (List.mem_append_left _ z)) (h p), I.hok, I.len⟩

theorem nodup_ix {N : List Str} (hN : N.Nodup) {i j : Nat} {x : Str} (a : N[i]? = some x) (b : N[j]? = some x) : i = j := by
  obtain ⟨h1, e1⟩ := List.getElem?_eq_some_iff.mp a
  obtain ⟨h2, e2⟩ := List.getElem?_eq_some_iff.mp b
  exact (List.getElem_inj hN).mp (e1.trans e2.symm)

/-- a name is stored; what changed -/
theorem store_ok2 {M : Model} {A : Around} {E : Value → Shared → Prop} {i : Nat} {x : Str} {v : V} {u : Value} {Q : Unit → Shared → Prop} (I : Inv X pins σ H s) (hN : X.N.Nodup) (hi : X.N[i]? = some x) (hx : Loc X.env.scope x) (r : RelV v u)
    (h : ∀ s', Inv X pins (σ.set i (some v)) H s' → (∃ a, Heap.SameBut a s.heap s'.heap ∧ (a = X.env.locals ∨ X.env.cells.lookup x = some a)) → Q () s') (hf : X.fn x = true ∨ X.env.scope.names.lookup x = some .local := by first | exact .inl rfl | exact .inr rfl | assumption) : wpAny M A (storeName X.env x u) Q E s := by
  obtain ⟨m, hn, hl⟩ := id I.loc
  have hcls : (X.env.scope.kind == .class || (X.env.scope.kind == .module && X.env.locals != X.env.globals)) = false := by rw [I.ok.kind]; rfl
  have hiσ : i < σ.length := by rw [I.len]; exact (List.getElem?_eq_some_iff.mp hi).1
  have cne := I.cne
  have tracked : ∀ {a : Addr} {h' : Heap}, (∃ o, s.heap.get? a = some o ∧ H a = none) → Heap.SameBut a s.heap h' → HOk X.prog X.w H h' := fun {a h'} ha hs b ob e => by
    obtain ⟨_, _, hfree⟩ := ha
    refine (I.hok b ob e).stay (fun c w' hc q => (hs.2 c ?_).trans q) (fun _ q => q) fun _ _ q => q
    rintro rfl
    rcases hc with rfl | hc
    · rw [hfree] at e; cases e
    · rw [hfree] at hc; cases hc
  rcases hx with hk | hk
  · refine wpAny_storeName_local hk hn (fun h' hn' hs => ?_) hcls
    obtain ⟨oL, _, _, hoL, _⟩ := id hn
    refine h _ ⟨I.ok, I.os, I.bare, ⟨fun b o e n hb hx => ?_, fun b o e n hb hx => ?_, I.base.free, fun b o e hx => ?_, I.base.tups, I.base.frzs, I.base.tbls⟩, ⟨_, hn', fun j y v' e1 e2 e3 => ?_⟩, fun y c e => ?_, I.free, I.freeC, fun p hp => ?_, tracked ⟨oL, hoL, I.free⟩ hs, by simpa using I.len⟩ ⟨_, hs, .inl rfl⟩
    · exact (hs.2 b (Nat.ne_of_lt (Nat.lt_of_lt_of_le (Heap.lt_size e) I.ok.above))).trans (I.base.keep b o e n hb hx)
    · obtain ⟨sl, e1⟩ := I.base.slot b o e n hb hx
      exact ⟨sl, (hs.2 b (Nat.ne_of_lt (Nat.lt_of_lt_of_le (Heap.lt_size e) I.ok.above))).trans e1⟩
    · obtain ⟨o', e1⟩ := I.base.there b o e hx
      exact ⟨o', (hs.2 b (Nat.ne_of_lt (Nat.lt_of_lt_of_le (Heap.lt_size e) I.ok.above))).trans e1⟩
    · by_cases hj : j = i
      · subst hj
        rw [hi] at e1; cases e1
        rw [List.getElem?_set_self hiσ] at e2
        cases e2
        exact ⟨u, r, .inl ⟨hk, by simp⟩⟩
      · rw [List.getElem?_set_ne (Ne.symm hj)] at e2
        obtain ⟨u', r', q⟩ := hl j y v' e1 e2 e3
        refine ⟨u', r', ?_⟩
        rcases q with ⟨k, e⟩ | ⟨k, c, e, z⟩
        · refine .inl ⟨k, ?_⟩
          have : y ≠ x := fun e => hj (nodup_ix hN e1 (e ▸ hi))
          simp [this, e]
        · exact .inr ⟨k, c, e, z.sameBut hs (cne y c e)⟩
    · obtain ⟨w', z⟩ := I.cell y c e
      exact ⟨w', z.sameBut hs (cne y c e)⟩
    · obtain ⟨e, n, ne, nf, d⟩ := I.pin p hp
      exact ⟨(hs.2 p.1 ne).trans e, n, ne, nf, d⟩
  · have hfn : X.fn x = true := by
      rcases hf with z | z
      · exact z
      · rw [z] at hk; cases hk
    obtain ⟨c, hc⟩ := I.ok.has x (.inl hk)
    obtain ⟨w', z⟩ := I.cell x c hc
    refine wpAny_storeName_cell I.ok.kind hk hc z (fun h' hc' hs => ?_)
    obtain ⟨oc, hoc, hocd⟩ := id z
    refine h { s with heap := h' } ⟨I.ok, I.os, I.bare, ⟨fun b o e n hb hx => ?_, fun b o e n hb hx => ?_, I.base.free, fun b o e hx => ?_, I.base.tups, I.base.frzs, I.base.tbls⟩, ⟨m, hn.sameBut hs (Ne.symm (cne x c hc)), fun j y v' e1 e2 e3 => ?_⟩, fun y c' e => ?_, I.free, I.freeC, fun p hp => ?_, tracked ⟨oc, hoc, I.freeC x c hc⟩ hs, by simpa using I.len⟩ ⟨c, hs, .inr hc⟩
    · exact (hs.2 b (Nat.ne_of_lt (Nat.lt_of_lt_of_le (Heap.lt_size e) (I.ok.cab x c hfn hc)))).trans (I.base.keep b o e n hb hx)
    · obtain ⟨sl, e1⟩ := I.base.slot b o e n hb hx
      exact ⟨sl, (hs.2 b (Nat.ne_of_lt (Nat.lt_of_lt_of_le (Heap.lt_size e) (I.ok.cab x c hfn hc)))).trans e1⟩
    · obtain ⟨o', e1⟩ := I.base.there b o e hx
      exact ⟨o', (hs.2 b (Nat.ne_of_lt (Nat.lt_of_lt_of_le (Heap.lt_size e) (I.ok.cab x c hfn hc)))).trans e1⟩
    · by_cases hj : j = i
      · subst hj
        rw [hi] at e1; cases e1
        rw [List.getElem?_set_self hiσ] at e2
        cases e2
        exact ⟨u, r, .inr ⟨.inl hk, c, hc, hc'⟩⟩
      · rw [List.getElem?_set_ne (Ne.symm hj)] at e2
        obtain ⟨u', r', q⟩ := hl j y v' e1 e2 e3
        refine ⟨u', r', ?_⟩
        rcases q with q | ⟨k, c', e, z'⟩
        · exact .inl q
        · refine .inr ⟨k, c', e, z'.sameBut hs ?_⟩
          rintro rfl
          exact hj (nodup_ix hN e1 (I.ok.inj _ _ _ e hc ▸ hi))
    · by_cases hcc : c' = c
      · subst hcc; exact ⟨_, hc'⟩
      · obtain ⟨w2, z2⟩ := I.cell y c' e
        exact ⟨w2, z2.sameBut hs hcc⟩
    · obtain ⟨e, n, ne, nf, d⟩ := I.pin p hp
      refine ⟨(hs.2 p.1 ?_).trans e, n, ne, nf, d⟩
      intro q
      rw [q, hoc] at e
      have q' : oc = p.2 := Option.some.inj e
      exact d w' (by rw [← q']; exact hocd)
theorem store_ok {M : Model} {A : Around} {E : Value → Shared → Prop} {i : Nat} {x : Str} {v : V} {u : Value} {Q : Unit → Shared → Prop} (I : Inv X pins σ H s) (hN : X.N.Nodup) (hi : X.N[i]? = some x) (hx : Loc X.env.scope x) (r : RelV v u)
    (h : ∀ s', Inv X pins (σ.set i (some v)) H s' → Q () s') (hf : X.fn x = true ∨ X.env.scope.names.lookup x = some .local := by first | exact .inl rfl | exact .inr rfl | assumption) : wpAny M A (storeName X.env x u) Q E s :=
  store_ok2 I hN hi hx r (fun s' I' _ => h s' I') hf
/-- behind a call or a block, the state as it is -/
theorem Inv.call' {s' : Shared} {ch : List Addr} (I : Inv X pins σ H s) (ho : s'.os = s.os) (u : Un (frs X.stack) ch H H' s.heap s'.heap) (hok : HOk X.prog X.w H' s'.heap) (hg : AllBare s'.gens)
    (hch : ∀ b ∈ ch, (b ∈ X.ex ∨ X.s₀.heap.objs.size ≤ b) ∧ b ≠ X.env.locals ∧ (∀ x c, X.env.cells.lookup x = some c → c ≠ b) ∧ ∀ p ∈ X.pn ++ pins, p.1 ≠ b) : Inv X pins σ H' s' := by
  obtain ⟨h', g', d', t', o'⟩ := s'
  have e : o' = s.os := ho
  subst e
  exact I.call (g' := g') (t' := t') (d' := d') u hok hg hch
end

/-! ### the judgements -/
/-- an exception: its class, its own dict's address (where it has one), the abstract heap behind it -/
abbrev XK := Value → Option Addr → Hp → Prop
abbrev St := List (Option V)
abbrev VK := V → Hp → Prop
/-- an expression's reading; a test's; an argument list's -/
abbrev TE := St → Hp → VK → Prop
abbrev TT := St → Hp → (Bool → Hp → Prop) → Prop
abbrev TA := St → Hp → (List V → Hp → Prop) → Prop
/-- what is wanted behind a statement -/
structure Ends where
  nx : St → Hp → Prop
  rt : VK
  bk : St → Hp → Prop := fun _ _ => False
  ct : St → Hp → Prop := fun _ _ => False
abbrev TS := Ends → St → Hp → Prop

def EP (X : Cx) (pins : List (Addr × Obj)) (σ : St) (Q : VK) (u : Value) (s' : Shared) : Prop := ∃ v H', Inv X pins σ H' s' ∧ RelV v u ∧ Q v H'
def TP (X : Cx) (pins : List (Addr × Obj)) (σ : St) (Q : Bool → Hp → Prop) (b : Bool) (s' : Shared) : Prop := ∃ H', Inv X pins σ H' s' ∧ Q b H'
def AP (X : Cx) (pins : List (Addr × Obj)) (σ : St) (Q : List V → Hp → Prop) (us : List Value) (s' : Shared) : Prop := ∃ vs H', Inv X pins σ H' s' ∧ Vals vs us ∧ Q vs H'
def SP (X : Cx) (pins : List (Addr × Obj)) (D : Ends) (f : Flow) (s' : Shared) : Prop :=
  match f with
  | .next => ∃ σ' H', Inv X pins σ' H' s' ∧ D.nx σ' H'
  | .brk => ∃ σ' H', Inv X pins σ' H' s' ∧ D.bk σ' H'
  | .cont => ∃ σ' H', Inv X pins σ' H' s' ∧ D.ct σ' H'
  | .ret u => ∃ v σ' H', Inv X pins σ' H' s' ∧ RelV v u ∧ D.rt v H'

def PE (X : Cx) (e : Expr) (t : TE) : Prop :=
  ∀ (pins : List (Addr × Obj)) (s : Shared) (σ : St) (H : Hp) (Q : VK), Inv X pins σ H s → t σ H Q → wpAny (model X.prog X.w) X.A (eval e X.env) (EP X pins σ Q) X.xe s
def PT (X : Cx) (e : Expr) (t : TT) : Prop :=
  ∀ (pins : List (Addr × Obj)) (s : Shared) (σ : St) (H : Hp) (Q : Bool → Hp → Prop), Inv X pins σ H s → t σ H Q → wpAny (model X.prog X.w) X.A (isTrue e X.env (eval e X.env)) (TP X pins σ Q) X.xe s
/-- a test whatever its 'whole' is (and, or) -/
def PW (X : Cx) (e : Expr) (t : TT) : Prop :=
  ∀ (whole : Sem Value) (pins : List (Addr × Obj)) (s : Shared) (σ : St) (H : Hp) (Q : Bool → Hp → Prop), Inv X pins σ H s → t σ H Q → wpAny (model X.prog X.w) X.A (isTrue e X.env whole) (TP X pins σ Q) X.xe s
theorem PW.pt {X : Cx} {e : Expr} {t : TT} (h : PW X e t) : PT X e t := h _
/-- an argument list (no star), from the left -/
def PA (X : Cx) (es : List Expr) (t : TA) : Prop :=
  ∀ (pos : Pos) (pins : List (Addr × Obj)) (s : Shared) (σ : St) (H : Hp) (Q : List V → Hp → Prop), Inv X pins σ H s → t σ H Q → wpAny (model X.prog X.w) X.A (spliced (backTo pos (starEach es X.env))) (AP X pins σ Q) X.xe s
def PS (X : Cx) (st : Stmt) (t : TS) : Prop :=
  ∀ (pins : List (Addr × Obj)) (s : Shared) (σ : St) (H : Hp) (D : Ends), Inv X pins σ H s → t D σ H → wpAny (model X.prog X.w) X.A (exec st X.env) (SP X pins D) X.xe s
def PSs (X : Cx) (st : List Stmt) (t : TS) : Prop :=
  ∀ (pins : List (Addr × Obj)) (s : Shared) (σ : St) (H : Hp) (D : Ends), Inv X pins σ H s → t D σ H → wpAny (model X.prog X.w) X.A (execs st X.env) (SP X pins D) X.xe s
/-- weaken the end -/
theorem thn {α : Type} {t : Sem α} {Q Q' : α → Shared → Prop} {M : Model} {A : Around} {E : Value → Shared → Prop} {s : Shared} (h : wpAny M A t Q E s) (hQ : ∀ a s, Q a s → Q' a s) : wpAny M A t Q' E s := wpAny_mono h hQ fun _ _ x => x
end L2

namespace L2
open PySem PySem.Spec PyProof.Rows
section
variable {X : Cx}

/-! ### names and constants -/
def tVar (i : Nat) : TE := fun σ H Q => ∃ v, σ[i]? = some (some v) ∧ Q v H
def tC (v : V) : TE := fun _ H Q => Q v H
theorem pe_var {i : Nat} {x : Str} {pos : Pos} (hN : X.N[i]? = some x) (hv : Vis X.env.scope x) (hd : (x == ("__debug__" : Str)) = false := by decide) (hcd : (x == ("__classdict__" : Str)) = false := by decide) : PE X (.Name x pos) (tVar i) := by
  intro pins s σ H Q I h
  obtain ⟨v, e, h⟩ := h
  obtain ⟨m, hn, hl⟩ := I.loc
  obtain ⟨u, r, l⟩ := hl i x v hN e hv
  have fin : EP X pins σ Q u s := ⟨v, H, I, r, h⟩
  rcases l with ⟨hk, hm⟩ | ⟨hk, c, hc, hcell⟩
  · exact wpAny_Name (wpAny_loadName_local I.ok.kind hk hn hm fin) hd
  · rcases hk with hk | hk
    · exact wpAny_Name (wpAny_loadName_cell I.ok.kind hk hc hcell fin) hd
    · exact wpAny_Name (wpAny_loadName_free I.ok.kind hk hc hcell fin hcd) hd
theorem pe_int {i j pos} : PE X (.Constant (.int i) j pos) (tC (.int i)) := fun _ _ _ H _ I h => wpAny_Constant_int ⟨.int i, H, I.tok _, ⟨_, rfl⟩, h⟩
theorem pe_bl {b j pos} : PE X (.Constant (.bool b) j pos) (tC (.bl b)) := fun _ _ _ H _ I h => Constant_bool ⟨.bl b, H, I, rfl, h⟩
theorem pe_non {j pos} : PE X (.Constant .none j pos) (tC .non) := fun _ _ _ H _ I h => Constant_none ⟨.non, H, I, rfl, h⟩
theorem pe_str {x j pos} : PE X (.Constant (.str x) j pos) (tC (.str x)) := fun _ _ _ H _ I h => Calls.Constant_str ⟨.str x, H, I.tok _, ⟨_, rfl⟩, h⟩

/-- a global name of the def -/
def Gl (X : Cx) (x : Str) : Prop := X.env.kindOf x = some .globalImplicit
theorem ld_glob {E : Value → Shared → Prop} {pins : List (Addr × Obj)} {s : Shared} {σ : St} {H : Hp} {x : Str} {u : Value} {pos : Pos} {Q : Value → Shared → Prop} (I : Inv X pins σ H s) (hg : Gl X x) (hm : X.mg x = some u) (h : Q u s)
    (hd : (x == ("__debug__" : Str)) = false := by decide) : wpAny (model X.prog X.w) X.A (eval (.Name x pos) X.env) Q E s :=
  Calls.Name_function_global I.ok.kind hg (Calls.loadGlobal_global (by rw [I.ok.glob]; exact I.mod.glob.keeps I.bk) hm h) hd
theorem ld_blt {E : Value → Shared → Prop} {pins : List (Addr × Obj)} {s : Shared} {σ : St} {H : Hp} {x : Str} {u : Value} {pos : Pos} {Q : Value → Shared → Prop} (I : Inv X pins σ H s) (hg : Gl X x) (hm : X.mg x = none) (hv : bootBuiltins x = some u) (h : Q u s)
    (hn : x ≠ "__name__" := by decide) (hd : (x == ("__debug__" : Str)) = false := by decide) : wpAny (model X.prog X.w) X.A (eval (.Name x pos) X.env) Q E s := by
  obtain ⟨mb, h1, h2⟩ := I.mod.blt
  exact Calls.Name_function_global I.ok.kind hg (Calls.loadGlobal_builtin (by rw [I.ok.glob]; exact I.mod.glob.keeps I.bk) hm (by rw [I.ok.blt]; exact h1.keeps I.bk) ((h2 x hn).trans hv) h) hd
/-- a module's constant, a class, a function, as a value -/
theorem pe_glob {x : Str} {v : V} {u : Value} {pos : Pos} (hg : Gl X x) (hm : X.mg x = some u) (r : RelV v u) (hd : (x == ("__debug__" : Str)) = false := by decide) : PE X (.Name x pos) (tC v) :=
  fun _ _ _ H _ I h => ld_glob I hg hm ⟨v, H, I, r, h⟩ hd
theorem pe_bltn {x : Str} {v : V} {u : Value} {pos : Pos} (hg : Gl X x) (hm : X.mg x = none) (hv : bootBuiltins x = some u) (r : RelV v u) (hn : x ≠ "__name__" := by decide) (hd : (x == ("__debug__" : Str)) = false := by decide) : PE X (.Name x pos) (tC v) :=
  fun _ _ _ H _ I h => ld_blt I hg hm hv ⟨v, H, I, r, h⟩ hn hd

/-! ### arithmetic -/
variable {a b : Expr} {ta tb : TE} {pos : Pos}
/-! ### comparisons -/
/-- a comparison as a value, as a test -/
def tB (t : TE) : TT := fun σ H Q => t σ H fun x H1 => ∃ c, x = .bl c ∧ Q c H1
/-- an expression whose value is a bool, as a test -/
theorem pt_val {e : Expr} {t : TE} (h : PE X e t) (he : ∀ whole, isTrue e X.env whole = (do let v ← whole; standAt e.pos; holding [v] (truthy v)) := by intro _; rfl) : PT X e (tB t) := by
  intro pins s σ H Q I hw
  refine isTrue_plain (thn (h pins s σ H _ I hw) fun v s1 ⟨x, H1, I1, r1, q1⟩ => ?_) (he _)
  obtain ⟨d, rfl, q⟩ := q1
  cases r1
  exact wpAny_truthy_bool ⟨H1, I1, q⟩

/-! ### and, or, not -/
variable {tA tB' : TT} {rest : List Expr}
def tAnd (t u : TT) : TT := fun σ H Q => t σ H fun c H1 => if c = true then u σ H1 Q else Q false H1
def tOr (t u : TT) : TT := fun σ H Q => t σ H fun c H1 => if c = true then Q true H1 else u σ H1 Q
def tNot (t : TT) : TT := fun σ H Q => t σ H fun c H1 => Q (!c) H1
theorem pw_and1 (ha : PT X a tA) : PW X (.BoolOp .And [a] pos) tA := by
  intro wh pins s σ H Q I h
  refine isTrue_and (thn (ha pins s σ H Q I h) fun c s1 e => ?_)
  cases c with
  | true => exact isTrue_and_nil e
  | false => exact e
theorem pw_or1 (ha : PT X a tA) : PW X (.BoolOp .Or [a] pos) tA := by
  intro wh pins s σ H Q I h
  refine isTrue_or (thn (ha pins s σ H Q I h) fun c s1 e => ?_)
  cases c with
  | false => exact isTrue_or_nil e
  | true => exact e
theorem pw_and (ha : PT X a tA) (hb : PW X (.BoolOp .And (b :: rest) pos) tB') : PW X (.BoolOp .And (a :: b :: rest) pos) (tAnd tA tB') := by
  intro wh pins s σ H Q I h
  refine isTrue_and (thn (ha pins s σ H _ I h) fun c s1 ⟨H1, I1, q1⟩ => ?_)
  cases c with
  | true => exact hb wh pins s1 σ H1 Q I1 q1
  | false => exact ⟨H1, I1, q1⟩
theorem pw_or (ha : PT X a tA) (hb : PW X (.BoolOp .Or (b :: rest) pos) tB') : PW X (.BoolOp .Or (a :: b :: rest) pos) (tOr tA tB') := by
  intro wh pins s σ H Q I h
  refine isTrue_or (thn (ha pins s σ H _ I h) fun c s1 ⟨H1, I1, q1⟩ => ?_)
  cases c with
  | true => exact ⟨H1, I1, q1⟩
  | false => exact hb wh pins s1 σ H1 Q I1 q1
theorem pt_not (ha : PT X a tA) : PT X (.UnaryOp .Not a pos) (tNot tA) := by
  intro pins s σ H Q I h
  exact isTrue_not (ha pins s σ H (fun c H1 => Q (!c) H1) I h)
/-- a if t else b -/
def tIf (t : TT) (ta tb : TE) : TE := fun σ H Q => t σ H fun c H1 => if c = true then ta σ H1 Q else tb σ H1 Q
theorem pe_ifExp {c : Expr} (hc : PT X c tA) (ha : PE X a ta) (hb : PE X b tb) : PE X (.IfExp c a b pos) (tIf tA ta tb) := by
  intro pins s σ H Q I h
  refine wpAny_IfExp (thn (hc pins s σ H _ I h) fun d s1 ⟨H1, I1, q1⟩ => ?_)
  cases d with
  | true => exact ha pins s1 σ H1 Q I1 q1
  | false => exact hb pins s1 σ H1 Q I1 q1
end
end L2

namespace L2
open PySem PySem.Spec PyProof.Rows

/-! ### a list, a tuple that is read: tracked, frozen, or an object of the module -/
def SqL (K : PySem.W.Frag) (H : Hp) (a : Addr) (xs : List V) : Prop :=
  Rd H a (.lst xs) ∨
    ∃ (o : Obj) (its : Array Value) (n : Nat), K.lookup a = some o ∧ o.cls = .type "list" ∧ o.dict = none ∧ o.data = .seq its n ∧ its.size ≤ sizeLine ∧ Vals xs its.toList
def SqT (K : PySem.W.Frag) (H : Hp) (a : Addr) (xs : List V) : Prop :=
  Rd H a (.tup xs) ∨
    ∃ (o : Obj) (its : Array Value) (n : Nat), K.lookup a = some o ∧ o.cls = .type "tuple" ∧ o.data = .seq its n ∧ its.size ≤ sizeLine ∧ Vals xs its.toList
def absV : Value → Option V
  | .none => some .non
  | .bool b => some (.bl b)
  | .int i _ => some (.int i)
  | .str x _ => some (.str x)
  | .bytes b _ => some (.byt b)
  | .float b _ => some (.flt b)
  | .ref a => some (.ref a)
  | .type n => some (.ty n)
  | _ => none
theorem RelV.abs {x : V} {u : Value} (r : RelV x u) : absV u = some x := by
  cases x with
  | non => cases r; rfl
  | bl _ => cases r; rfl
  | int _ => obtain ⟨t, rfl⟩ := r; rfl
  | str _ => obtain ⟨t, rfl⟩ := r; rfl
  | byt _ => obtain ⟨t, rfl⟩ := r; rfl
  | flt _ => obtain ⟨t, rfl⟩ := r; rfl
  | ref _ => cases r; rfl
  | ty _ => cases r; rfl
theorem RelV.inj {x y : V} {u : Value} (r : RelV x u) (q : RelV y u) : x = y := Option.some.inj (r.abs.symm.trans q.abs)
theorem Vals.inj : ∀ {xs ys : List V} {us : List Value}, Vals xs us → Vals ys us → xs = ys
  | _, _, _, .nil, .nil => rfl
  | _, _, _, .cons r t, .cons r' t' => by rw [r.inj r', Vals.inj t t']
section
variable {X : Cx} {pins : List (Addr × Obj)} {σ : St} {H : Hp} {s : Shared} {a : Addr} {xs ys : List V}
theorem SqL.of {K : PySem.W.Frag} (h : H a = some (.lst xs)) : SqL K H a xs := .inl (.inl h)
theorem SqT.of {K : PySem.W.Frag} (h : H a = some (.tup xs)) : SqT K H a xs := .inl (.inl h)
theorem Inv.list (I : Inv X pins σ H s) (h : SqL X.K H a xs) : ∃ its : List Value, Vals xs its ∧ PlainL s.heap a its.toArray ∧ xs.length ≤ sizeLine := by
  rcases h with h | ⟨o, its, n, hk, hc, hd, hs, hz, r⟩
  · obtain ⟨z, its, n, r, e⟩ := h.ok I.hok
    exact ⟨its, r, ⟨_, n, e, rfl, rfl, rfl⟩, z⟩
  · refine ⟨its.toList, r, ⟨o, n, I.kIn a o hk, hc, hd, by simpa using hs⟩, ?_⟩
    have e := r.length
    simp only [Array.length_toList] at e
    omega
theorem Inv.tuple (I : Inv X pins σ H s) (h : SqT X.K H a xs) : ∃ its : List Value, Vals xs its ∧ IsTup s.heap a its.toArray ∧ xs.length ≤ sizeLine := by
  rcases h with h | ⟨o, its, n, hk, hc, hs, hz, r⟩
  · obtain ⟨z, its, r, p⟩ := h.ok I.hok
    exact ⟨its, r, p, z⟩
  · refine ⟨its.toList, r, ⟨o, I.kIn a o hk, hc, n, by simpa using hs⟩, ?_⟩
    have e := r.length
    simp only [Array.length_toList] at e
    omega
theorem Inv.list_inj (I : Inv X pins σ H s) (h : SqL X.K H a xs) (h' : SqL X.K H a ys) : xs = ys := by
  obtain ⟨its, r, ⟨o, n, e, _, _, d⟩, _⟩ := I.list h
  obtain ⟨its', r', ⟨o', n', e', _, _, d'⟩, _⟩ := I.list h'
  rw [e] at e'; cases e'
  rw [d] at d'
  injection d' with d1 _
  have : its = its' := by simpa using congrArg Array.toList d1
  subst this
  exact r.inj r'
theorem Inv.tuple_inj (I : Inv X pins σ H s) (h : SqT X.K H a xs) (h' : SqT X.K H a ys) : xs = ys := by
  obtain ⟨its, r, ⟨o, e, _, n, d⟩, _⟩ := I.tuple h
  obtain ⟨its', r', ⟨o', e', _, n', d'⟩, _⟩ := I.tuple h'
  rw [e] at e'; cases e'
  rw [d] at d'
  injection d' with d1 _
  have : its = its' := by simpa using congrArg Array.toList d1
  subst this
  exact r.inj r'
end

/-! ### another wish about exceptions -/
abbrev Cx.wish (X : Cx) (E : Value → Shared → Prop) : Cx := { X with xe := E }
/-- no exception leaves -/
abbrev Cx.nox (X : Cx) : Cx := X.wish fun _ _ => False
theorem Cx.Ok.wish {X : Cx} (ok : X.Ok) (E : Value → Shared → Prop) : (X.wish E).Ok :=
  ⟨ok.mod, ok.kind, ok.glob, ok.blt, ok.above, ok.inj, ok.has, ok.cab, ok.hd, ok.frames, ok.stk, ok.exf, ok.bs, ok.bsz, ok.noex, ok.exfs, ok.funs, ok.frf⟩
theorem Cx.Ok.unwish {X : Cx} {E : Value → Shared → Prop} (ok : (X.wish E).Ok) : X.Ok :=
  ⟨ok.mod, ok.kind, ok.glob, ok.blt, ok.above, ok.inj, ok.has, ok.cab, ok.hd, ok.frames, ok.stk, ok.exf, ok.bs, ok.bsz, ok.noex, ok.exfs, ok.funs, ok.frf⟩
section
variable {X : Cx} {pins : List (Addr × Obj)} {σ : St} {H : Hp} {s : Shared} {E : Value → Shared → Prop}
theorem Inv.wish (I : Inv X pins σ H s) (E : Value → Shared → Prop) : Inv (X.wish E) pins σ H s := ⟨I.ok.wish E, I.os, I.bare, I.base, I.loc, I.cell, I.free, I.freeC, I.pin, I.hok, I.len⟩
theorem Inv.unwish (I : Inv (X.wish E) pins σ H s) : Inv X pins σ H s := ⟨I.ok.unwish, I.os, I.bare, I.base, I.loc, I.cell, I.free, I.freeC, I.pin, I.hok, I.len⟩
theorem SP.unwish {D : Ends} {f : Flow} {s' : Shared} (h : SP (X.wish E) pins D f s') : SP X pins D f s' := by
  cases f with
  | next => obtain ⟨σ', H', I, q⟩ := h; exact ⟨σ', H', I.unwish, q⟩
  | brk => obtain ⟨σ', H', I, q⟩ := h; exact ⟨σ', H', I.unwish, q⟩
  | cont => obtain ⟨σ', H', I, q⟩ := h; exact ⟨σ', H', I.unwish, q⟩
  | ret u => obtain ⟨v, σ', H', I, r, q⟩ := h; exact ⟨v, σ', H', I.unwish, r, q⟩
theorem PSs.nox {st : List Stmt} {t : TS} (h : PSs X.nox st t) : PSs X st t := fun pins s σ H D I hw =>
  wpAny_mono (h pins s σ H D (I.wish _) hw) (fun _ _ q => q.unwish) fun _ _ z => False.elim z
end

/-! ### blocks and small statements -/
section
variable {X : Cx} {st : Stmt} {rest : List Stmt} {t u : TS} {e : Expr} {te : TE} {pos : Pos}
def tNext : TS := fun D σ H => D.nx σ H
def tSeq (t u : TS) : TS := fun D σ H => t { D with nx := u D } σ H
theorem pss_nil : PSs X [] tNext := fun _ _ σ H _ I h => wpAny_execs_nil ⟨σ, H, I, h⟩
theorem pss_cons (h1 : PS X st t) (h2 : PSs X rest u) : PSs X (st :: rest) (tSeq t u) := by
  intro pins s σ H D I h
  refine wpAny_execs_cons (thn (h1 pins s σ H { D with nx := u D } I h) fun f s1 q => ?_)
  cases f with
  | next =>
    obtain ⟨σ', H', I', q⟩ := q
    exact h2 pins s1 σ' H' D I' q
  | ret v => exact q
  | brk => exact q
  | cont => exact q
theorem pss_one (h1 : PS X st t) : PSs X [st] t := by
  intro pins s σ H D I h
  refine wpAny_execs_cons (thn (h1 pins s σ H D I h) fun f s1 q => ?_)
  cases f with
  | next => exact wpAny_execs_nil q
  | ret v => exact q
  | brk => exact q
  | cont => exact q
/-- in a def's body nothing is shown -/
theorem Inv.quiet {pins : List (Addr × Obj)} {σ : St} {H : Hp} {s : Shared} (I : Inv X pins σ H s) : interactive X.env = false := by simp [interactive, I.ok.kind]
/-- an expression whose value is dropped -/
def tDrop (te : TE) : TS := fun D σ H => te σ H fun _ H1 => D.nx σ H1
theorem ps_expr (he : PE X e te) (hs : swapsWith e none pos.line X.env = pure false := by rfl) : PS X (.Expr e pos) (tDrop te) := by
  intro pins s σ H D I h
  exact wpAny_Expr_any (thn (he pins s σ H _ I h) fun v s1 ⟨x, H1, I1, r1, q1⟩ => ⟨σ, H1, I1, q1⟩) I.quiet hs
def tRet (te : TE) : TS := fun D σ H => te σ H D.rt
theorem ps_ret (he : PE X e te) : PS X (.Return (some e) pos) (tRet te) := by
  intro pins s σ H D I h
  exact wpAny_Return_some (thn (he pins s σ H _ I h) fun v s1 ⟨x, H1, I1, r1, q1⟩ => ⟨x, σ, H1, I1, r1, q1⟩)
def tIfS (c : TT) (t u : TS) : TS := fun D σ H => c σ H fun b H1 => if b = true then t D σ H1 else u D σ H1
theorem ps_if {c : Expr} {a b : List Stmt} {tc : TT} (hc : PT X c tc) (ha : PSs X a t) (hb : PSs X b u) : PS X (.If c a b pos) (tIfS tc t u) := by
  intro pins s σ H D I h
  refine wpAny_If (thn (hc pins s σ H _ I h) fun d s1 ⟨H1, I1, q1⟩ => ?_)
  cases d with
  | true => exact ha pins s1 σ H1 D I1 q1
  | false => exact hb pins s1 σ H1 D I1 q1
/-- code that the proof never comes to -/
def tNever : TS := fun _ _ _ => False
theorem ps_never : PS X st tNever := fun _ _ _ _ _ _ h => h.elim
end

/-! ### targets -/
abbrev TG := V → St → Hp → (St → Hp → Prop) → Prop
abbrev TGs := List V → St → Hp → (St → Hp → Prop) → Prop
def PG (X : Cx) (target : Expr) (t : TG) : Prop :=
  ∀ (pins : List (Addr × Obj)) (s : Shared) (σ : St) (H : Hp) (v : V) (u : Value) (Q : St → Hp → Prop), Inv X pins σ H s → RelV v u → t v σ H Q →
    wpAny (model X.prog X.w) X.A (assign target X.env u) (fun _ s' => ∃ σ' H', Inv X pins σ' H' s' ∧ Q σ' H') X.xe s
/-- several targets, one after another -/
def PGs (X : Cx) (ts : List Expr) (t : TGs) : Prop :=
  ∀ (pins : List (Addr × Obj)) (s : Shared) (σ : St) (H : Hp) (vs : List V) (us : List Value) (Q : St → Hp → Prop), Inv X pins σ H s → Vals vs us → t vs σ H Q →
    wpAny (model X.prog X.w) X.A (assignInOrder ((assignEach ts X.env).map (·.2)) us) (fun _ s' => ∃ σ' H', Inv X pins σ' H' s' ∧ Q σ' H') X.xe s
/-- a op= b, by values -/
abbrev TIp := V → V → Hp → VK → Prop
def PIp (X : Cx) (op : Operator) (t : TIp) : Prop :=
  ∀ (pins : List (Addr × Obj)) (s : Shared) (σ : St) (H : Hp) (x y : V) (v u : Value) (Q : VK), Inv X pins σ H s → RelV x v → RelV y u → t x y H Q →
    wpAny (model X.prog X.w) X.A (inplaceOp op v u) (EP X pins σ Q) X.xe s
section
variable {X : Cx} {pos : Pos}
def gName (i : Nat) : TG := fun v σ H Q => Q (σ.set i (some v)) H
theorem pg_name {i : Nat} {x : Str} (hN : X.N.Nodup) (hi : X.N[i]? = some x) (hx : Loc X.env.scope x) (hf : X.fn x = true ∨ X.env.scope.names.lookup x = some .local := by first | exact .inl rfl | exact .inr rfl | assumption) : PG X (.Name x pos) (gName i) := by
  intro pins s σ H v u Q I r h
  exact wpAny_assign_Name (store_ok I hN hi hx r (fun s' I' => ⟨_, H, I', h⟩) hf)
def gNil : TGs := fun vs σ H Q => vs = [] ∧ Q σ H
def gCons (t : TG) (u : TGs) : TGs := fun vs σ H Q => ∃ v r, vs = v :: r ∧ t v σ H fun σ' H' => u r σ' H' Q
theorem pgs_nil : PGs X [] gNil := by
  intro pins s σ H vs us Q I r h
  obtain ⟨e, h⟩ := h
  subst e
  cases r
  exact assignInOrder_nil ⟨σ, H, I, h⟩
theorem pgs_cons {e : Expr} {es : List Expr} {t : TG} {u : TGs} (h1 : PG X e t) (h2 : PGs X es u)
    (hs : (assignEach (e :: es) X.env).map (·.2) = assign e X.env :: (assignEach es X.env).map (·.2) := by rfl) : PGs X (e :: es) (gCons t u) := by
  intro pins s σ H vs us Q I r h
  obtain ⟨v, vr, e1, h⟩ := h
  subst e1
  cases r with
  | cons r rr =>
    rw [hs]
    refine assignInOrder_cons (thn (h1 pins s σ H _ _ _ I r h) fun _ s1 ⟨σ1, H1, I1, q1⟩ => ?_)
    exact h2 pins s1 σ1 H1 _ _ Q I1 rr q1
/-- (a, b, ..) = a tuple of that length -/
def gTup (K : PySem.W.Frag) (n : Nat) (t : TGs) : TG := fun v σ H Q => ∃ a xs, v = .ref a ∧ SqT K H a xs ∧ xs.length = n ∧ t xs σ H Q
theorem pg_tup {es : List Expr} {k : Nat} {t : TGs} {n : Nat} (hc : X.calm = true) (h : PGs X es t)
    (hn : (assignEach es X.env).length = n := by rfl) (hst : (assignEach es X.env).findIdx? (·.1) = none := by rfl) : PG X (.Tuple es k pos) (gTup X.K n t) := by
  intro pins s σ H v u Q I r hw
  obtain ⟨a, xs, e1, hq, hl, hw⟩ := hw
  subst e1
  cases r
  obtain ⟨its, rv, ht, hz⟩ := I.tuple hq
  refine assign_Tuple_tuple (I.ok.hd hc) ht (by simp [hn, ← hl, rv.length]) hst fun h' hx => ?_
  have I1 : Inv X pins σ H { s with heap := h' } := I.kept (t' := s.toks) fun b o e => hx b o (Nat.ne_of_lt (Heap.lt_size e)) e
  exact h pins _ σ H xs _ Q I1 (by simpa using rv) hw
/-- target = value -/
def tAsg (te : TE) (g : TG) : TS := fun D σ H => te σ H fun x H1 => g x σ H1 D.nx
/-- name = value -/
theorem ps_set {i : Nat} {x : Str} {e : Expr} {te : TE} {pos' : Pos} (hN : X.N.Nodup) (hi : X.N[i]? = some x) (hx : Loc X.env.scope x) (he : PE X e te) (hs : swapsWith e (some (.Name x pos')) pos.line X.env = pure false := by rfl) (hf : X.fn x = true ∨ X.env.scope.names.lookup x = some .local := by first | exact .inl rfl | exact .inr rfl | assumption) :
    PS X (.Assign [.Name x pos'] e pos) (tAsg te (gName i)) := by
  intro pins s σ H D I h
  refine wpAny_Assign_Name (thn (he pins s σ H _ I h) fun v s1 ⟨y, H1, I1, r1, q1⟩ => ?_) hs
  exact store_ok I1 hN hi hx r1 (fun s2 I2 => ⟨_, H1, I2, q1⟩) hf
/-- name op= e -/
def tAug (i : Nat) (te : TE) (ti : TIp) : TS := fun D σ H => ∃ x, σ[i]? = some (some x) ∧ te σ H fun y H1 => ti x y H1 fun z H2 => D.nx (σ.set i (some z)) H2
theorem ps_aug {i : Nat} {x : Str} {e : Expr} {te : TE} {op : Operator} {ti : TIp} {pos' : Pos} (hN : X.N.Nodup) (hi : X.N[i]? = some x) (hx : Loc X.env.scope x) (he : PE X e te) (ho : PIp X op ti) (hf : X.fn x = true ∨ X.env.scope.names.lookup x = some .local := by first | exact .inl rfl | exact .inr rfl | assumption) :
    PS X (.AugAssign (.Name x pos') op e pos) (tAug i te ti) := by
  intro pins s σ H D I h
  obtain ⟨v, e1, h⟩ := h
  obtain ⟨m, hn, hl⟩ := I.loc
  have vis : Vis X.env.scope x := by rcases hx with k | k; exact .inl k; exact .inr (.inl k)
  obtain ⟨u, r, l⟩ := hl i x v hi e1 vis
  refine wpAny_AugAssign_Name ?_
  have go : wpAny (model X.prog X.w) X.A (eval e X.env) (fun w s₂ => wpAny (model X.prog X.w) X.A (inplaceOp op u w) (fun r s₃ => wpAny (model X.prog X.w) X.A (storeName X.env x r) (fun _ => SP X pins D .next) X.xe s₃) X.xe s₂) X.xe s := by
    refine thn (he pins s σ H _ I h) fun w s1 ⟨y, H1, I1, r1, q1⟩ => ?_
    refine thn (ho pins s1 σ H1 v y u w _ I1 r r1 q1) fun z s2 ⟨zv, H2, I2, r2, q2⟩ => ?_
    exact store_ok I2 hN hi hx r2 (fun s3 I3 => ⟨_, H2, I3, q2⟩) hf
  rcases l with ⟨hk, hm⟩ | ⟨hk, c, hc, hcell⟩
  · exact wpAny_loadName_local I.ok.kind hk hn hm go
  · rcases hk with hk | hk
    · exact wpAny_loadName_cell I.ok.kind hk hc hcell go
    · rcases hx with k | k
      · have : X.env.scope.names.lookup x = some .free := hk
        rw [k] at this; cases this
      · have : X.env.scope.names.lookup x = some .free := hk
        rw [k] at this; cases this
/-- ints -/
def ipI (f : Int → Int → Int) : TIp := fun x y H Q => ∃ i j, x = .int i ∧ y = .int j ∧ Q (.int (f i j)) H
theorem ip_add : PIp X .Add (ipI fun i j => i + j) := by
  intro pins s σ H x y v u Q I r1 r2 h
  obtain ⟨i, j, e1, e2, q⟩ := h
  subst e1; subst e2
  obtain ⟨t, rfl⟩ := r1
  obtain ⟨t', rfl⟩ := r2
  exact iadd_int ⟨.int _, H, I.tok _, ⟨_, rfl⟩, q⟩
end

/-! ### while -/
section
variable {X : Cx} {pos : Pos}
end

/-! ### what a loop or a comprehension walks -/
/-- at turn i: it yields x (the heap may grow), or it stops -/
structure It where
  go : Nat → Hp → Prop
  yld : Nat → Hp → V → Hp → Prop
  stop : Nat → Hp → Prop
/-- the iterator's own objects may turn: they are not the frame's, not pinned, younger than the entry (or a comprehension's own) -/
def FpOk (X : Cx) (pins : List (Addr × Obj)) (H : Hp) (b : Addr) : Prop :=
  H b = none ∧ b ≠ X.env.locals ∧ b ∉ X.fs ∧ (b ∈ X.ex ∨ X.s₀.heap.objs.size ≤ b) ∧ (∀ x c, X.env.cells.lookup x = some c → c ≠ b) ∧ ∀ p ∈ X.pn ++ pins, p.1 ≠ b
theorem Inv.fpOk {X : Cx} {pins : List (Addr × Obj)} {σ : St} {H H' : Hp} {s : Shared} {b : Addr} (I : Inv X pins σ H s) (hb : s.heap.objs.size ≤ b) (hn : H' b = none) : FpOk X pins H' b := by
  refine ⟨hn, Nat.ne_of_gt (Nat.lt_of_lt_of_le I.lt hb), I.nofs hb, .inr (Nat.le_trans I.sz hb), fun x c e z => ?_, fun p hp z => ?_⟩
  · obtain ⟨v, q⟩ := I.cell x c e
    exact absurd (Nat.lt_of_lt_of_le q.lt (by rw [z]; exact hb)) (Nat.lt_irrefl _)
  · exact absurd (Nat.lt_of_lt_of_le (Heap.lt_size (I.pin p hp).1) (by rw [z]; exact hb)) (Nat.lt_irrefl _)
structure Turn (P : Program) (w : World) (K : PySem.W.Frag) (tg : Expr) (J : It) (fp : List Addr) (it : Addr) (tn : Nat → Heap → Prop) : Prop where
  mem : it ∈ fp
  obj : ∀ i h, tn i h → ∀ b ∈ fp, ∃ o, h.get? b = some o ∧ ∀ v, o.data ≠ .cell v
  keep : ∀ i h h', tn i h → (∀ b ∈ fp, ∀ o, h.get? b = some o → h'.get? b = some o) → tn i h'
  item : ∀ (X : Cx), X.prog = P → X.w = w → X.K = K → X.calm = true → ∀ (i : Nat) (pins : List (Addr × Obj)) (s : Shared) (σ : St) (H : Hp) (E : Value → Shared → Prop), Inv X pins σ H s → (∀ b ∈ fp, FpOk X pins H b) → tn i s.heap → J.go i H →
    wpAny (model P w) X.A (pyNext (.ref it)) (fun r s1 => ∃ u, r = some u ∧
      wpAny (model P w) X.A (letOwnedTupleGo tg (.ref it) u) (fun _ s2 => ∃ x H', Inv X pins σ H' s2 ∧ RelV x u ∧ J.yld i H x H' ∧ tn (i + 1) s2.heap ∧ ∀ b ∈ fp, H' b = none) E s1) E s
  done : ∀ (X : Cx), X.prog = P → X.w = w → X.K = K → X.calm = true → ∀ (i : Nat) (pins : List (Addr × Obj)) (s : Shared) (σ : St) (H : Hp) (E : Value → Shared → Prop), Inv X pins σ H s → (∀ b ∈ fp, FpOk X pins H b) → tn i s.heap → J.stop i H →
    wpAny (model P w) X.A (pyNext (.ref it)) (fun r s1 => r = none ∧ Inv X pins σ H s1) E s
  self : ∀ (A : Around) (i : Nat) (s : Shared) (Q : Value → Shared → Prop) (E : Value → Shared → Prop), tn i s.heap → Q (.ref it) s → wpAny (model P w) A (pyIter (.ref it)) Q E s
abbrev TI := St → Hp → (It → Hp → Prop) → Prop
/-- an iterator has come -/
def PIE (X : Cx) (pins : List (Addr × Obj)) (σ : St) (tg : Expr) (R : It → Hp → Prop) (itv : Value) (s2 : Shared) : Prop :=
  ∃ (it : Addr) (fp : List Addr) (tn : Nat → Heap → Prop) (J : It) (H' : Hp), itv = .ref it ∧ Inv X pins σ H' s2 ∧ Turn X.prog X.w X.K tg J fp it tn ∧ tn 0 s2.heap ∧ (∀ b ∈ fp, FpOk X pins H' b) ∧ R J H'
def PI (X : Cx) (tg iter : Expr) (wi : TI) : Prop :=
  ∀ (pins : List (Addr × Obj)) (s : Shared) (σ : St) (H : Hp) (R : It → Hp → Prop), Inv X pins σ H s → wi σ H R →
    wpAny (model X.prog X.w) X.A (eval iter X.env) (fun v s1 => wpAny (model X.prog X.w) X.A (pyIter v) (PIE X pins σ tg R) X.xe s1) X.xe s

/-- the step ahead of the store is nothing for an iterator that keeps no tuple -/
theorem go_of {M : Model} {A : Around} {E : Value → Shared → Prop} {s : Shared} {tg : Expr} {it : Addr} {u : Value} {o : Obj} {n : String} {vs : Array Value} {Q : Unit → Shared → Prop} (ho : s.heap.get? it = some o) (hc : o.cls = .type n) (hd : o.data = .fields vs)
    (hn : ["enumerate", "zip", "dict_itemiterator", "dict_reverseitemiterator", "odict_iterator", "itertools.zip_longest", "itertools.pairwise"].contains n = false) (hQ : Q () s) : wpAny M A (letOwnedTupleGo tg (.ref it) u) Q E s := by
  unfold letOwnedTupleGo
  cases tg <;> first
    | exact wpAny_pure hQ
    | (cases u <;> first
        | exact wpAny_pure hQ
        | (refine wpAny_bind (wpAny_load ho ?_)
           rw [hc, hd]
           show wpAny M A (if (["enumerate", "zip", "dict_itemiterator", "dict_reverseitemiterator", "odict_iterator", "itertools.zip_longest", "itertools.pairwise"].contains n && vs[0]? == some (rawInt _)) = true then _ else _) Q E s
           rw [if_neg (by intro h; rw [hn, Bool.false_and] at h; cases h)]
           exact wpAny_pure hQ))

/-- the list at a, as it stands at each turn (a loop may append to it) -/
def Itl (K : PySem.W.Frag) (a : Addr) : It :=
  ⟨fun i H => ∃ xs x, SqL K H a xs ∧ xs[i]? = some x, fun i H x H' => H' = H ∧ ∀ xs, SqL K H a xs → xs[i]? = some x, fun i H => ∃ xs, SqL K H a xs ∧ xs.length ≤ i⟩
/-- lo, lo + 1, .. (n of them) -/
def Itr (lo : Int) (n : Nat) : It := ⟨fun i _ => i < n, fun i H x H' => H' = H ∧ x = .int (lo + i), fun i _ => n ≤ i⟩
theorem turn_list {P : Program} {w : World} {K : PySem.W.Frag} {tg : Expr} (a it : Addr) : Turn P w K tg (Itl K a) [it] it (fun i h => h.IsListIter it a i) where
  mem := by simp
  obj := fun i h st b hb => by
    have e : b = it := by simpa using hb
    subst e
    obtain ⟨o, e, c, d⟩ := st
    exact ⟨o, e, fun v z => by rw [d] at z; cases z⟩
  keep := fun i h h' st k => st.at fun o e => k it (by simp) o e
  item := by
    intro X hP hw hK hc i pins s σ H E I hf st hg
    subst hP hw hK
    obtain ⟨xs, x, hq, hx⟩ := hg
    obtain ⟨its, rv, p, hz⟩ := I.list hq
    obtain ⟨u, hu, ru⟩ := rv.get hx
    obtain ⟨f0, f1, f2, f3, f4, f5⟩ := hf it (by simp)
    refine wpAny_pyNext_list_item st p.isList (x := u) (by simpa using hu) fun h' st' sb => ?_
    have I1 : Inv X pins σ H { s with heap := h' } := I.turned (t' := s.toks) (fun b o hb e => (sb.2 b hb).trans e) f0 f1 f3 f4 f5
    obtain ⟨o, e, c, d⟩ := id st'
    exact ⟨u, rfl, go_of (s := { s with heap := h' }) e c d (by decide) ⟨x, H, I1, ru, ⟨rfl, fun ys hy => by rw [I.list_inj hy hq]; exact hx⟩, st', fun b hb => (hf b hb).1⟩⟩
  done := by
    intro X hP hw hK hc i pins s σ H E I hf st hg
    subst hP hw hK
    obtain ⟨xs, hq, hx⟩ := hg
    obtain ⟨its, rv, p, hz⟩ := I.list hq
    obtain ⟨f0, f1, f2, f3, f4, f5⟩ := hf it (by simp)
    have hl := rv.length
    exact wpAny_pyNext_list_end (I.ok.hd hc) st p.isList (by simp; omega) fun h' eb => ⟨rfl, I.turned (t' := s.toks) (fun b o hb e => eb b o hb e) f0 f1 f3 f4 f5⟩
  self := fun _ _ _ _ _ st h => wpAny_pyIter_listiter st h
theorem turn_range {P : Program} {w : World} {K : PySem.W.Frag} {tg : Expr} (it : Addr) (lo : Int) (n : Nat) : Turn P w K tg (Itr lo n) [it] it (fun i h => IsRangeIter h it (lo + (i : Nat) * 1) ((n : Int) - (i : Nat)) 1) where
  mem := by simp
  obj := fun i h st b hb => by
    have e : b = it := by simpa using hb
    subst e
    exact ⟨_, st, fun v z => by
      have z' : Data.fields _ = Data.cell v := z
      cases z'⟩
  keep := fun i h h' st k => k it (by simp) _ st
  item := by
    intro X hP hw hK hc i pins s σ H E I hf st hg
    subst hP hw hK
    obtain ⟨f0, f1, f2, f3, f4, f5⟩ := hf it (by simp)
    have W := Walks.range (prog := X.prog) (w := X.w) (I.ok.hd hc) it lo 1 n
    refine W.item i s _ _ hg st fun v h' tk hv st' kk => ?_
    obtain ⟨t, rfl⟩ := hv
    have I1 : Inv X pins σ H { s with heap := h', toks := tk } := I.turned (fun b o hb e => kk b o (by simpa using hb) e) f0 f1 f3 f4 f5
    refine ⟨_, rfl, go_of (s := { s with heap := h', toks := tk }) (n := "range_iterator") st' rfl rfl (by decide) ⟨.int (lo + i), H, I1, ⟨t, ?_⟩, ⟨rfl, rfl⟩, st', fun b hb => (hf b hb).1⟩⟩
    rw [Int.mul_one]
  done := by
    intro X hP hw hK hc i pins s σ H E I hf st hg
    subst hP hw hK
    obtain ⟨f0, f1, f2, f3, f4, f5⟩ := hf it (by simp)
    exact wpAny_pyNext_range_end (I.ok.hd hc) st (by have : n ≤ i := hg; omega) fun h' eb => ⟨rfl, I.turned (t' := s.toks) (fun b o hb e => eb b o hb e) f0 f1 f3 f4 f5⟩
  self := fun _ _ _ _ _ st h => wpAny_pyIter_rangeiter st h
end L2

namespace L2
open PySem PySem.Spec PyProof.Rows
section
variable {X : Cx} {tg : Expr}
def iList (K : PySem.W.Frag) (tl : TE) : TI := fun σ H R => tl σ H fun x H1 => ∃ a, x = .ref a ∧ (∃ xs, SqL K H1 a xs) ∧ R (Itl K a) H1
theorem pi_list {l : Expr} {tl : TE} (hl : PE X l tl) : PI X tg l (iList X.K tl) := by
  intro pins s σ H R I h
  refine thn (hl pins s σ H _ I h) fun v s1 ⟨x, H1, I1, r1, q1⟩ => ?_
  obtain ⟨a, e, ⟨xs, hq⟩, q⟩ := q1
  subst e
  cases r1
  obtain ⟨its, rv, p, hz⟩ := I1.list hq
  refine wpAny_pyIter_list p.isList ?_
  refine ⟨s1.heap.objs.size, [s1.heap.objs.size], _, _, H1, rfl, I1.kept (t' := s1.toks) fun b o e => Heap.get?_push_of_some _ e, turn_list a _, ⟨_, Heap.get?_push_size _ rfl, rfl, rfl⟩, fun b hb => ?_, q⟩
  have e : b = s1.heap.objs.size := by simpa using hb
  subst e
  exact I1.fpOk (Nat.le_refl _) (I1.hok.fresh (Nat.le_refl _))
/-- a range object just made, walked -/
theorem range_it {pins : List (Addr × Obj)} {σ : St} {H : Hp} {s : Shared} {R : It → Hp → Prop} {E : Value → Shared → Prop} {lo hi : Int} {t u v : Tok} {tk : Nat} (I : Inv X pins σ H s) (h1 : -(2 ^ 62) ≤ lo) (h2 : lo < 2 ^ 62) (h3 : -(2 ^ 62) ≤ hi) (h4 : hi < 2 ^ 62)
    (q : R (Itr lo (hi - lo).toNat) H) : wpAny (model X.prog X.w) X.A (pyIter (.ref s.heap.objs.size)) (PIE X pins σ tg R) E { s with heap := s.heap.push { cls := .type "range", data := .fields #[.int lo t, .int hi u, .int 1 v] }, toks := tk } := by
  refine wpAny_pyIter_range (IsRange.new ..) (small_one h1 h2 h3 h4) ?_
  have I1 : Inv X pins σ H { s with heap := s.heap.push { cls := .type "range", data := .fields #[.int lo t, .int hi u, .int 1 v] }, toks := tk } := I.kept fun b o e => Heap.get?_push_of_some _ e
  refine ⟨(s.heap.push { cls := .type "range", data := .fields #[.int lo t, .int hi u, .int 1 v] }).objs.size, [(s.heap.push { cls := .type "range", data := .fields #[.int lo t, .int hi u, .int 1 v] }).objs.size], _, _, H, rfl,
    I1.kept (t' := tk) fun b o e => Heap.get?_push_of_some _ e, turn_range _ lo (hi - lo).toNat, ?_, fun b hb => ?_, q⟩
  · have e1 : lo + ((0 : Nat) : Int) * 1 = lo := by simp
    have e2 : (((hi - lo).toNat : Nat) : Int) - ((0 : Nat) : Int) = Builtin.Range.rangeSize lo hi 1 := by rw [rangeSize_one]; split <;> omega
    show IsRangeIter _ _ (lo + ((0 : Nat) : Int) * 1) ((((hi - lo).toNat : Nat) : Int) - ((0 : Nat) : Int)) 1
    rw [e1, e2]
    exact Heap.get?_push_size _ rfl
  · have e : b = (s.heap.push { cls := .type "range", data := .fields #[.int lo t, .int hi u, .int 1 v] }).objs.size := by simpa using hb
    subst e
    exact I1.fpOk (Nat.le_refl _) (I1.hok.fresh (Nat.le_refl _))
def iRng1 (ta : TA) : TI := fun σ H R => ta σ H fun vs H1 => ∃ j : Int, vs = [.int j] ∧ -(2 ^ 62) ≤ j ∧ j < 2 ^ 62 ∧ R (Itr 0 j.toNat) H1
theorem pi_range1 {a : Expr} {ta : TA} {p pos : Pos} (hg : Gl X "range") (hm : X.mg "range" = none) (ha : PA X [a] ta) (hs : starEach [a] X.env = [(false, eval a X.env)] := by rfl) : PI X tg (.Call (.Name "range" p) [a] [] pos) (iRng1 ta) := by
  intro pins s σ H R I h
  refine Call_ (ld_blt I hg hm boot_range (PyProof.Rows.callWith_type1 (thn (ha pos pins s σ H _ I h) fun us s1 ⟨vs, H1, I1, r1, q1⟩ => ?_) hs rfl))
  obtain ⟨j, e, q1, q2, q⟩ := q1
  subst e
  cases r1 with
  | cons r rr =>
    cases rr
    obtain ⟨t, rfl⟩ := r
    exact call_range_1 (range_it I1 (by omega) (by omega) q1 q2 (by simpa using q))
/-! ### for -/
/-- W: the invariant by the turn and a measure; N: what the body is to reach -/
def tFor (wi : TI) (g : TG) (tb : TS) : TS := fun D σ H => wi σ H fun J H1 => ∃ W : Nat → Nat → St → Hp → Prop, (∃ m, W 0 m σ H1) ∧ ∀ i m σ H, W i m σ H →
  (J.stop i H ∧ D.nx σ H) ∨ (J.go i H ∧ ∃ N : St → Hp → Prop, (∀ σ' H', N σ' H' → ∃ m', m' < m ∧ W (i + 1) m' σ' H') ∧ ∀ x H', J.yld i H x H' → g x σ H' fun σ2 H2 => tb { D with nx := N, ct := N, bk := D.nx } σ2 H2)
/-- the records at fp as they stand -/
def pinsAt (fp : List Addr) (h : Heap) : List (Addr × Obj) := fp.filterMap fun b => (h.get? b).map fun o => (b, o)
theorem mem_pinsAt {fp : List Addr} {h : Heap} {b : Addr} {o : Obj} (hb : b ∈ fp) (e : h.get? b = some o) : (b, o) ∈ pinsAt fp h := List.mem_filterMap.mpr ⟨b, hb, by rw [e]; rfl⟩
theorem of_pinsAt {fp : List Addr} {h : Heap} {p : Addr × Obj} (hp : p ∈ pinsAt fp h) : p.1 ∈ fp ∧ h.get? p.1 = some p.2 := by
  obtain ⟨b, hb, e⟩ := List.mem_filterMap.mp hp
  cases q : h.get? b with
  | none => rw [q] at e; cases e
  | some o =>
    rw [q] at e
    have e' : (b, o) = p := Option.some.inj e
    subst e'
    exact ⟨hb, q⟩
theorem Inv.pinned {pins : List (Addr × Obj)} {σ : St} {H : Hp} {s : Shared} {fp : List Addr} (I : Inv X pins σ H s) (hf : ∀ b ∈ fp, FpOk X pins H b) (ho : ∀ b ∈ fp, ∃ o, s.heap.get? b = some o ∧ ∀ v, o.data ≠ .cell v) : Inv X (pins ++ pinsAt fp s.heap) σ H s :=
  I.pins_of fun p hp => (List.mem_append.mp hp).elim (fun z => I.pin p (List.mem_append_right _ z)) fun z => by
    obtain ⟨hb, e⟩ := of_pinsAt z
    obtain ⟨f0, f1, f2, _⟩ := hf p.1 hb
    obtain ⟨o, e', d⟩ := ho p.1 hb
    rw [e] at e'; cases e'
    exact ⟨e, f0, f1, f2, d⟩
theorem Inv.unpinned {pins pl : List (Addr × Obj)} {σ : St} {H : Hp} {s : Shared} (I : Inv X (pins ++ pl) σ H s) : Inv X pins σ H s := I.pins_of fun p hp => I.pin p (List.mem_append_right _ (List.mem_append_left _ hp))
theorem ps_for {iter : Expr} {body : List Stmt} {wi : TI} {g : TG} {tb : TS} {pos : Pos} (hp : PassesOwn (model X.prog X.w) X.A X.env X.xe) (hc : X.calm = true) (hi : PI X tg iter wi) (hg : PG X tg g) (hb : PSs X body tb)
    (hs : ∀ x, foldedSetIterable iter X.env x = pure x := by intro _; rfl) : PS X (.For tg iter body [] pos) (tFor wi g tb) := by
  intro pins s σ H D I h
  refine wpAny_For (thn (hi pins s σ H _ I h) fun v s1 h1 => thn h1 fun itv s2 h2 => ?_) hs
  obtain ⟨it, fp, tn, J, H2, e, I2, T, st2, f2, W, ⟨m0, w0⟩, turn⟩ := h2
  subst e
  -- what stays true of the iterator's objects through the loop
  have stat : ∀ {H' : Hp}, (∀ b ∈ fp, H' b = none) → ∀ b ∈ fp, FpOk X pins H' b := fun hn b hb => ⟨hn b hb, (f2 b hb).2⟩
  refine codeAny_forLoop_any (fun n s' => ∃ i σ' H', Inv X pins σ' H' s' ∧ tn i s'.heap ∧ (∀ b ∈ fp, H' b = none) ∧ W i n σ' H') ?_ m0 ⟨0, σ, H2, I2, st2, fun b hb => (f2 b hb).1, w0⟩
  rintro n s3 ⟨i, σ3, H3, I3, st3, fr3, w3⟩
  rcases turn i n σ3 H3 w3 with ⟨stop, qn⟩ | ⟨go, N, hN, step⟩
  · refine wpAny_passesOwn hp (thn (T.done X rfl rfl rfl hc i pins s3 σ3 H3 X.xe I3 (stat fr3) st3 stop) fun r s4 ⟨hr, I4⟩ => ?_)
    subst hr
    exact wpAny_execs_nil ⟨σ3, H3, I4, qn⟩
  · refine wpAny_passesOwn hp (thn (T.item X rfl rfl rfl hc i pins s3 σ3 H3 X.xe I3 (stat fr3) st3 go) fun r s4 ⟨u, hr, h4⟩ => ?_)
    subst hr
    refine wpAny_passesOwn hp (thn h4 fun _ s5 ⟨x, H5, I5, r5, y5, st5, fr5⟩ => ?_)
    have I5' := I5.pinned (stat fr5) (T.obj _ _ st5)
    refine wpAny_passesOwn hp (thn (hg _ s5 σ3 H5 x u _ I5' r5 (step x H5 y5)) fun _ s6 ⟨σ6, H6, I6, q6⟩ => ?_)
    refine wpAny_passesOwn hp (thn (hb _ s6 σ6 H6 _ I6 q6) fun f s7 q7 => ?_)
    have again : ∀ {σ7 : St} {H7 : Hp}, Inv X (pins ++ pinsAt fp s5.heap) σ7 H7 s7 → N σ7 H7 → ∃ m, m < n ∧ ∃ i σ' H', Inv X pins σ' H' s7 ∧ tn i s7.heap ∧ (∀ b ∈ fp, H' b = none) ∧ W i m σ' H' := fun {σ7 H7} I7 n7 => by
      obtain ⟨m', hm, w7⟩ := hN σ7 H7 n7
      refine ⟨m', hm, i + 1, σ7, H7, I7.unpinned, T.keep _ _ _ st5 fun b hb o e => (I7.pin (b, o) (List.mem_append_right _ (List.mem_append_right _ (mem_pinsAt hb e)))).1, fun b hb => ?_, w7⟩
      obtain ⟨o, e, d⟩ := T.obj _ _ st5 b hb
      exact (I7.pin (b, o) (List.mem_append_right _ (List.mem_append_right _ (mem_pinsAt hb e)))).2.1
    cases f with
    | next => obtain ⟨σ7, H7, I7, n7⟩ := q7; exact again I7 n7
    | cont => obtain ⟨σ7, H7, I7, n7⟩ := q7; exact again I7 n7
    | brk => obtain ⟨σ7, H7, I7, q7⟩ := q7; exact ⟨σ7, H7, I7.unpinned, q7⟩
    | ret v => obtain ⟨x7, σ7, H7, I7, r7, q7⟩ := q7; exact ⟨x7, σ7, H7, I7.unpinned, r7, q7⟩
end

/-! ### the forms one uses -/
/-- over a list that the body leaves as it is -/
theorem for_list {K : PySem.W.Frag} {a : Addr} {xs : List V} {g : TG} {tb : TS} {D : Ends} {σ : St} {H : Hp} (Pv : Nat → St → Hp → Prop) (h0 : Pv 0 σ H) (hl : ∀ i σ H, i ≤ xs.length → Pv i σ H → SqL K H a xs)
    (hs : ∀ i x σ H, xs[i]? = some x → Pv i σ H → g x σ H fun σ2 H2 => tb { D with nx := Pv (i + 1), ct := Pv (i + 1), bk := D.nx } σ2 H2) (hd : ∀ σ H, Pv xs.length σ H → D.nx σ H) :
    ∃ W : Nat → Nat → St → Hp → Prop, (∃ m, W 0 m σ H) ∧ ∀ i m σ H, W i m σ H →
      ((Itl K a).stop i H ∧ D.nx σ H) ∨ ((Itl K a).go i H ∧ ∃ N : St → Hp → Prop, (∀ σ' H', N σ' H' → ∃ m', m' < m ∧ W (i + 1) m' σ' H') ∧ ∀ x H', (Itl K a).yld i H x H' → g x σ H' fun σ2 H2 => tb { D with nx := N, ct := N, bk := D.nx } σ2 H2) := by
  refine ⟨fun i m σ H => m = xs.length - i ∧ i ≤ xs.length ∧ Pv i σ H, ⟨xs.length, by simp, Nat.zero_le _, h0⟩, ?_⟩
  rintro i m σ H ⟨rfl, hi, p⟩
  have q := hl i σ H hi p
  by_cases hlt : i < xs.length
  · refine .inr ⟨⟨xs, xs[i], q, by simp [hlt]⟩, Pv (i + 1), fun σ' H' p' => ⟨xs.length - (i + 1), by omega, rfl, hlt, p'⟩, fun x H' y => ?_⟩
    obtain ⟨e, y⟩ := y
    subst e
    exact hs i x σ _ (y xs q) p
  · have e : i = xs.length := by omega
    subst e
    exact .inl ⟨⟨xs, q, Nat.le_refl _⟩, hd σ H p⟩
theorem for_range {lo : Int} {n : Nat} {g : TG} {tb : TS} {D : Ends} {σ : St} {H : Hp} (Pv : Nat → St → Hp → Prop) (h0 : Pv 0 σ H)
    (hs : ∀ i σ H, i < n → Pv i σ H → g (.int (lo + i)) σ H fun σ2 H2 => tb { D with nx := Pv (i + 1), ct := Pv (i + 1), bk := D.nx } σ2 H2) (hd : ∀ σ H, Pv n σ H → D.nx σ H) :
    ∃ W : Nat → Nat → St → Hp → Prop, (∃ m, W 0 m σ H) ∧ ∀ i m σ H, W i m σ H →
      ((Itr lo n).stop i H ∧ D.nx σ H) ∨ ((Itr lo n).go i H ∧ ∃ N : St → Hp → Prop, (∀ σ' H', N σ' H' → ∃ m', m' < m ∧ W (i + 1) m' σ' H') ∧ ∀ x H', (Itr lo n).yld i H x H' → g x σ H' fun σ2 H2 => tb { D with nx := N, ct := N, bk := D.nx } σ2 H2) := by
  refine ⟨fun i m σ H => m = n - i ∧ i ≤ n ∧ Pv i σ H, ⟨n, by simp, Nat.zero_le _, h0⟩, ?_⟩
  rintro i m σ H ⟨rfl, hi, p⟩
  by_cases hlt : i < n
  · refine .inr ⟨hlt, Pv (i + 1), fun σ' H' p' => ⟨n - (i + 1), by omega, rfl, hlt, p'⟩, fun x H' y => ?_⟩
    obtain ⟨e, y⟩ := y
    subst e y
    exact hs i σ _ hlt p
  · have e : i = n := by omega
    subst e
    exact .inl ⟨Nat.le_refl _, hd σ H p⟩
end L2

namespace L2
open PySem PySem.Spec PyProof.Rows

abbrev R2 := V → V → Hp → VK → Prop
/-- a two-place operation on values: f is binaryOp op, inplaceOp op or compareOp op -/
def OpR (X : Cx) (f : Value → Value → Sem Value) (r : R2) : Prop :=
  ∀ (pins : List (Addr × Obj)) (s : Shared) (σ : St) (H : Hp) (x y : V) (v u : Value) (Q : VK), Inv X pins σ H s → RelV x v → RelV y u → r x y H Q →
    wpAny (model X.prog X.w) X.A (f v u) (EP X pins σ Q) X.xe s
/-- a one-place operation -/
def UnR (X : Cx) (f : Value → Sem Value) (r : V → Hp → VK → Prop) : Prop :=
  ∀ (pins : List (Addr × Obj)) (s : Shared) (σ : St) (H : Hp) (x : V) (v : Value) (Q : VK), Inv X pins σ H s → RelV x v → r x H Q →
    wpAny (model X.prog X.w) X.A (f v) (EP X pins σ Q) X.xe s
/-- a call of a value that is known (a builtin, a type) with values -/
def CallR (X : Cx) (f : Value) (r : List V → Hp → VK → Prop) : Prop :=
  ∀ (pins : List (Addr × Obj)) (s : Shared) (σ : St) (H : Hp) (xs : List V) (us : List Value) (Q : VK), Inv X pins σ H s → Vals xs us → r xs H Q →
    wpAny (model X.prog X.w) X.A (call f us) (EP X pins σ Q) X.xe s
def tOp (r : R2) (ta tb : TE) : TE := fun σ H Q => ta σ H fun x H1 => tb σ H1 fun y H2 => r x y H2 Q
def tUn (r : V → Hp → VK → Prop) (ta : TE) : TE := fun σ H Q => ta σ H fun x H1 => r x H1 Q
/-- ints in, under C, and a value out -/
def rI (C : Int → Int → Prop) (g : Int → Int → V) : R2 := fun x y H Q => ∃ i j, x = .int i ∧ y = .int j ∧ C i j ∧ Q (g i j) H
def rI0 (g : Int → Int → V) : R2 := fun x y H Q => ∃ i j, x = .int i ∧ y = .int j ∧ Q (g i j) H
def rU (g : Int → V) : V → Hp → VK → Prop := fun x H Q => ∃ i, x = .int i ∧ Q (g i) H

section
variable {X : Cx} {a b c : Expr} {ta tb tc : TE} {pos : Pos}

theorem binT (ha : PE X a ta) (hb : PE X b tb) {pins : List (Addr × Obj)} {s : Shared} {σ : St} {H : Hp} {R : V → V → Hp → Prop} (I : Inv X pins σ H s)
    (h : ta σ H fun x H1 => tb σ H1 fun y H2 => R x y H2) {Q : Value → Shared → Prop} {f : Value → Value → Sem Value}
    (hf : ∀ v u s2 x y H2, Inv X pins σ H2 s2 → RelV x v → RelV y u → R x y H2 → wpAny (model X.prog X.w) X.A (f v u) Q X.xe s2) :
    wpAny (model X.prog X.w) X.A (eval a X.env) (fun v s₁ => wpAny (model X.prog X.w) X.A (eval b X.env) (fun u s₂ => wpAny (model X.prog X.w) X.A (f v u) Q X.xe s₂) X.xe s₁) X.xe s := by
  refine thn (ha pins s σ H _ I h) fun v s1 ⟨x, H1, I1, r1, q1⟩ => ?_
  refine thn (hb pins s1 σ H1 _ I1 q1) fun u s2 ⟨y, H2, I2, r2, q2⟩ => ?_
  exact hf v u s2 x y H2 I2 r1 r2 q2

theorem pe_op {op : Operator} {r : R2} (ho : OpR X (binaryOp op) r) (ha : PE X a ta) (hb : PE X b tb) : PE X (.BinOp a op b pos) (tOp r ta tb) := by
  intro pins s σ H Q I h
  exact wpAny_BinOp (binT ha hb I h fun v u s2 x y H2 I2 rx ry q => ho pins s2 σ H2 x y v u Q I2 rx ry q)
theorem pe_un {op : UnaryOp} {r : V → Hp → VK → Prop} (ho : UnR X (unaryOp op) r) (ha : PE X a ta) : PE X (.UnaryOp op a pos) (tUn r ta) := by
  intro pins s σ H Q I h
  exact UnaryOp_ (thn (ha pins s σ H _ I h) fun v s1 ⟨x, H1, I1, r1, q1⟩ => ho pins s1 σ H1 x v Q I1 r1 q1)
/-! ### ints -/
theorem opI {f : Value → Value → Sem Value} {C : Int → Int → Prop} {g : Int → Int → Int}
    (rule : ∀ (i j : Int) (t u : Tok) (s : Shared) (Q : Value → Shared → Prop) (E : Value → Shared → Prop), C i j → Q (.int (g i j) s.toks) { s with toks := s.toks + 1 } → wpAny (model X.prog X.w) X.A (f (.int i t) (.int j u)) Q E s) :
    OpR X f (rI C fun i j => .int (g i j)) := by
  intro pins s σ H x y v u Q I rx ry h
  obtain ⟨i, j, rfl, rfl, hc, q⟩ := h
  obtain ⟨t, rfl⟩ := rx
  obtain ⟨t', rfl⟩ := ry
  exact rule i j t t' s _ _ hc ⟨.int (g i j), H, I.tok _, ⟨_, rfl⟩, q⟩
theorem opI0 {f : Value → Value → Sem Value} {g : Int → Int → Int}
    (rule : ∀ (i j : Int) (t u : Tok) (s : Shared) (Q : Value → Shared → Prop) (E : Value → Shared → Prop), Q (.int (g i j) s.toks) { s with toks := s.toks + 1 } → wpAny (model X.prog X.w) X.A (f (.int i t) (.int j u)) Q E s) :
    OpR X f (rI0 fun i j => .int (g i j)) := by
  intro pins s σ H x y v u Q I rx ry h
  obtain ⟨i, j, rfl, rfl, q⟩ := h
  obtain ⟨t, rfl⟩ := rx
  obtain ⟨t', rfl⟩ := ry
  exact rule i j t t' s _ _ ⟨.int (g i j), H, I.tok _, ⟨_, rfl⟩, q⟩
theorem opB0 {f : Value → Value → Sem Value} {g : Int → Int → Bool}
    (rule : ∀ (i j : Int) (t u : Tok) (s : Shared) (Q : Value → Shared → Prop) (E : Value → Shared → Prop), Q (.bool (g i j)) s → wpAny (model X.prog X.w) X.A (f (.int i t) (.int j u)) Q E s) :
    OpR X f (rI0 fun i j => .bl (g i j)) := by
  intro pins s σ H x y v u Q I rx ry h
  obtain ⟨i, j, rfl, rfl, q⟩ := h
  obtain ⟨t, rfl⟩ := rx
  obtain ⟨t', rfl⟩ := ry
  exact rule i j t t' s _ _ ⟨.bl (g i j), H, I, rfl, q⟩

def CDiv (i j : Int) : Prop := 0 < j ∧ j < 1073741824
def CPow (i j : Int) : Prop := 0 ≤ j ∧ j ≤ 1000000 ∧ i.natAbs < 2 ^ 64
def CMul (i j : Int) : Prop := (-(2 ^ 64) < i ∧ i < 2 ^ 64) ∨ (-(2 ^ 64) < j ∧ j < 2 ^ 64)
theorem CMul.ok {i j : Int} (h : CMul i j) : IntMulOk i j := by
  rcases h with ⟨h1, h2⟩ | ⟨h1, h2⟩
  · exact .of_left (intBits_le_64 h1 h2)
  · exact .of_right (intBits_le_64 h1 h2)
theorem op_add : OpR X (binaryOp .Add) (rI0 fun i j => .int (i + j)) := opI0 fun _ _ _ _ _ _ _ q => add_int q
theorem op_sub : OpR X (binaryOp .Sub) (rI0 fun i j => .int (i - j)) := opI0 fun _ _ _ _ _ _ _ q => sub_int q
theorem op_mul : OpR X (binaryOp .Mult) (rI CMul fun i j => .int (i * j)) := opI fun _ _ _ _ _ _ _ hc q => mul_int q hc.ok
/-- // by a positive divisor -/
theorem op_fdiv : OpR X (binaryOp .FloorDiv) (rI CDiv fun i j => .int (i / j)) := opI fun i j _ _ _ _ _ hc q => by
  have h1 : (0 : Int) < j := hc.1
  have h2 : j < 1073741824 := hc.2
  exact floordiv_int (by omega) (by rw [Int.fdiv_eq_ediv_of_nonneg i (by omega)]; exact q) (.inl (PyProof.noPylong_small (by omega)))
/-- % by a positive divisor of any size -/
theorem op_mod : OpR X (binaryOp .Mod) (rI (fun _ j => 0 < j) fun i j => .int (i % j)) := opI fun i j _ _ _ _ _ hc q => by
  have h1 : (0 : Int) < j := hc
  exact mod_int' (by omega) (by rw [Int.fmod_eq_emod_of_nonneg i (by omega)]; exact q)
theorem op_pow : OpR X (binaryOp .Pow) (rI CPow fun i j => .int (i ^ j.toNat)) := opI fun _ _ _ _ _ _ _ hc q => pow_int_small hc.1 hc.2.1 hc.2.2 q
theorem unI {f : Value → Sem Value} {g : Int → Int}
    (rule : ∀ (i : Int) (t : Tok) (s : Shared) (Q : Value → Shared → Prop) (E : Value → Shared → Prop), Q (.int (g i) s.toks) { s with toks := s.toks + 1 } → wpAny (model X.prog X.w) X.A (f (.int i t)) Q E s) :
    UnR X f (rU fun i => .int (g i)) := by
  intro pins s σ H x v Q I rx h
  obtain ⟨i, rfl, q⟩ := h
  obtain ⟨t, rfl⟩ := rx
  exact rule i t s _ _ ⟨.int (g i), H, I.tok _, ⟨_, rfl⟩, q⟩
theorem un_neg : UnR X (unaryOp .USub) (rU fun i => .int (-i)) := unI fun _ _ _ _ _ q => neg_int q
/-! ### bools among ints: n += (a < b) -/
end

/-! ### comparisons -/
/-- the scalars that == tells apart as data does -/
def scal : V → V → Bool
  | .non, .non => true | .non, .int _ => true | .int _, .non => true | .non, .bl _ => true | .bl _, .non => true | .non, .str _ => true | .str _, .non => true
  | .int _, .int _ => true | .bl _, .bl _ => true | .str _, .str _ => true | .byt _, .byt _ => true
  | .int _, .str _ => true | .str _, .int _ => true | .bl _, .str _ => true | .str _, .bl _ => true
  | _, _ => false
def rEq : R2 := fun x y H Q => scal x y = true ∧ Q (.bl (decide (x = y))) H
def rNe : R2 := fun x y H Q => scal x y = true ∧ Q (.bl (!decide (x = y))) H

theorem dec_int {i j : Int} : decide (V.int i = V.int j) = (i == j) := by
  rw [Bool.eq_iff_iff]
  simp
theorem dec_bl {i j : Bool} : decide (V.bl i = V.bl j) = (i == j) := by
  rw [Bool.eq_iff_iff]
  simp
theorem dec_str {i j : Str} : decide (V.str i = V.str j) = (i == j) := by
  rw [Bool.eq_iff_iff]
  simp
theorem dec_byt {i j : Array UInt8} : decide (V.byt i = V.byt j) = (i.toList == j.toList) := by
  rw [Bool.eq_iff_iff]
  cases i
  cases j
  simp

section
variable {X : Cx} {a b c : Expr} {ta tb tc : TE} {pos : Pos}
theorem fin_bl {pins : List (Addr × Obj)} {σ : St} {H : Hp} {s : Shared} {Q : VK} {k k' : Bool} (I : Inv X pins σ H s) (q : Q (.bl k) H) (e : k = k') : EP X pins σ Q (.bool k') s := by
  subst e
  exact ⟨.bl k, H, I, rfl, q⟩
theorem op_eq : OpR X (compareOp .Eq) rEq := by
  intro pins s σ H x y v u Q I rx ry h
  obtain ⟨hs, q⟩ := h
  cases x with
  | non =>
    cases rx
    cases y with
    | non => cases ry; exact PySem.EqNone.eq_none_none (fin_bl I q (by simp))
    | bl j => cases ry; exact PySem.EqNone.eq_none_bool (fin_bl I q (by simp))
    | int j => obtain ⟨t', rfl⟩ := ry; exact PySem.EqNone.eq_none_int (fin_bl I q (by simp))
    | str j => obtain ⟨t', rfl⟩ := ry; exact PySem.EqNone.eq_none_str (fin_bl I q (by simp))
    | _ => exact absurd (show false = true from hs) Bool.false_ne_true
  | bl i =>
    cases rx
    cases y with
    | non => cases ry; exact PySem.EqNone.eq_bool_none (fin_bl I q (by simp))
    | bl j => cases ry; exact eq_bool (fin_bl I q dec_bl)
    | str j => obtain ⟨t', rfl⟩ := ry; exact PySem.EqMixed.eq_bool_str (fin_bl I q (by simp))
    | _ => exact absurd (show false = true from hs) Bool.false_ne_true
  | int i =>
    obtain ⟨t, rfl⟩ := rx
    cases y with
    | non => cases ry; exact PySem.EqNone.eq_int_none (fin_bl I q (by simp))
    | int j => obtain ⟨t', rfl⟩ := ry; exact eq_int (fin_bl I q dec_int)
    | str j => obtain ⟨t', rfl⟩ := ry; exact PySem.EqMixed.eq_int_str (fin_bl I q (by simp))
    | _ => exact absurd (show false = true from hs) Bool.false_ne_true
  | str i =>
    obtain ⟨t, rfl⟩ := rx
    cases y with
    | non => cases ry; exact PySem.EqNone.eq_str_none (fin_bl I q (by simp))
    | bl j => cases ry; exact PySem.EqMixed.eq_str_bool (fin_bl I q (by simp))
    | int j => obtain ⟨t', rfl⟩ := ry; exact PySem.EqMixed.eq_str_int (fin_bl I q (by simp))
    | str j => obtain ⟨t', rfl⟩ := ry; exact eq_str (fin_bl I q dec_str)
    | _ => exact absurd (show false = true from hs) Bool.false_ne_true
  | byt i =>
    obtain ⟨t, rfl⟩ := rx
    cases y with
    | byt j => obtain ⟨t', rfl⟩ := ry; exact PySem.W.eq_bytes (fin_bl I q dec_byt)
    | _ => exact absurd (show false = true from hs) Bool.false_ne_true
  | _ => cases y <;> exact absurd (show false = true from hs) Bool.false_ne_true
theorem op_ne : OpR X (compareOp .NotEq) rNe := by
  intro pins s σ H x y v u Q I rx ry h
  obtain ⟨hs, q⟩ := h
  cases x with
  | non =>
    cases rx
    cases y with
    | non => cases ry; exact PySem.EqNone.ne_none_none (fin_bl I q (by simp))
    | bl j => cases ry; exact PySem.EqNone.ne_none_bool (fin_bl I q (by simp))
    | int j => obtain ⟨t', rfl⟩ := ry; exact PySem.EqNone.ne_none_int (fin_bl I q (by simp))
    | str j => obtain ⟨t', rfl⟩ := ry; exact PySem.EqNone.ne_none_str (fin_bl I q (by simp))
    | _ => exact absurd (show false = true from hs) Bool.false_ne_true
  | bl i =>
    cases rx
    cases y with
    | non => cases ry; exact PySem.EqNone.ne_bool_none (fin_bl I q (by simp))
    | bl j => cases ry; exact ne_bool (fin_bl I q (congrArg not dec_bl))
    | str j => obtain ⟨t', rfl⟩ := ry; exact PySem.EqMixed.ne_bool_str (fin_bl I q (by simp))
    | _ => exact absurd (show false = true from hs) Bool.false_ne_true
  | int i =>
    obtain ⟨t, rfl⟩ := rx
    cases y with
    | non => cases ry; exact PySem.EqNone.ne_int_none (fin_bl I q (by simp))
    | int j => obtain ⟨t', rfl⟩ := ry; exact ne_int (fin_bl I q (congrArg not dec_int))
    | str j => obtain ⟨t', rfl⟩ := ry; exact PySem.EqMixed.ne_int_str (fin_bl I q (by simp))
    | _ => exact absurd (show false = true from hs) Bool.false_ne_true
  | str i =>
    obtain ⟨t, rfl⟩ := rx
    cases y with
    | non => cases ry; exact PySem.EqNone.ne_str_none (fin_bl I q (by simp))
    | bl j => cases ry; exact PySem.EqMixed.ne_str_bool (fin_bl I q (by simp))
    | int j => obtain ⟨t', rfl⟩ := ry; exact PySem.EqMixed.ne_str_int (fin_bl I q (by simp))
    | str j => obtain ⟨t', rfl⟩ := ry; exact ne_str (fin_bl I q (congrArg not dec_str))
    | _ => exact absurd (show false = true from hs) Bool.false_ne_true
  | byt i =>
    obtain ⟨t, rfl⟩ := rx
    cases y with
    | byt j => obtain ⟨t', rfl⟩ := ry; exact PySem.W.ne_bytes (fin_bl I q (congrArg not dec_byt))
    | _ => exact absurd (show false = true from hs) Bool.false_ne_true
  | _ => cases y <;> exact absurd (show false = true from hs) Bool.false_ne_true

theorem op_lt : OpR X (compareOp .Lt) (rI0 fun i j => .bl (decide (i < j))) := opB0 fun _ _ _ _ _ _ _ q => lt_int q
theorem op_gt : OpR X (compareOp .Gt) (rI0 fun i j => .bl (decide (j < i))) := opB0 fun _ _ _ _ _ _ _ q => gt_int q
theorem op_ge : OpR X (compareOp .GtE) (rI0 fun i j => .bl (decide (j ≤ i))) := opB0 fun _ _ _ _ _ _ _ q => ge_int q
/-- the one string within the other -/
theorem op_in_str : OpR X (compareOp .In) (fun x y H Q => ∃ i j, x = .str i ∧ y = .str j ∧ Q (.bl (!(Builtin.Str.occurrences j i 0 j.length 1).isEmpty)) H) := by
  intro pins s σ H x y v u Q I rx ry h
  obtain ⟨i, j, rfl, rfl, q⟩ := h
  obtain ⟨t, rfl⟩ := rx
  obtain ⟨t', rfl⟩ := ry
  exact in_str (fin_bl I q rfl)

theorem op_notin_str : OpR X (compareOp .NotIn) (fun x y H Q => ∃ i j, x = .str i ∧ y = .str j ∧ Q (.bl (!(!(Builtin.Str.occurrences j i 0 j.length 1).isEmpty))) H) := by
  intro pins s σ H x y v u Q I rx ry h
  obtain ⟨i, j, rfl, rfl, q⟩ := h
  obtain ⟨t, rfl⟩ := rx
  obtain ⟨t', rfl⟩ := ry
  exact notIn_str (fin_bl I q rfl)
theorem nomark (b : Expr) {op : CmpOp} (h : op ≠ .In := by decide) (h2 : op ≠ .NotIn := by decide) : behindInMarks op b = false := by
  have e1 : (op == CmpOp.In) = false := by cases op <;> first | rfl | exact absurd rfl h
  have e2 : (op == CmpOp.NotIn) = false := by cases op <;> first | rfl | exact absurd rfl h2
  cases b <;> simp [behindInMarks, e1, e2]
/-- a comparison as a value; hm: nomark b, or (for in, not in) by with_unfolding_all rfl -/
theorem pe_cmpR {op : CmpOp} {r : R2} (ho : OpR X (compareOp op) r) (ha : PE X a ta) (hb : PE X b tb) (hm : behindInMarks op b = false) : PE X (.Compare a [op] [b] pos) (tOp r ta tb) := by
  intro pins s σ H Q I h
  exact wpAny_Compare1 (binT ha hb I h fun v u s2 x y H2 I2 rx ry q => ho pins s2 σ H2 x y v u Q I2 rx ry q) hm
/-- a reading of a value as a test -/
def tTest (t : TE) : TT := fun σ H Q => t σ H fun x H' => ∃ k, x = .bl k ∧ Q k H'
theorem pt_cmpR {op : CmpOp} {r : R2} (ho : OpR X (compareOp op) r) (ha : PE X a ta) (hb : PE X b tb) (hm : behindInMarks op b = false) : PT X (.Compare a [op] [b] pos) (tTest (tOp r ta tb)) := by
  intro pins s σ H Q I h
  refine wpAny_isTrue_Compare1 (thn (ha pins s σ H _ I h) fun v s1 ⟨x, H1, I1, r1, q1⟩ => thn (hb pins s1 σ H1 _ I1 q1) fun u s2 ⟨y, H2, I2, r2, q2⟩ =>
    thn (ho pins s2 σ H2 x y v u _ I2 r1 r2 q2) fun c s3 ⟨z, H3, I3, r3, k, e, q3⟩ => ?_) hm
  subst e
  cases r3
  exact wpAny_truthy_bool ⟨H3, I3, q3⟩
/-! ### truth -/
theorem line63 : (sizeLine : Nat) < 2 ^ 63 := by rw [sizeLine_eq]; decide
/-! ### strs and bytes -/
theorem op_add_str : OpR X (binaryOp .Add) (fun x y H Q => ∃ i j, x = .str i ∧ y = .str j ∧ i.length + j.length ≤ sizeLine ∧ Q (.str (i ++ j)) H) := by
  intro pins s σ H x y v u Q I rx ry h
  obtain ⟨i, j, rfl, rfl, hz, q⟩ := h
  obtain ⟨t, rfl⟩ := rx
  obtain ⟨t', rfl⟩ := ry
  exact add_str (fun t' tk => ⟨.str (i ++ j), H, I.tok _, ⟨_, rfl⟩, q⟩) hz
/-! ### scalar builtins, by CallR -/
theorem vals1 {x : V} {us : List Value} (r : Vals [x] us) : ∃ u, us = [u] ∧ RelV x u := by
  cases r with
  | cons r1 r2 => cases r2; exact ⟨_, rfl, r1⟩
theorem vals2 {x y : V} {us : List Value} (r : Vals [x, y] us) : ∃ u w', us = [u, w'] ∧ RelV x u ∧ RelV y w' := by
  cases r with
  | cons r1 r2 =>
    cases r2 with
    | cons r3 r4 => cases r4; exact ⟨_, _, rfl, r1, r3⟩
theorem call_max2 (hc : X.calm = true) : CallR X (.builtin "max") (fun xs H Q => ∃ i j, xs = [.int i, .int j] ∧ Q (.int (if j > i then j else i)) H) := by
  intro pins s σ H xs us Q I r h
  obtain ⟨i, j, rfl, q⟩ := h
  obtain ⟨u, w', rfl, ⟨t, rfl⟩, ⟨t', rfl⟩⟩ := vals2 r
  refine max_two_ints (I.ok.hd hc) fun h' tk k => ⟨_, H, I.kept k, ?_, q⟩
  by_cases hj : j > i
  · rw [if_pos hj, if_pos hj]; exact ⟨_, rfl⟩
  · rw [if_neg hj, if_neg hj]; exact ⟨_, rfl⟩
theorem call_min2 (hc : X.calm = true) : CallR X (.builtin "min") (fun xs H Q => ∃ i j, xs = [.int i, .int j] ∧ Q (.int (if j < i then j else i)) H) := by
  intro pins s σ H xs us Q I r h
  obtain ⟨i, j, rfl, q⟩ := h
  obtain ⟨u, w', rfl, ⟨t, rfl⟩, ⟨t', rfl⟩⟩ := vals2 r
  refine min_two_ints (I.ok.hd hc) fun h' tk k => ⟨_, H, I.kept k, ?_, q⟩
  by_cases hj : j < i
  · rw [if_pos hj, if_pos hj]; exact ⟨_, rfl⟩
  · rw [if_neg hj, if_neg hj]; exact ⟨_, rfl⟩
theorem call_int1 : CallR X (.type "int") (fun xs H Q => (∃ i, xs = [.int i] ∧ Q (.int i) H) ∨ ∃ k, xs = [.bl k] ∧ Q (.int (if k then 1 else 0)) H) := by
  intro pins s σ H xs us Q I r h
  rcases h with ⟨i, rfl, q⟩ | ⟨k, rfl, q⟩
  · obtain ⟨u, rfl, t, rfl⟩ := vals1 r
    exact call_int_int ⟨.int i, H, I, ⟨_, rfl⟩, q⟩
  · obtain ⟨u, rfl, r1⟩ := vals1 r
    cases r1
    exact call_int_bool ⟨.int (if k then 1 else 0), H, I.tok _, ⟨_, rfl⟩, q⟩
end
end L2

namespace L2
open PySem PySem.Spec PyProof.Rows

/-! ### an instance, its attributes a map -/
structure ObjM (h : Heap) (x dx C : Addr) (mA : Str → Option Value) : Prop where
  obj : h.get? x = some (PySem.W.instObj C dx)
  ns : h.Ns1 dx mA
  ne : dx ≠ x

theorem lookIn_ns {h : Heap} {dx : Addr} {mA : Str → Option Value} (n : h.Ns1 dx mA) : ∃ od, h.get? dx = some od ∧ ∀ name, PySem.W.lookIn name od = some (mA name) := by
  obtain ⟨o, es, ep, ho, hd, hk, _, hm⟩ := n
  refine ⟨o, ho, fun name => ?_⟩
  have e := hm name
  unfold nsFind findBy at e
  rw [← Array.find?_toList] at e
  unfold PySem.W.lookIn
  rw [hd]
  dsimp only
  split
  · rename_i y q
    rw [q] at e
    exact congrArg some e
  · rename_i q
    rw [q] at e
    have a : es.toList.any (·.refKey) = false := by
      rw [List.any_eq_false]
      intro y hy
      obtain ⟨z, t, hkey⟩ := hk y (Array.mem_toList_iff.mp hy)
      simp [DictEntry.refKey, hkey]
    have a' : ¬ es.toList.any (·.refKey) = true := by rw [a]; exact Bool.false_ne_true
    rw [if_neg a']
    exact congrArg some e

theorem ObjM.look {h : Heap} {x dx C : Addr} {mA : Str → Option Value} (I : ObjM h x dx C mA) : ∃ od, PySem.W.InstAt h x (PySem.W.instObj C dx) C (some od) ∧ ∀ name, PySem.W.lookIn name od = some (mA name) :=
  let ⟨od, ho, hl⟩ := lookIn_ns I.ns
  ⟨od, ⟨I.obj, rfl, rfl, ho⟩, hl⟩

section
variable {prog : Program} {w : World} {A : Around} {E : Value → Shared → Prop} {s : Shared} {K : PySem.W.Frag} {x dx C f : Addr} {mA : Str → Option Value} {name : Str} {v : Value}

theorem get_map {expr : Bool} {Q : Value → Shared → Prop} (X : K.In s.heap) (I : ObjM s.heap x dx C mA) (hg : PySem.W.plainGet K C name = true) (hh : PySem.W.hasDictIn K C = true)
    (ha : PySem.W.findIn K (.ref C) name = some none) (hv : mA name = some v) (hv' : PySem.W.handedIn v = true) (h : Q v { s with toks := s.toks + 1 }) :
    wpAny (model prog w) A (getAttr (.ref x) name expr) Q E s := by
  obtain ⟨od, J, hl⟩ := I.look
  exact PySem.W.get_value X J (PySem.W.plainGet_of hg).1 (PySem.W.findObj_own hh ha rfl (by rw [hl, hv])) hv' h

theorem get_meth {pl : Sem Bool} {Q : Value × List Value → Shared → Prop} (X : K.In s.heap) (I : ObjM s.heap x dx C mA) (hg : PySem.W.plainGet K C name = true)
    (hf : PySem.W.findIn K (.ref C) name = some (some (.ref f))) (ht : PySem.W.isFn K (.ref f) = true) (hv : mA name = none) (h : Q (.ref f, [.ref x]) s) :
    wpAny (model prog w) A (getMethod (.ref x) name pl) Q E s := by
  obtain ⟨od, J, hl⟩ := I.look
  exact PySem.W.method_fn X J (PySem.W.plainGet_of hg).1 (PySem.W.plainGet_of hg).2 hf (beq_iff_eq.mp ht) (by show (PySem.W.lookIn name od).map (·.isSome) = some false; rw [hl, hv]; rfl) h

theorem set_map {ns : List Str} {Q : Unit → Shared → Prop} (X : K.In s.heap) (I : ObjM s.heap x dx C mA)
    (hs : PySem.W.findIn K (.ref C) "__setattr__" = some (some (.builtin "object.__setattr__"))) (hp : PySem.W.plainOver K C = true) (ht : PySem.W.takerIn K C name = some none) (hh : PySem.W.hasDictIn K C = true)
    (hw : PySem.Within mA ns) (hsz : ns.length ≤ sizeLine)
    (h : ∀ h', ObjM h' x dx C (fun y => if y = name then some v else mA y) → Heap.SameBut dx s.heap h' → Q () { s with heap := h', toks := s.toks + 2 }) :
    wpAny (model prog w) A (setAttr (.ref x) name v) Q E s := by
  obtain ⟨od, J, hl⟩ := I.look
  refine PySem.W.set_plain X J hs (PySem.W.osa_open (s := { s with toks := s.toks + 1 }) (r := none) X J hp ht fun b => ?_)
  obtain ⟨cd, hc, hd'⟩ := PySem.W.any_some hh
  have hx : s.heap.get? x = some ⟨.ref C, some dx, .plain, #[]⟩ := I.obj
  refine wpAny_bind (wpAny_pure (wpAny_bind (wpAny_bind (wpAny_loadPart hx (wpAny_bind (PySem.W.Looks.here (s := { s with toks := s.toks + 1 }) (PySem.W.looks_clsIn X hc) ?_))))))
  rw [hd']
  refine wpAny_pure (a := some dx) (wpAny_bind (wpAny_pure (wpAny_bind ?_)))
  refine wpAny_nsSet1 (s := { s with toks := s.toks + 1 }) I.ns fun h' hn2 hs2 => ?_
  obtain ⟨oD, esD, epD, hoD, hdD, hcD⟩ := hn2.count (PySem.Within.cons name v hw)
  refine wpAny_bind (wpAny_lookBehind hoD (by rw [hdD]; exact pastItsLine_dict (Nat.le_trans hcD (by rw [List.length_cons]; omega))) ?_)
  exact wpAny_pure (h _ ⟨(hs2.2 _ (Ne.symm I.ne)).trans I.obj, hn2, I.ne⟩ hs2)

/-- C(..): the dict at the heap's end, the instance behind it; then its __init__ -/
theorem make_map {R : Result → Shared → Prop} {vs : List Value} {kw : List (Str × Value)} (X : K.In s.heap) (hm : PySem.W.makesIn K C = true)
    (hi : PySem.W.findIn K (.ref C) "__init__" = some (some (.ref f))) (hf : PySem.W.typeIn K (.ref f) = some (.type "function"))
    (h : codeAny (model prog w) (A.under (.builtin "type.__call__" ⟨.ref C :: vs, kw⟩)) (.call (.ref f) ⟨.ref (s.heap.objs.size + 1) :: vs, kw⟩) (PySem.W.InitBack (s.heap.objs.size + 1) R)
      { s with heap := (s.heap.push PySem.W.emptyDict).push (PySem.W.instObj C s.heap.objs.size) }) :
    codeAny (model prog w) A (.call (.ref C) ⟨vs, kw⟩) R s := by
  obtain ⟨hh, g, d, t, os⟩ := s
  exact PySem.W.make_core (PySem.W.makes_of X hm) (PySem.W.looks_findIn X hi) (fun self => PySem.W.bind_fn X self hf) (.inl rfl) h
/-- C() where there is no __init__ but object's -/
theorem make_map0 {R : Result → Shared → Prop} (X : K.In s.heap) (hm : PySem.W.makesIn K C = true)
    (hi : PySem.W.findIn K (.ref C) "__init__" = some (some (.builtin "object.__init__")))
    (hb : ∀ self, PySem.W.Looks (model prog w) s.heap (bindSpecial (.builtin "object.__init__") self) (.builtin "object.__init__", [self]))
    (h : codeAny (model prog w) (A.under (.builtin "type.__call__" ⟨[.ref C], []⟩)) (.call (.builtin "object.__init__") ⟨[.ref (s.heap.objs.size + 1)], []⟩) (PySem.W.InitBack (s.heap.objs.size + 1) R)
      { s with heap := (s.heap.push PySem.W.emptyDict).push (PySem.W.instObj C s.heap.objs.size) }) :
    codeAny (model prog w) A (.call (.ref C) ⟨[], []⟩) R s := by
  obtain ⟨hh, g, d, t, os⟩ := s
  exact PySem.W.make_core (PySem.W.makes_of X hm) (PySem.W.looks_findIn X hi) hb (.inr ⟨rfl, rfl⟩) h
end

/-! ### the attributes as a list of pairs -/
def putF (f : Str) (v : V) : List (Str × V) → List (Str × V)
  | [] => [(f, v)]
  | (g, x) :: r => if g = f then (g, v) :: r else (g, x) :: putF f v r
theorem lookup_putF (f g : Str) (v : V) : ∀ fs : List (Str × V), (putF f v fs).lookup g = if g = f then some v else fs.lookup g
  | [] => by
    show List.lookup g [(f, v)] = _
    by_cases h : g = f
    · have hb : (g == f) = true := beq_iff_eq.mpr h
      simp only [List.lookup, hb, if_pos h]
    · have hb : (g == f) = false := beq_eq_false_iff_ne.mpr h
      simp only [List.lookup, hb, if_neg h]
  | (k, x) :: r => by
    have ih := lookup_putF f g v r
    rw [show putF f v ((k, x) :: r) = (if k = f then (k, v) :: r else (k, x) :: putF f v r) from rfl]
    by_cases hk : k = f
    · rw [if_pos hk]
      by_cases h : g = k
      · have hb : (g == k) = true := beq_iff_eq.mpr h
        simp only [List.lookup, hb, if_pos (h.trans hk)]
      · have hb : (g == k) = false := beq_eq_false_iff_ne.mpr h
        simp only [List.lookup, hb, if_neg (fun e : g = f => h (e.trans hk.symm))]
    · rw [if_neg hk]
      by_cases h : g = k
      · have hb : (g == k) = true := beq_iff_eq.mpr h
        simp only [List.lookup, hb, if_neg (fun e : g = f => hk (h.symm.trans e))]
      · have hb : (g == k) = false := beq_eq_false_iff_ne.mpr h
        simp only [List.lookup, hb]
        exact ih
theorem keys_putF (f : Str) (v : V) : ∀ fs : List (Str × V), f ∈ (putF f v fs).map (·.1) ∧ ∀ g, g ∈ fs.map (·.1) → g ∈ (putF f v fs).map (·.1)
  | [] => ⟨by simp [putF], fun g h => by simp at h⟩
  | (k, x) :: r => by
    obtain ⟨i1, i2⟩ := keys_putF f v r
    rw [show putF f v ((k, x) :: r) = (if k = f then (k, v) :: r else (k, x) :: putF f v r) from rfl]
    by_cases hk : k = f
    · rw [if_pos hk]
      subst hk
      exact ⟨by simp, fun g h => by simpa using h⟩
    · rw [if_neg hk]
      refine ⟨?_, fun g h => ?_⟩
      · rw [List.map_cons]
        exact List.mem_cons_of_mem _ i1
      · rw [List.map_cons] at h ⊢
        rcases List.mem_cons.mp h with e | e
        · exact List.mem_cons.mpr (.inl e)
        · exact List.mem_cons_of_mem _ (i2 g e)
theorem length_putF (f : Str) (v : V) : ∀ fs : List (Str × V), (putF f v fs).length ≤ fs.length + 1
  | [] => by simp [putF]
  | (k, x) :: r => by
    have ih := length_putF f v r
    rw [show putF f v ((k, x) :: r) = (if k = f then (k, v) :: r else (k, x) :: putF f v r) from rfl]
    by_cases hk : k = f
    · rw [if_pos hk, List.length_cons, List.length_cons]; omega
    · rw [if_neg hk, List.length_cons, List.length_cons]; omega

theorem RelO.some_of {v : V} {o : Option Value} (r : RelO (some v) o) : ∃ u, o = some u ∧ RelV v u := by
  cases o with
  | none => exact (show False from r).elim
  | some u => exact ⟨u, rfl, r⟩
theorem RelO.none_of {o : Option Value} (r : RelO none o) : o = none := by
  cases o with
  | none => rfl
  | some u => exact (show False from r).elim
theorem handed_of {v : V} {u : Value} (r : RelV v u) : PySem.W.handedIn u = true := by
  cases v with
  | non => cases (show u = Value.none from r); rfl
  | bl b => cases (show u = Value.bool b from r); rfl
  | int i => obtain ⟨t, e⟩ := (show ∃ t, u = Value.int i t from r); cases e; rfl
  | str x => obtain ⟨t, e⟩ := (show ∃ t, u = Value.str x t from r); cases e; rfl
  | byt b => obtain ⟨t, e⟩ := (show ∃ t, u = Value.bytes b t from r); cases e; rfl
  | flt b => obtain ⟨t, e⟩ := (show ∃ t, u = Value.float b t from r); cases e; rfl
  | ref a => cases (show u = Value.ref a from r); rfl
  | ty n => cases (show u = Value.type n from r); rfl

section
variable {P : Program} {w : World} {H H' : Hp} {h h' : Heap} {a C dx : Addr} {fs fs' : List (Str × V)}
theorem ins_get (hok : HOk P w H h) (e : H a = some (.ins C dx fs)) : ∃ mA, ObjM h a dx C mA ∧ (∀ f, RelO (fs.lookup f) (mA f)) ∧ PySem.Within mA (fs.map (·.1)) ∧ fs.length ≤ 1000 ∧ H dx = some (.own a) := by
  obtain ⟨d, z, ne, ob, mA, n, r, q⟩ := (show ObjOk P w H h a (.ins C dx fs) from hok a _ e)
  exact ⟨mA, ⟨ob, n, ne⟩, r, q, z, d⟩
end

/-! ### what of the text a class must have -/
structure Cls (K : PySem.W.Frag) (C : Addr) : Prop where
  pg : PySem.W.plainGet K C Str.empty = true
  hd : PySem.W.hasDictIn K C = true
  po : PySem.W.plainOver K C = true
  sa : PySem.W.findIn K (.ref C) "__setattr__" = some (some (.builtin "object.__setattr__"))
theorem Cls.get {K : PySem.W.Frag} {C : Addr} (c : Cls K C) (f : Str) : PySem.W.plainGet K C f = true := c.pg
/-- no class of it has the name -/
def NoAttr (K : PySem.W.Frag) (C : Addr) (f : Str) : Prop := PySem.W.findIn K (.ref C) f = some none
theorem NoAttr.taker {K : PySem.W.Frag} {C : Addr} {f : Str} (n : NoAttr K C f) : PySem.W.takerIn K C f = some none := by
  unfold PySem.W.takerIn
  rw [show PySem.W.findIn K (.ref C) f = some none from n]
  rfl
/-- a method: a plain def of the class or of one above it -/
structure Meth (K : PySem.W.Frag) (C : Addr) (m : Str) (f : Addr) : Prop where
  at_ : PySem.W.findIn K (.ref C) m = some (some (.ref f))
  fn : PySem.W.isFn K (.ref f) = true
  kp : PySem.W.keepIn K (.ref f) = true

section
variable {X : Cx} {pins : List (Addr × Obj)} {σ : St} {H : Hp} {s : Shared} {a C dx : Addr} {fs : List (Str × V)} {f : Str} {v : V} {A : Around} {E : Value → Shared → Prop}

theorem getattr_ok {b : Bool} {Q : Value → Shared → Prop} (I : Inv X pins σ H s) (e : H a = some (.ins C dx fs)) (c : Cls X.K C) (n : NoAttr X.K C f) (l : fs.lookup f = some v)
    (h : ∀ u s', Inv X pins σ H s' → RelV v u → Q u s') : wpAny (model X.prog X.w) A (getAttr (.ref a) f b) Q E s := by
  obtain ⟨mA, O, r, _, _, _⟩ := ins_get I.hok e
  obtain ⟨u, hu, ru⟩ := RelO.some_of (v := v) (o := mA f) (by rw [← l]; exact r f)
  exact get_map I.kIn O (c.get f) c.hd n hu (handed_of ru) (h u _ (I.tok _) ru)

theorem getmeth_ok {m : Str} {g : Addr} {pl : Sem Bool} {Q : Value × List Value → Shared → Prop} (I : Inv X pins σ H s) (e : H a = some (.ins C dx fs)) (c : Cls X.K C) (k : Meth X.K C m g) (l : fs.lookup m = none)
    (h : Q (.ref g, [.ref a]) s) : wpAny (model X.prog X.w) A (getMethod (.ref a) m pl) Q E s := by
  obtain ⟨mA, O, r, _, _, _⟩ := ins_get I.hok e
  have hn : mA m = none := RelO.none_of (by rw [← l]; exact r m)
  exact get_meth I.kIn O (c.get m) k.at_ k.fn hn h

theorem setattr_ok {y : V} {u : Value} {Q : Unit → Shared → Prop} (I : Inv X pins σ H s) (e : H a = some (.ins C dx fs)) (c : Cls X.K C) (n : NoAttr X.K C f) (hl : fs.length < 1000) (ry : RelV y u)
    (h : ∀ s', Inv X pins σ (upd H a (.ins C dx (putF f y fs))) s' → Q () s') : wpAny (model X.prog X.w) A (setAttr (.ref a) f u) Q E s := by
  obtain ⟨mA, O, r, wi, _, ho⟩ := ins_get I.hok e
  have hz : (fs.map (·.1)).length ≤ sizeLine := by rw [List.length_map, sizeLine_eq]; omega
  refine set_map I.kIn O c.sa c.po n.taker c.hd wi hz fun h' O' sb => h _ ?_
  have hd : ∃ o, h'.get? dx = some o := let ⟨o, _, _, e', _⟩ := O'.ns; ⟨o, e'⟩
  refine I.write (x := a) (e := dx) (by rw [e]; exact True.intro) (.inr ho) (fun b q hb z => (sb.2 b hb).trans z) hd ?_
  refine ⟨by rw [upd_ne O.ne]; exact ho, ?_, O.ne, O'.obj, _, O'.ns, fun g => ?_, fun g hg => ?_⟩
  · have := length_putF f y fs; omega
  · show RelO ((putF f y fs).lookup g) (if g = f then some u else mA g)
    rw [lookup_putF]
    by_cases q : g = f
    · rw [if_pos q, if_pos q]; exact ry
    · rw [if_neg q, if_neg q]; exact r g
  · by_cases q : g = f
    · rw [q]; exact (keys_putF f y fs).1
    · refine (keys_putF f y fs).2 g (wi g fun z => hg ?_)
      show (if g = f then some u else mA g) = none
      rw [if_neg q]; exact z

/-- a new instance, tracked, without attributes -/
theorem Inv.made (I : Inv X pins σ H s) : Inv X pins σ (upd (upd H s.heap.objs.size (.own (s.heap.objs.size + 1))) (s.heap.objs.size + 1) (.ins C s.heap.objs.size []))
    { s with heap := (s.heap.push PySem.W.emptyDict).push (PySem.W.instObj C s.heap.objs.size) } := by
  have e1 : (s.heap.push PySem.W.emptyDict).get? s.heap.objs.size = some PySem.W.emptyDict := Heap.get?_push_size s.heap rfl
  have e2 : ((s.heap.push PySem.W.emptyDict).push (PySem.W.instObj C s.heap.objs.size)).get? (s.heap.objs.size + 1) = some (PySem.W.instObj C s.heap.objs.size) := by
    have := Heap.get?_push_size (s.heap.push PySem.W.emptyDict) (o := PySem.W.instObj C s.heap.objs.size) rfl
    rwa [Heap.size_push] at this
  have e3 : (s.heap.push PySem.W.emptyDict).Ns s.heap.objs.size (fun _ => none) := ⟨PySem.W.emptyDict, #[], _, e1, rfl, (fun e he => absurd he (by simp)), fun _ => rfl⟩
  have I1 := I.laid (a := s.heap.objs.size) (o := .own (s.heap.objs.size + 1)) (h' := s.heap.push PySem.W.emptyDict) (t' := s.toks) (fun b u q => Heap.get?_push_of_some _ q) (Nat.le_refl _) ⟨_, e1⟩
  refine I1.laid (a := s.heap.objs.size + 1) (o := .ins C s.heap.objs.size []) (t' := s.toks) (fun b u q => Heap.get?_push_of_some _ q) (Nat.le_of_eq (Heap.size_push _ _)) ?_
  have ne : s.heap.objs.size ≠ s.heap.objs.size + 1 := Nat.ne_of_lt (Nat.lt_succ_self _)
  refine ⟨by rw [upd_ne ne, upd_same], Nat.zero_le _, ne, e2, fun _ => none, (Heap.Ns1.of_empty e3).at fun o q => Heap.get?_push_of_some _ q, fun _ => True.intro, fun y hy => absurd rfl hy⟩

/-- e.f where nothing but the object is asked: through attributeBase (super) and the last hold -/
theorem attr_of {prog : Program} {w : World} {env : Env} {e : Expr} {f : Str} {pos : Pos} {s : Shared} {Q : Value → Shared → Prop} (hb : attributeBase e f env (eval e env) = eval e env)
    (h : wpAny (model prog w) A (eval e env) (fun o s₁ => wpAny (model prog w) A (getAttr o f true) Q E s₁) E s) : wpAny (model prog w) A (eval (.Attribute e f pos) env) Q E s :=
  Attribute_any_ h (by rw [arm_eval_Attribute, hb])
end

/-! ### readings and rules -/
/-- e.f, an attribute of the instance -/
def tFld (K : PySem.W.Frag) (ta : TE) (f : Str) : TE := fun σ H Q => ta σ H fun x H1 => ∃ a C dx fs v, x = .ref a ∧ H1 a = some (.ins C dx fs) ∧ Cls K C ∧ NoAttr K C f ∧ fs.lookup f = some v ∧ Q v H1
/-- e.f = value -/
def sFld (K : PySem.W.Frag) (ta tv : TE) (f : Str) : TS := fun D σ H => tv σ H fun y H1 => ta σ H1 fun x H2 => ∃ a C dx fs, x = .ref a ∧ H2 a = some (.ins C dx fs) ∧ Cls K C ∧ NoAttr K C f ∧ fs.length < 1000 ∧
  D.nx σ (upd H2 a (.ins C dx (putF f y fs)))
section
variable {X : Cx} {o e value : Expr} {f : Str} {pos pos' tpos : Pos} {ta tv : TE}
theorem pe_fld (he : PE X e ta) (hb : attributeBase e f X.env (eval e X.env) = eval e X.env) : PE X (.Attribute e f pos) (tFld X.K ta f) := by
  intro pins s σ H Q I h
  refine attr_of hb (thn (he pins s σ H _ I h) fun u s1 ⟨x, H1, I1, rx, a, C, dx, fs, v, ex, ea, c, n, l, q⟩ => ?_)
  subst ex
  obtain rfl : u = Value.ref a := rx
  exact getattr_ok I1 ea c n l fun u' s2 I2 ru => ⟨v, H1, I2, ru, q⟩
theorem ps_fld (ha : PE X o ta) (hv : PE X value tv) (hs : swapsWith value (some (.Attribute o f pos')) pos.line X.env = pure false) : PS X (.Assign [.Attribute o f pos'] value pos) (sFld X.K ta tv f) := by
  intro pins s σ H D I h
  refine plainObj_wpAny_Assign_Attribute (thn (hv pins s σ H _ I h) fun u s1 ⟨y, H1, I1, ry, q⟩ => thn (ha pins s1 σ H1 _ I1 q) fun ov s2 ⟨x, H2, I2, rx, a, C, dx, fs, ex, ea, c, n, l, q2⟩ => ?_) hs
  subst ex
  obtain rfl : ov = Value.ref a := rx
  exact setattr_ok I2 ea c n l ry fun s3 I3 => ⟨σ, _, I3, q2⟩
end

/-! ### isinstance -/
section
variable {X : Cx} {pins : List (Addr × Obj)} {σ : St} {H : Hp} {s : Shared} {A : Around} {E : Value → Shared → Prop} {Q : Value → Shared → Prop} {c : Value} {b : Bool}
/-- the type of a value, as the fragment's deciders take it; for an instance its class -/
inductive TyOf (K : PySem.W.Frag) (H : Hp) : V → Value → Prop where
  | non : TyOf K H .non (.type "NoneType")
  | bl (x : Bool) : TyOf K H (.bl x) (.type "bool")
  | int (i : Int) : TyOf K H (.int i) (.type "int")
  | str (x : Str) : TyOf K H (.str x) (.type "str")
  | flt (x : UInt64) : TyOf K H (.flt x) (.type "float")
  | lst {a : Addr} {xs : List V} (e : H a = some (.lst xs)) : TyOf K H (.ref a) (.type "list")
  | frz {a : Addr} {o : Obj} {xs : List V} (e : H a = some (.frz o (.lst xs))) : TyOf K H (.ref a) (.type "list")
  | tup {a : Addr} {xs : List V} (e : H a = some (.tup xs)) : TyOf K H (.ref a) (.type "tuple")
  | dK {a : Addr} {kvs : List (Key × V)} (e : H a = some (.dK kvs)) : TyOf K H (.ref a) (.type "dict")
  | dT {a : Addr} {kvs : List (List Key × V)} (e : H a = some (.dT kvs)) : TyOf K H (.ref a) (.type "dict")
  | ins {a C dx : Addr} {fs : List (Str × V)} (e : H a = some (.ins C dx fs)) (cl : Cls K C) (ha : PySem.W.findIn K (.ref C) "__class__" = some (some (.builtin "object.__class__")))
      (hn : PySem.W.specialIn K (.builtin "object.__class__") "__get__" = some (some (.builtin "getset_descriptor.__get__"))) (htk : PySem.W.takesIn K (.builtin "object.__class__") = some true)
      (hm : PySem.W.mroIn K C (.type "object") = some true) : TyOf K H (.ref a) (.ref C)
/-- isinstance(x, c) for one class c, a built-in or an own one: kitOne's answer -/
theorem isinst_ok {x : V} {u t : Value} (I : Inv X pins σ H s) (rx : RelV x u) (ty : TyOf X.K H x t) (e : PySem.W.kitOne X.K t c = some b) (h : ∀ tk, Q (.bool b) { s with toks := tk }) :
    wpAny (model X.prog X.w) A (call (.builtin "isinstance") [u, c]) Q E s := by
  cases ty with
  | non => cases (show u = Value.none from rx); exact PySem.W.kia_one PySem.W.kitx_none I.kIn True.intro e (fun z => nomatch z) h
  | bl y => cases (show u = Value.bool y from rx); exact PySem.W.kia_one PySem.W.kitx_bool I.kIn True.intro e (fun z => nomatch z) h
  | int i => obtain ⟨t, q⟩ := (show ∃ t, u = Value.int i t from rx); cases q; exact PySem.W.kia_one PySem.W.kitx_int I.kIn True.intro e (fun z => nomatch z) h
  | str y => obtain ⟨t, q⟩ := (show ∃ t, u = Value.str y t from rx); cases q; exact PySem.W.kia_one PySem.W.kitx_str I.kIn True.intro e (fun z => nomatch z) h
  | flt y => obtain ⟨t, q⟩ := (show ∃ t, u = Value.float y t from rx); cases q; exact PySem.W.kia_one PySem.W.kitx_float I.kIn True.intro e (fun z => nomatch z) h
  | @lst a xs ea =>
    cases (show u = Value.ref a from rx)
    obtain ⟨_, _, n, _, h1⟩ := (show ObjOk X.prog X.w H s.heap a (.lst xs) from I.hok a _ ea)
    exact PySem.W.kia_one PySem.W.kitx_list I.kIn ⟨_, h1, rfl⟩ e (fun z => nomatch z) h
  | @frz a ob xs ea =>
    cases (show u = Value.ref a from rx)
    obtain ⟨_, _, _, n, _, h1⟩ := (show ObjOk X.prog X.w H s.heap a (.frz ob (.lst xs)) from I.hok a _ ea)
    exact PySem.W.kia_one PySem.W.kitx_list I.kIn ⟨_, h1, rfl⟩ e (fun z => nomatch z) h
  | @tup a xs ea =>
    cases (show u = Value.ref a from rx)
    obtain ⟨_, _, _, p⟩ := (show ObjOk X.prog X.w H s.heap a (.tup xs) from I.hok a _ ea)
    obtain ⟨o, h1, h2, _⟩ := p
    exact PySem.W.kia_one PySem.W.kitx_tuple I.kIn ⟨o, h1, h2⟩ e (fun z => nomatch z) h
  | @dK a kvs ea =>
    cases (show u = Value.ref a from rx)
    obtain ⟨_, _, vs, _, p⟩ := (show ObjOk X.prog X.w H s.heap a (.dK kvs) from I.hok a _ ea)
    obtain ⟨o, es, ep, h1, h2, _⟩ := p
    exact PySem.W.kia_one PySem.W.kitx_dict I.kIn ⟨o, h1, h2.1⟩ e (fun z => nomatch z) h
  | @dT a kvs ea =>
    cases (show u = Value.ref a from rx)
    obtain ⟨_, _, xs, _, o, es, ep, h1, h2, _⟩ := (show ObjOk X.prog X.w H s.heap a (.dT kvs) from I.hok a _ ea)
    exact PySem.W.kia_one PySem.W.kitx_dict I.kIn ⟨o, h1, h2.1⟩ e (fun z => nomatch z) h
  | @ins a C dx fs ea cl ha hn htk hm =>
    cases (show u = Value.ref a from rx)
    obtain ⟨mA, O, _⟩ := ins_get I.hok ea
    obtain ⟨od, J, _⟩ := O.look
    exact PySem.W.kia_one (PySem.W.kitx_own (cl.get _) cl.hd ha hn htk hm) I.kIn J e (fun z => nomatch z) h
end
end L2

namespace L2
open PySem PySem.Spec PyProof.Rows

/-! ### room -/
structure Room (k : Nat) (A : Around) : Prop where
  hd : A.handled = none
  dp : A.depth + 3 * k + 5 < recursionLimit
  un : A.units + 16 * k + 200 < cLine
theorem Room.mono {j k : Nat} {A : Around} (r : Room k A) (h : j ≤ k) : Room j A := ⟨r.hd, by have := r.dp; omega, by have := r.un; omega⟩
theorem Room.deeper {k : Nat} {A : Around} (r : Room (k + 1) A) (env : Env) : Room k (A.deeper env) :=
  ⟨r.hd, by have := r.dp; show A.depth + 1 + 3 * k + 5 < _; omega, by have := r.un; show A.units + 3 + 16 * k + 200 < _; omega⟩
theorem make_depth {A : Around} {C : Addr} {us : List Value} {kw : List (Str × Value)} : (A.under (.builtin "type.__call__" ⟨.ref C :: us, kw⟩)).depth = A.depth + 1 := by
  first | rfl | simp [Around.under, Code.weight, Code.isCreation, Code.isGuard, Code.isCaller, Code.frames, Code.isFrame, guardIds]
theorem make_units {A : Around} {C : Addr} {us : List Value} {kw : List (Str × Value)} : (A.under (.builtin "type.__call__" ⟨.ref C :: us, kw⟩)).units = A.units + 1 := by
  first | rfl | simp [Around.under, Code.cUnits, Code.frames, Code.isFrame]
theorem Room.make {k : Nat} {A : Around} (r : Room (k + 1) A) (C : Addr) (us : List Value) (kw : List (Str × Value)) : Room k (A.under (.builtin "type.__call__" ⟨.ref C :: us, kw⟩)) :=
  ⟨r.hd, by have := r.dp; rw [make_depth]; omega, by have := r.un; rw [make_units]; omega⟩
theorem Room.depth {k : Nat} {A : Around} (r : Room k A) : A.depth < recursionLimit := by have := r.dp; omega
theorem Room.units {k : Nat} {A : Around} (r : Room k A) : A.units + 64 < cLine := by have := r.un; omega
/-! ### argument lists and displays -/
def tNil : TA := fun _ H Q => Q [] H
def tCons (ta : TE) (tr : TA) : TA := fun σ H Q => ta σ H fun x H1 => tr σ H1 fun xs H2 => Q (x :: xs) H2
section
variable {X : Cx} {e : Expr} {es : List Expr} {te : TE} {t : TA} {pos : Pos}
theorem pa_nil : PA X [] tNil := fun _ _ _ _ H Q I h => Calls.spliced_nil ⟨[], H, I, .nil, h⟩
theorem pa_cons (ha : PE X e te) (hr : PA X es t) (hs : starEach (e :: es) X.env = (false, eval e X.env) :: starEach es X.env := by rfl) : PA X (e :: es) (tCons te t) := by
  intro pos pins s σ H Q I h
  rw [hs]
  show wpAny _ _ (spliced ((false, eval e X.env) :: backTo pos (starEach es X.env))) _ _ s
  refine Calls.spliced_cons (thn (ha pins s σ H _ I h) fun u s1 ⟨x, H1, I1, r1, q1⟩ => ?_)
  exact thn (hr pos pins s1 σ H1 _ I1 q1) fun us s2 ⟨xs, H2, I2, r2, q2⟩ => ⟨x :: xs, H2, I2, .cons r1 r2, q2⟩

/-- a tuple, a list of written items -/
def tTup (t : TA) : TE := fun σ H Q => t σ H fun xs H1 => xs.length ≤ sizeLine ∧ ∀ p, H1 p = none → Q (.ref p) (upd H1 p (.tup xs))
def tLst (t : TA) : TE := fun σ H Q => t σ H fun xs H1 => xs.length ≤ sizeLine ∧ ∀ p, H1 p = none → Q (.ref p) (upd H1 p (.lst xs))
theorem pe_tup {x1} (h : PA X es t) : PE X (.Tuple es x1 pos) (tTup t) := by
  intro pins s σ H Q I hq
  refine wpAny_Tuple_spliced (thn (h pos pins s σ H _ I hq) fun us s1 ⟨xs, H1, I1, r, z, q⟩ => ⟨by rw [← r.length]; exact z, ?_⟩)
  have hf : H1 s1.heap.objs.size = none := I1.hok.fresh (Nat.le_refl _)
  refine ⟨.ref s1.heap.objs.size, upd H1 s1.heap.objs.size (.tup xs), I1.laid (t' := s1.toks) (fun b u e => Heap.get?_push_of_some _ e) (Nat.le_refl _) ?_, rfl, q _ hf⟩
  exact ⟨z, us, r, ⟨_, Heap.get?_push_size _ rfl, rfl, _, rfl⟩⟩
theorem pe_lst (h : PA X es t) : PE X (.List es pos) (tLst t) := by
  intro pins s σ H Q I hq
  refine wpAny_List_spliced (thn (h pos pins s σ H _ I hq) fun us s1 ⟨xs, H1, I1, r, z, q⟩ => ⟨by rw [← r.length]; exact z, ?_⟩)
  have hf : H1 s1.heap.objs.size = none := I1.hok.fresh (Nat.le_refl _)
  refine ⟨.ref s1.heap.objs.size, upd H1 s1.heap.objs.size (.lst xs), I1.laid (t' := s1.toks) (fun b u e => Heap.get?_push_of_some _ e) (Nat.le_refl _) ?_, rfl, q _ hf⟩
  exact ⟨z, us, 0, r, Heap.get?_push_size _ rfl⟩
end

/-! ### what a def promises -/
/-- a def's promise: the bound arguments in the parameters' order, the heap, the wanted end, the wanted exception -/
abbrev Sp := List V → Hp → VK → XK → Prop
/-- how an exception lies behind a call (file 08 gives it): the callers' frames, abstract heap and state ahead of the call, the wish, the exception, the state -/
abbrev CXT := List Env → Hp → Shared → XK → Value → Shared → Prop

/-- the state at a call -/
structure Env0 (P : Program) (w : World) (K : PySem.W.Frag) (mg : Str → Option Value) (base : Heap) (A : Around) (outer : List Env) (s : Shared) (H : Hp) : Prop where
  frames : A.frames = some outer
  mod : Mod K mg base
  bs : ∀ b o, base.get? b = some o → s.heap.get? b = some o ∧ H b = none
  bsz : base.objs.size ≤ s.heap.objs.size
  funs : s.heap.FunFrames base outer
  frf : ∀ b ∈ frs outer, H b = none
  hok : HOk P w H s.heap
  bare : AllBare s.gens
/-- a call's end -/
def CE (outer : List Env) (P : Program) (w : World) (H : Hp) (s : Shared) (Q : VK) (u : Value) (s' : Shared) : Prop :=
  ∃ v H', s'.os = s.os ∧ AllBare s'.gens ∧ Un (frs outer) [] H H' s.heap s'.heap ∧ HOk P w H' s'.heap ∧ RelV v u ∧ Q v H'
def CR (CX : CXT) (outer : List Env) (P : Program) (w : World) (H : Hp) (s : Shared) (Q : VK) (E : XK) (r : Result) (s' : Shared) : Prop :=
  match r with
  | .ok (.ret u) => CE outer P w H s Q u s'
  | .ok _ => False
  | .error e => CX outer H s E e s'
structure FnOk (P : Program) (w : World) (K : PySem.W.Frag) (mg : Str → Option Value) (base : Heap) (CX : CXT) (k : Nat) (f : Addr) (fd : FuncData) (ps : List Str) (sp : Sp) : Prop where
  len : ∀ vs H Q E, sp vs H Q E → vs.length = ps.length
  run : ∀ (A : Around) (outer : List Env) (s : Shared) (H : Hp) (args : Args) (us : List Value) (vs : List V) (Q : VK) (E : XK), Room k A → Env0 P w K mg base A outer s H → BindsTo s fd args (ps.zip us) → Vals vs us → sp vs H Q E →
    codeAny (model P w) A (.call (.ref f) args) (CR CX outer P w H s Q E) s
theorem Env0.make {P : Program} {w : World} {K : PySem.W.Frag} {mg : Str → Option Value} {base : Heap} {A : Around} {outer : List Env} {s : Shared} {H : Hp} (e : Env0 P w K mg base A outer s H) (C : Addr) (us : List Value) (kw : List (Str × Value)) :
    Env0 P w K mg base (A.under (.builtin "type.__call__" ⟨.ref C :: us, kw⟩)) outer s H := ⟨by first | exact e.frames | (simpa [Around.under, Code.envs, Code.isFrame, pushEnvs] using e.frames), e.mod, e.bs, e.bsz, e.funs, e.frf, e.hok, e.bare⟩
section
variable {X : Cx} {pins : List (Addr × Obj)} {σ : St} {H : Hp} {s s' : Shared}
/-- from a body: what a callee wants -/
theorem Inv.env0 (I : Inv X pins σ H s) : Env0 X.prog X.w X.K X.mg X.base X.A X.stack s H :=
  ⟨I.ok.frames, I.ok.mod, I.bs, Nat.le_trans I.ok.bsz I.sz, I.stack, I.stkFree, I.hok, I.bare⟩
/-- behind a call -/
theorem Inv.after {Q : VK} {u : Value} (I : Inv X pins σ H s) (h : CE X.stack X.prog X.w H s Q u s') : EP X pins σ Q u s' := by
  obtain ⟨v, H', os, bare, un, hok, r, q⟩ := h
  obtain ⟨hh, g, d, t, os'⟩ := s'
  obtain rfl : os' = s.os := os
  exact ⟨v, H', I.call (h' := hh) (g' := g) (d' := d) (t' := t) (ch := []) un hok bare (fun b z => absurd z (by simp)), r, q⟩
end

/-! ### calls -/
/-- f(..): the written arguments, then the defaults dvs; E: what is wanted of an exception -/
def tCall (sp : Sp) (dvs : List V) (E : XK) (t : TA) : TE := fun σ H Q => t σ H fun vs H1 => sp (vs ++ dvs) H1 Q E
/-- o.m(..) of an instance of the class at C -/
def tMeth (C : Addr) (m : Str) (sp : Sp) (dvs : List V) (E : XK) (ta : TE) (t : TA) : TE := fun σ H Q => ta σ H fun x H1 => ∃ a dx fs, x = .ref a ∧ H1 a = some (.ins C dx fs) ∧ fs.lookup m = none ∧
  t σ H1 fun vs H2 => sp (x :: (vs ++ dvs)) H2 Q E
/-- how the parameters are bound: us the positional arguments, kw the keywords' values by name, ds the defaults that fill up -/
def Binds (K : PySem.W.Frag) (fd : FuncData) (ps : List Str) (ds : List Value) : Prop :=
  ∀ (s : Shared) (us : List Value), K.In s.heap → (us ++ ds).length = ps.length → BindsTo s fd ⟨us, []⟩ (ps.zip (us ++ ds))
/-- every parameter is given -/
theorem Binds.all {K : PySem.W.Frag} {fd : FuncData} {ps : List Str} (h : ∀ us : List Value, us.length = ps.length → bindArgs fd ⟨us, []⟩ = pure (ps.zip us)) : Binds K fd ps [] := fun s us _ hl => by
  rw [List.append_nil] at hl ⊢
  exact .of_eq (h us hl)

/-- an exception of a callee reaches what this body wants of exceptions -/
def Passes (CX : CXT) (X : Cx) (E : XK) : Prop := ∀ (pins : List (Addr × Obj)) (σ : St) (H : Hp) (s : Shared) (e : Value) (s' : Shared), Inv X pins σ H s → CX X.stack H s E e s' → X.xe e s'

section
variable {X : Cx} {CX : CXT} {k : Nat} {f C : Addr} {fd : FuncData} {ps : List Str} {sp : Sp} {dvs : List V} {ds : List Value} {E : XK} {x m : Str} {p pos apos : Pos} {e o : Expr} {es : List Expr} {ta : TE} {t : TA}

/-- the callee runs -/
theorem run_fn {pins : List (Addr × Obj)} {σ : St} {H : Hp} {s : Shared} {Q : VK} {us : List Value} {vs : List V} (F : FnOk X.prog X.w X.K X.mg X.base CX k f fd ps sp) (hr : Room k X.A) (hb : Binds X.K fd ps ds) (hd : Vals dvs ds) (hx : Passes CX X E)
    (I : Inv X pins σ H s) (r : Vals vs us) (h : sp (vs ++ dvs) H Q E) : wpAny (model X.prog X.w) X.A (call (.ref f) us) (EP X pins σ Q) X.xe s := by
  have r2 : Vals (vs ++ dvs) (us ++ ds) := r.append hd
  have hl : (us ++ ds).length = ps.length := by rw [← r2.length]; exact F.len _ _ _ _ h
  refine wpAny_call (codeAny_mono (F.run X.A X.stack s H ⟨us, []⟩ (us ++ ds) (vs ++ dvs) Q E hr I.env0 (hb s us I.kIn hl) r2 h) fun r s' hq => ?_)
  cases r with
  | error e => exact hx pins σ H s e s' I hq
  | ok fl =>
    cases fl with
    | ret u => exact I.after hq
    | next => exact False.elim hq
    | brk => exact False.elim hq
    | cont => exact False.elim hq

theorem pe_call (F : FnOk X.prog X.w X.K X.mg X.base CX k f fd ps sp) (hr : Room k X.A) (hg : Gl X x) (hm : X.mg x = some (.ref f)) (hk : PySem.W.keepIn X.K (.ref f) = true) (hb : Binds X.K fd ps ds) (hd : Vals dvs ds) (hx : Passes CX X E)
    (ha : PA X (e :: es) t) (hdb : (x == ("__debug__" : Str)) = false := by decide) (he : starEach (e :: es) X.env = (false, eval e X.env) :: starEach es X.env := by rfl) (hpl : (backTo pos (starEach es X.env)).any (·.1) = false := by rfl) :
    PE X (.Call (.Name x p) (e :: es) [] pos) (tCall sp dvs E t) := by
  intro pins s σ H Q I h
  refine wpAny_Call_Name_kw (ld_glob I hg hm ?_ hdb)
  refine PySem.W.callWith_K (h₀ := X.base) I.ok.mod.kin hk (thn (ha pos pins s σ H _ I h) fun us s1 ⟨vs, H1, I1, r, q⟩ => ⟨I1.kIn, ?_⟩) he hpl
  exact run_fn F hr hb hd hx I1 r q
/-- o.m(e, ..) -/
theorem pe_meth {pl : Sem Bool} (he : PE X o ta) (c : Cls X.K C) (hm : Meth X.K C m f) (F : FnOk X.prog X.w X.K X.mg X.base CX k f fd ps sp) (hr : Room k X.A) (hb : Binds X.K fd ps ds) (hd : Vals dvs ds) (hx : Passes CX X E) (ha : PA X (e :: es) t)
    (hst : starEach (e :: es) X.env = (false, eval e X.env) :: starEach es X.env := by rfl) (hpl : (backTo pos (starEach es X.env)).any (·.1) = false := by rfl)
    (ht : eval (.Call (.Attribute o m apos) (e :: es) [] pos) X.env = (do
      let ov ← eval o X.env
      standAt apos.atName
      let (f, first) ← holding [ov] (getMethod ov m pl)
      callWith pos f first (backTo pos (starEach (e :: es) X.env)) (backToKw pos (keywordEach [] X.env))) := by rfl) :
    PE X (.Call (.Attribute o m apos) (e :: es) [] pos) (tMeth C m sp dvs E ta t) := by
  intro pins s σ H Q I h
  refine PySem.W.methodCall_KW (pl := pl) (thn (he pins s σ H _ I h) fun u s1 ⟨x, H1, I1, rx, a, dx, fs, ex, ea, l, q⟩ => ?_) ht
  subst ex
  obtain rfl : u = Value.ref a := rx
  refine getmeth_ok I1 ea c hm l ?_
  refine PySem.W.callWith_K (first := [.ref a]) (h₀ := X.base) I.ok.mod.kin hm.kp (thn (ha pos pins s1 σ H1 _ I1 q) fun us s2 ⟨vs, H2, I2, r, q2⟩ => ⟨I2.kIn, ?_⟩) hst hpl
  exact run_fn (us := .ref a :: us) (vs := .ref a :: vs) F hr hb hd hx I2 (.cons rfl r) q2
/-- what a class must have to be made -/
structure Mk (K : PySem.W.Frag) (C f : Addr) : Prop where
  makes : PySem.W.makesIn K C = true
  init : PySem.W.findIn K (.ref C) "__init__" = some (some (.ref f))
  fn : PySem.W.isFn K (.ref f) = true
  kp : PySem.W.keepIn K (.ref C) = true

theorem run_make {pins : List (Addr × Obj)} {σ : St} {H : Hp} {s : Shared} {Q : VK} {us : List Value} {vs : List V} (M : Mk X.K C f) (F : FnOk X.prog X.w X.K X.mg X.base CX k f fd ps sp) (hr : Room (k + 1) X.A) (hb : Binds X.K fd ps ds) (hd : Vals dvs ds)
    (hx : Passes CX X E) (I : Inv X pins σ H s) (r : Vals vs us)
    (h : ∀ x dx, H x = none → H dx = none → dx ≠ x → sp (.ref x :: (vs ++ dvs)) (upd (upd H dx (.own x)) x (.ins C dx [])) (fun v H2 => v = .non ∧ Q (.ref x) H2) E) :
    wpAny (model X.prog X.w) X.A (call (.ref C) us) (EP X pins σ Q) X.xe s := by
  have hq := h (s.heap.objs.size + 1) s.heap.objs.size (I.hok.fresh (Nat.le_succ _)) (I.hok.fresh (Nat.le_refl _)) (Nat.ne_of_lt (Nat.lt_succ_self _))
  have I2 := Inv.made (C := C) I
  have r2 : Vals (V.ref (s.heap.objs.size + 1) :: (vs ++ dvs)) (Value.ref (s.heap.objs.size + 1) :: (us ++ ds)) := .cons rfl (r.append hd)
  have hl : (Value.ref (s.heap.objs.size + 1) :: us ++ ds).length = ps.length := by
    have e := r2.length
    rw [F.len _ _ _ _ hq] at e
    exact e.symm
  refine wpAny_call (make_map (f := f) I.kIn M.makes M.init (beq_iff_eq.mp M.fn) (codeAny_mono (F.run _ X.stack _ _ ⟨Value.ref (s.heap.objs.size + 1) :: us, []⟩ (Value.ref (s.heap.objs.size + 1) :: (us ++ ds)) _ _ E (hr.make C us [])
    (I2.env0.make C us []) (hb _ (Value.ref (s.heap.objs.size + 1) :: us) I2.kIn hl) r2 hq) fun r s' hq' => ?_))
  cases r with
  | error e => exact hx pins σ _ _ e s' I2 hq'
  | ok fl =>
    cases fl with
    | ret u =>
      obtain ⟨v, H', I3, rv, ev, q3⟩ := I2.after hq'
      subst ev
      exact ⟨rv, ⟨V.ref (s.heap.objs.size + 1), H', I3, rfl, q3⟩⟩
    | next => exact False.elim hq'
    | brk => exact False.elim hq'
    | cont => exact False.elim hq'
end

/-! ### keywords -/
section
variable {X : Cx} {CX : CXT} {k : Nat} {f C : Addr} {fd : FuncData} {ps ks : List Str} {sp : Sp} {E : XK} {x m : Str} {p pos apos kpos : Pos} {e o : Expr} {es : List Expr} {kws : List Keyword} {te ta : TE} {t tk : TA} {nm : Option Str}
variable {g : List Value → List Value → List Value} {gV : List V → List V → List V}
end

/-! ### a def's body keeps its promise -/
/-- names: the parameters first -/
structure FnScope (N P : List Str) (sc : Scope) : Prop where
  kind : sc.kind = .function
  co : sc.isCoroutine = false
  gen : sc.isGenerator = false
  nd : N.Nodup
  pre : N.take P.length = P
  par : ∀ x ∈ P, sc.names.lookup x = some .local ∨ sc.names.lookup x = some .cell
  nofree : ∀ y ∈ sc.names, y.2 ≠ .free

theorem bindL_out {kindOf : Str → Option NameKind} {x : Str} : ∀ {binds : List (Str × Value)} {m : Str → Option Value}, (∀ v, (x, v) ∉ binds) → bindL kindOf binds m x = m x
  | [], _, _ => rfl
  | (n, v) :: r, m, h => by
    unfold bindL
    rw [bindL_out fun w hw => h w (List.mem_cons_of_mem _ hw)]
    split
    · have : x ≠ n := by rintro rfl; exact h v List.mem_cons_self
      simp [this]
    · rfl
theorem bindC_out {kindOf : Str → Option NameKind} {x : Str} : ∀ {binds : List (Str × Value)} {m : Str → Option Value}, (∀ v, (x, v) ∉ binds) → bindC kindOf binds m x = m x
  | [], _, _ => rfl
  | (n, v) :: r, m, h => by
    unfold bindC
    rw [bindC_out fun w hw => h w (List.mem_cons_of_mem _ hw)]
    split
    · rfl
    · have : x ≠ n := by rintro rfl; exact h v List.mem_cons_self
      simp [this]
theorem bindL_get {kindOf : Str → Option NameKind} {x : Str} {v : Value} : ∀ {P : List Str} {vs : List Value} {i : Nat} {m : Str → Option Value}, P.Nodup → P[i]? = some x → vs[i]? = some v → kindOf x = some .local →
    bindL kindOf (P.zip vs) m x = some v
  | [], _, _, _, _, h, _, _ => by simp at h
  | _ :: _, [], _, _, _, _, h, _ => by simp at h
  | p :: P, w :: vs, 0, m, nd, h1, h2, hk => by
    simp at h1 h2; subst h1; subst h2
    show bindL kindOf ((p, w) :: P.zip vs) m p = _
    unfold bindL
    rw [bindL_out fun v hv => (List.nodup_cons.mp nd).1 (List.of_mem_zip hv).1, if_pos hk]
    simp
  | p :: P, w :: vs, i + 1, m, nd, h1, h2, hk => by
    show bindL kindOf ((p, w) :: P.zip vs) m x = _
    unfold bindL
    exact bindL_get (i := i) (List.nodup_cons.mp nd).2 (by simpa using h1) (by simpa using h2) hk
theorem bindC_get {kindOf : Str → Option NameKind} {x : Str} {v : Value} : ∀ {P : List Str} {vs : List Value} {i : Nat} {m : Str → Option Value}, P.Nodup → P[i]? = some x → vs[i]? = some v → kindOf x ≠ some .local →
    bindC kindOf (P.zip vs) m x = some v
  | [], _, _, _, _, h, _, _ => by simp at h
  | _ :: _, [], _, _, _, _, h, _ => by simp at h
  | p :: P, w :: vs, 0, m, nd, h1, h2, hk => by
    simp at h1 h2; subst h1; subst h2
    show bindC kindOf ((p, w) :: P.zip vs) m p = _
    unfold bindC
    rw [bindC_out fun v hv => (List.nodup_cons.mp nd).1 (List.of_mem_zip hv).1, if_neg hk]
    simp
  | p :: P, w :: vs, i + 1, m, nd, h1, h2, hk => by
    show bindC kindOf ((p, w) :: P.zip vs) m x = _
    unfold bindC
    exact bindC_get (i := i) (List.nodup_cons.mp nd).2 (by simpa using h1) (by simpa using h2) hk

/-- the names' values at the entry -/
def start (N : List Str) (vs : List V) : St := vs.map some ++ List.replicate (N.length - vs.length) none

/-- the context of a def's body, at its entry; an exception leaves the frame, then lies as CX says -/
def cxOf (CX : CXT) (P : Program) (w : World) (K : PySem.W.Frag) (mg : Str → Option Value) (base : Heap) (N : List Str) (qual : Str) (scope : Scope) (f : Addr) (cd : Value) (A : Around) (outer : List Env) (s : Shared) (H : Hp) (E : XK) : Cx where
  prog := P
  w := w
  K := K
  mg := mg
  base := base
  A := A.deeper (envOfC qual scope s.heap.objs.size f cd)
  N := N
  s₀ := s
  H₀ := H
  env := envOfC qual scope s.heap.objs.size f cd
  outer := outer
  stack := envOfC qual scope s.heap.objs.size f cd :: outer
  ex := []
  calm := true
  fn := fun _ => true
  pn := []
  xe := fun e s' => wpAny (model P w) (A.deeper (envOfC qual scope s.heap.objs.size f cd)) (leaving (envOfC qual scope s.heap.objs.size f cd) e) (fun _ s'' => CX outer H s E e s'') (fun e' s'' => CX outer H s E e' s'') s'

theorem cell_has {sc : Scope} {n : Nat} {x : Str} (h : sc.names.lookup x = some .cell) : ∃ c, (cellsFrom n sc.names []).lookup x = some c := by
  have q := PySem.W.cellsFrom_some sc.names n [] (.inl h)
  exact Option.isSome_iff_exists.mp q

theorem inv_start {CX : CXT} {P : Program} {w : World} {K : PySem.W.Frag} {mg : Str → Option Value} {base : Heap} {N ps : List Str} {qual : Str} {scope : Scope} {f : Addr} {cd : Value} {A : Around} {outer : List Env} {s s1 : Shared} {H : Hp} {E : XK} {us : List Value} {vs : List V}
    (S : FnScope N ps scope) (hd : A.handled = none) (e0 : Env0 P w K mg base A outer s H) (hl : vs.length = ps.length) (r : Vals vs us)
    (x : InCallC s s.heap.objs.size (bindL (envOfC qual scope s.heap.objs.size f cd).kindOf (ps.zip us) fun _ => none) (cellsFrom (s.heap.objs.size + 1) scope.names []) (bindC (envOfC qual scope s.heap.objs.size f cd).kindOf (ps.zip us) fun _ => none) s1) :
    Inv (cxOf CX P w K mg base N qual scope f cd A outer s H E) [] (start N vs) H s1 := by
  have hpl : ps.length ≤ N.length := by have := congrArg List.length S.pre; rw [List.length_take] at this; omega
  obtain ⟨h1, tk, rfl, hk⟩ := x.done
  have noA : ∀ b : Addr, b ∉ (cxOf CX P w K mg base N qual scope f cd A outer s H E).ex := fun b z => absurd (show b ∈ ([] : List Addr) from z) (by simp)
  refine ⟨⟨e0.mod, S.kind, rfl, rfl, Nat.le_refl _, fun y z c h1 h2 => ?_, fun y hy => ?_, fun y c _ h => ?_, fun _ => hd, Around.frames_deeper e0.frames, .inr ⟨rfl, rfl⟩, fun b z => absurd z (noA b), e0.bs, e0.bsz, fun b _ _ => noA b, fun b z => absurd z (noA b), e0.funs, e0.frf⟩,
    rfl, e0.bare, Un.kept hk, ⟨_, x.toInCall.ns, fun i y v h1 h2 h3 => ?_⟩, fun y c h => ⟨_, x.cell y c h⟩, e0.hok.fresh (Nat.le_refl _), fun y c h => ?_, fun p hp => absurd (show p ∈ ([] : List (Addr × Obj)) from hp) (by simp), e0.hok.kept hk, ?_⟩
  · exact name_of_addr x.apart (PySem.mem_of_lookup h1) (PySem.mem_of_lookup h2)
  · have hy : scope.names.lookup y = some .cell ∨ scope.names.lookup y = some .free := hy
    rcases hy with hy | hy
    · exact cell_has hy
    · exact absurd rfl (S.nofree _ (PySem.mem_of_lookup hy))
  · exact Nat.le_of_lt (x.above y c (PySem.mem_of_lookup h))
  · have hi : i < vs.length := by
      unfold start at h2
      by_cases hi : i < vs.length
      · exact hi
      · rw [List.getElem?_append_right (by simpa using hi)] at h2
        rw [List.getElem?_replicate] at h2
        split at h2 <;> cases h2
    have ha : vs[i]? = some v := by
      unfold start at h2
      rw [List.getElem?_append_left (by simpa using hi), List.getElem?_map] at h2
      cases e : vs[i]? with
      | none => rw [e] at h2; cases h2
      | some a => rw [e] at h2; cases h2; rfl
    obtain ⟨u, hu, rv⟩ := r.get ha
    have hp : ps[i]? = some y := by
      rw [← S.pre, List.getElem?_take_of_lt (by omega)]; exact h1
    have ndP : ps.Nodup := by rw [← S.pre]; exact S.nd.sublist (List.take_sublist _ _)
    refine ⟨u, rv, ?_⟩
    rcases S.par y (List.mem_of_getElem? hp) with k | k
    · exact .inl ⟨k, bindL_get ndP hp hu k⟩
    · obtain ⟨c, e⟩ := cell_has (n := s.heap.objs.size + 1) k
      refine .inr ⟨.inl k, c, e, ?_⟩
      have q := x.cell y c e
      rw [bindC_get ndP hp hu (by show scope.names.lookup y ≠ _; rw [k]; decide)] at q
      exact q
  · exact e0.hok.fresh (Nat.le_of_lt (x.above y c (PySem.mem_of_lookup h)))
  · unfold start
    show _ = N.length
    rw [List.length_append, List.length_map, List.length_replicate]
    omega

/-- THE RULE: a def (or a method) of the text, by its body. The body's reading t is chosen for each entry; it is run at the parameters' values -/
theorem fn_of {CX : CXT} {P : Program} {w : World} {K : PySem.W.Frag} {mg : Str → Option Value} {base : Heap} {k : Nat} {f : Addr} {name qual : Str} {params : Arguments} {body : List Stmt} {scope : Scope} {dV kV doc pm cdv ct oc : Value} {an od : Option Addr}
    {osl : Array (Option Value)} {N ps : List Str} {sp : Sp} (lk : K.lookup f = some ⟨oc, od, .func (PySem.W.fnOf name qual params body scope dV kV doc pm an cdv ct), osl⟩) (hcd : PySem.W.codeIn K cdv qual = true) (S : FnScope N ps scope)
    (len : ∀ vs H Q E, sp vs H Q E → vs.length = ps.length)
    (hbody : ∀ (A : Around) (outer : List Env) (s : Shared) (H : Hp) (vs : List V) (Q : VK) (E : XK), Room k (A.deeper (envOfC qual scope s.heap.objs.size f cdv)) → sp vs H Q E →
      ∃ t, PSs (cxOf CX P w K mg base N qual scope f cdv A outer s H E) body t ∧ t { nx := fun _ H' => Q .non H', rt := Q } (start N vs) H) :
    FnOk P w K mg base CX (k + 1) f (PySem.W.fnOf name qual params body scope dV kV doc pm an cdv ct) ps sp := by
  refine ⟨len, fun A outer s H args us vs Q E hr e0 hb r hsp => ?_⟩
  have hl := len _ _ _ _ hsp
  have KX : K.In s.heap := e0.mod.kin.keeps fun b o e => (e0.bs b o e).1
  have lim : s.heap.NoLimit := e0.mod.nolimit.keeps fun b o e => (e0.bs b o e).1
  have hkind : ∀ y ∈ ps.zip us, scope.names.lookup y.1 = some .local ∨ (scope.names.lookup y.1 = some .cell ∧ ((cellsFrom (s.heap.objs.size + 1) scope.names []).lookup y.1).isSome = true) := fun ⟨n, v⟩ hy => by
    rcases S.par n (List.of_mem_zip hy).1 with q | q
    · exact .inl q
    · exact .inr ⟨q, PySem.W.cellsFrom_some _ _ _ (.inl q)⟩
  refine codeAny_call_function hr.depth (KX _ _ lk) rfl S.co S.gen rfl (PySem.W.codeRec_of KX hcd) (hb _ _ _ _ ?_)
  refine wpAny_newFunctionEnv_cells S.kind hkind fun env he s1 x => ?_
  subst he
  refine ⟨lim.keeps x.toInCall.keep, codeAny_func ?_⟩
  obtain ⟨t, ht, hq⟩ := hbody A outer s H vs Q E (hr.deeper _) hsp
  have I : Inv (cxOf CX P w K mg base N qual scope f cdv A outer s H E) [] (start N vs) H s1 := inv_start S hr.hd e0 hl r x
  refine wpAny_mono (ht [] s1 (start N vs) H _ I hq) (fun fl s' hs => ?_) fun e s' hs => hs
  have fin : ∀ {σ' : St} {H' : Hp} {v : V} {u : Value}, Inv (cxOf CX P w K mg base N qual scope f cdv A outer s H E) [] σ' H' s' → RelV v u → Q v H' → CE outer P w H s Q u s' :=
    fun {σ' H' v u} J rv q => ⟨v, H', J.os, J.bare, J.base, J.hok, rv, q⟩
  cases fl with
  | ret u =>
    obtain ⟨v, σ', H', J, rv, q⟩ := hs
    exact fin J rv q
  | next =>
    obtain ⟨σ', H', J, q⟩ := hs
    exact fin (v := V.non) (u := Value.none) J rfl q
  | brk =>
    obtain ⟨_, _, _, q⟩ := hs
    exact False.elim q
  | cont =>
    obtain ⟨_, _, _, q⟩ := hs
    exact False.elim q
end L2

namespace L2
open PySem PySem.Spec PyProof.Rows
section
variable {X : Cx} {x : Str} {p pos : Pos} {e : Expr} {es : List Expr} {t : TA} {id T : String} {r : List V → Hp → VK → Prop}

def tCB (r : List V → Hp → VK → Prop) (t : TA) : TE := fun σ H Q => t σ H fun vs H1 => r vs H1 Q
/-- f(e, ..), f a built-in function -/
theorem pe_callB (hc : CallR X (.builtin id) r) (hg : Gl X x) (hm : X.mg x = none) (hv : bootBuiltins x = some (.builtin id)) (ha : PA X (e :: es) t) (hn : x ≠ "__name__" := by decide) (hdb : (x == ("__debug__" : Str)) = false := by decide)
    (he : starEach (e :: es) X.env = (false, eval e X.env) :: starEach es X.env := by rfl) (hpl : (backTo pos (starEach es X.env)).any (·.1) = false := by rfl) : PE X (.Call (.Name x p) (e :: es) [] pos) (tCB r t) := by
  intro pins s σ H Q I h
  refine wpAny_Call_Name_kw (ld_blt I hg hm hv ?_ hn hdb)
  exact PyProof.Rows.callWith_builtin1 (thn (ha pos pins s σ H _ I h) fun us s1 ⟨vs, H1, I1, r1, q1⟩ => hc pins s1 σ H1 vs us Q I1 r1 q1) he hpl
/-- T(e, ..), T a built-in type -/
theorem pe_callTy (hc : CallR X (.type T) r) (hg : Gl X x) (hm : X.mg x = none) (hv : bootBuiltins x = some (.type T)) (ha : PA X (e :: es) t) (hn : x ≠ "__name__" := by decide) (hdb : (x == ("__debug__" : Str)) = false := by decide)
    (he : starEach (e :: es) X.env = (false, eval e X.env) :: starEach es X.env := by rfl) (hpl : (backTo pos (starEach es X.env)).any (·.1) = false := by rfl) : PE X (.Call (.Name x p) (e :: es) [] pos) (tCB r t) := by
  intro pins s σ H Q I h
  refine wpAny_Call_Name_kw (ld_blt I hg hm hv ?_ hn hdb)
  exact PyProof.Rows.callWith_type1 (thn (ha pos pins s σ H _ I h) fun us s1 ⟨vs, H1, I1, r1, q1⟩ => hc pins s1 σ H1 vs us Q I1 r1 q1) he hpl
end
end L2

namespace HT
open PySem PyProof.Rows

section
open PySem.SeqAt
open PySem.AutoSeq1 (wpAny_loadPart')
open PySem.MeetsSeq PySem.MeetsSeq2 PySem.MeetsSeq3

end

section
variable {prog : Program} {w : World} {A : Around} {E : Value → Shared → Prop} {s : Shared}

/-! ### t[a:b], not the whole -/
/-- a slice's bound as a place among n (d where it is left out) -/
def sIx (n d : Nat) : Option Int → Nat
  | none => d
  | some v => if v < 0 then (v + (n : Int)).toNat else min v.toNat n
theorem sIx_none (n d : Nat) : sIx n d none = d := rfl
theorem sIx_le (n d : Nat) (hd : d ≤ n) (o : Option Int) : sIx n d o ≤ n := by
  cases o with
  | none => exact hd
  | some v =>
    show (if v < 0 then (v + (n : Int)).toNat else min v.toNat n) ≤ n
    by_cases hv : v < 0
    · rw [if_pos hv]; omega
    · rw [if_neg hv]; exact Nat.min_le_right _ _
end
end HT

namespace L2
open PySem PySem.Spec PyProof.Rows

/-! ### the parts of a slice -/
abbrev TO := St → Hp → (Option Int → Hp → Prop) → Prop
/-- a slice's part (left out, or an int) -/
def PO (X : Cx) (e : Option Expr) (t : TO) : Prop :=
  ∀ (pins : List (Addr × Obj)) (s : Shared) (σ : St) (H : Hp) (Q : Option Int → Hp → Prop), Inv X pins σ H s → t σ H Q →
    wpAny (model X.prog X.w) X.A (evalPart e X.env) (fun u s' => ∃ o H', Inv X pins σ H' s' ∧ IsPart u o ∧ Q o H') X.xe s
def tNoPart : TO := fun _ H Q => Q none H
def tPart (t : TE) : TO := fun σ H Q => t σ H fun x H1 => ∃ i, x = .int i ∧ Q (some i) H1

section
variable {X : Cx} {e : Expr} {te : TE} {lo hi : Option Expr} {tl th : TO} {pos p2 : Pos}

theorem po_none : PO X none tNoPart := by
  intro pins s σ H Q I h
  rw [evalPart_none]
  exact wpAny_pure ⟨none, H, I, .none, h⟩
theorem po_some (h : PE X e te) : PO X (some e) (tPart te) := by
  intro pins s σ H Q I hw
  rw [evalPart_some]
  refine thn (h pins s σ H _ I hw) fun u s1 ⟨x, H1, I1, r1, q1⟩ => ?_
  obtain ⟨i, rfl, q⟩ := q1
  obtain ⟨t, rfl⟩ := r1
  exact ⟨some i, H1, I1, .int i t, q⟩

/-- what a slice of a value is, by values: the slice object stands at sl -/
def SlR (X : Cx) (r : V → Option Int → Option Int → Hp → VK → Prop) : Prop :=
  ∀ (pins : List (Addr × Obj)) (s : Shared) (σ : St) (H : Hp) (x : V) (v vl vu : Value) (lo hi : Option Int) (sl : Addr) (Q : VK), Inv X pins σ H s → RelV x v → s.heap.IsSliceOf sl vl vu .none → IsPart vl lo → IsPart vu hi → r x lo hi H Q →
    ∃ T id, typeLookup (.type T) "__getitem__" = pure (some (.builtin id)) ∧ s.TypeIs v T ∧ wpAny (model X.prog X.w) X.A (getItem v (.ref sl)) (EP X pins σ Q) X.xe s
def tSl (r : V → Option Int → Option Int → Hp → VK → Prop) (te : TE) (tl th : TO) : TE := fun σ H Q => te σ H fun x H1 => tl σ H1 fun l H2 => th σ H2 fun u H3 => r x l u H3 Q
/-- a[lo:hi], any a -/
theorem pe_slice {r : V → Option Int → Option Int → Hp → VK → Prop} (hr : SlR X r) (he : PE X e te) (hl : PO X lo tl) (hu : PO X hi th) : PE X (.Subscript e (.Slice lo hi none p2) pos) (tSl r te tl th) := by
  intro pins s σ H Q I h
  refine Subscript_ (thn (he pins s σ H _ I h) fun v s1 ⟨x, H1, I1, r1, q1⟩ => ?_)
  refine wpAny_Slice (thn (hl pins s1 σ H1 _ I1 q1) fun vl s2 ⟨l, H2, I2, pl, q2⟩ => thn (hu pins s2 σ H2 _ I2 q2) fun vu s3 ⟨u, H3, I3, pu, q3⟩ => ?_)
  rw [evalPart_none]
  refine wpAny_pure ?_
  have I4 : Inv X pins σ H3 { s3 with heap := s3.heap.push { cls := .type "slice", data := .fields #[vl, vu, .none] } } := I3.kept (t' := s3.toks) fun b ob q => Heap.get?_push_of_some _ q
  obtain ⟨T, id, hT, ht, hg⟩ := hr pins { s3 with heap := s3.heap.push { cls := .type "slice", data := .fields #[vl, vu, .none] } } σ H3 x v vl vu l u s3.heap.objs.size Q I4 r1 (Heap.IsSliceOf.new ..) pl pu q3
  show wpAny (model X.prog X.w) X.A (subscriptTail e (.Slice lo hi none p2) v (.ref s3.heap.objs.size)) (EP X pins σ Q) X.xe { s3 with heap := s3.heap.push { cls := .type "slice", data := .fields #[vl, vu, .none] } }
  exact tail_any (ops := [.ref s3.heap.objs.size, v]) ht hT hg (by with_unfolding_all rfl)

/-- the items of xs[lo:hi] -/
def cutV (xs : List V) (lo hi : Option Int) : List V := (xs.drop (HT.sIx xs.length 0 lo)).take (HT.sIx xs.length xs.length hi - HT.sIx xs.length 0 lo)
theorem cutV_length (xs : List V) (lo hi : Option Int) : (cutV xs lo hi).length ≤ xs.length := by
  unfold cutV
  rw [List.length_take, List.length_drop]
  omega
/-! ### t < u, t + u -/
end
end L2

namespace L2
open PySem PySem.Spec PyProof.Rows

/-! ### places -/
/-- the place that an index of any sign means -/
def ixN (n : Nat) (i : Int) : Option Nat := if 0 ≤ i then (if i < n then some i.toNat else none) else if -(n : Int) ≤ i then some (i + n).toNat else none
def atI {α : Type} (xs : List α) (i : Int) : Option α := (ixN xs.length i).bind fun j => xs[j]?
theorem ixN_seq {n : Nat} {i : Int} {j : Nat} (h : ixN n i = some j) : seqIndex? i n = some j ∧ j < n ∧ -(n : Int) ≤ i ∧ i < n := by
  unfold ixN at h
  by_cases h0 : 0 ≤ i
  · rw [if_pos h0] at h
    by_cases h1 : i < n
    · rw [if_pos h1] at h
      have e : i.toNat = j := Option.some.inj h
      exact ⟨by rw [seqIndex_of h0 h1, e], by omega, by omega, h1⟩
    · rw [if_neg h1] at h; cases h
  · rw [if_neg h0] at h
    by_cases h1 : -(n : Int) ≤ i
    · rw [if_pos h1] at h
      have e : (i + n).toNat = j := Option.some.inj h
      exact ⟨by rw [seqIndex_neg (by omega) h1, e], by omega, h1, by omega⟩
    · rw [if_neg h1] at h; cases h
theorem atI_get {α : Type} {xs : List α} {i : Int} {v : α} (h : atI xs i = some v) : ∃ j, seqIndex? i xs.length = some j ∧ xs[j]? = some v ∧ j < xs.length ∧ -(xs.length : Int) ≤ i ∧ i < xs.length := by
  unfold atI at h
  cases e : ixN xs.length i with
  | none => rw [e] at h; cases h
  | some j =>
    rw [e] at h
    obtain ⟨h1, h2, h3, h4⟩ := ixN_seq e
    exact ⟨j, h1, h, h2, h3, h4⟩
theorem atI_nat {α : Type} {xs : List α} {j : Nat} {v : α} (h : xs[j]? = some v) : atI xs (j : Int) = some v := by
  have hj : j < xs.length := (List.getElem?_eq_some_iff.mp h).1
  have e : ixN xs.length (j : Int) = some j := by
    unfold ixN
    rw [if_pos (by omega), if_pos (by omega)]; simp
  unfold atI; rw [e]; exact h
/-! ### what may be subscripted -/
/-- what stands as an index of a plain subscript -/
def PlainIx (b : Expr) : Prop := ∀ o i, subscripted b false o i = operate [o, i] (getItem o i)
/-- a subscript by values -/
def IxR (X : Cx) (r : R2) : Prop :=
  ∀ (value slice : Expr) (pins : List (Addr × Obj)) (s : Shared) (σ : St) (H : Hp) (x y : V) (v u : Value) (Q : VK), Inv X pins σ H s → RelV x v → RelV y u → r x y H Q →
    subscripted slice false v u = operate [v, u] (getItem v u) → wpAny (model X.prog X.w) X.A (subscriptTail value slice v u) (EP X pins σ Q) X.xe s
/-- a call of a builtin's method by values: the receiver, the arguments -/
def MtR (X : Cx) (id : String) (r : V → List V → Hp → VK → Prop) : Prop :=
  ∀ (pins : List (Addr × Obj)) (s : Shared) (σ : St) (H : Hp) (x : V) (xs : List V) (v : Value) (us : List Value) (Q : VK), Inv X pins σ H s → RelV x v → Vals xs us → r x xs H Q →
    wpAny (model X.prog X.w) X.A (call (.builtin id) (v :: us)) (EP X pins σ Q) X.xe s
section
variable {X : Cx} {a b : Expr} {ta tb : TE} {pos : Pos}
/-- a[b] -/
theorem pe_ix {r : R2} (hr : IxR X r) (ha : PE X a ta) (hb : PE X b tb) (hs : PlainIx b) : PE X (.Subscript a b pos) (tOp r ta tb) := by
  intro pins s σ H Q I h
  exact Subscript_ (binT ha hb I h fun v u s2 x y H2 I2 rx ry q => hr a b pins s2 σ H2 x y v u Q I2 rx ry q (hs _ _))

def rIxL (K : PySem.W.Frag) : R2 := fun x y H Q => ∃ p xs i v, x = .ref p ∧ y = .int i ∧ SqL K H p xs ∧ atI xs i = some v ∧ Q v H
def rIxT (K : PySem.W.Frag) : R2 := fun x y H Q => ∃ p xs i v, x = .ref p ∧ y = .int i ∧ SqT K H p xs ∧ atI xs i = some v ∧ Q v H
def rIxS : R2 := fun x y H Q => ∃ z i c, x = .str z ∧ y = .int i ∧ z.length ≤ sizeLine ∧ atI z.cps.toList i = some c ∧ Q (.str ⟨#[c]⟩) H
theorem ix_list : IxR X (rIxL X.K) := by
  intro value slice pins s σ H x y v u Q I rx ry h hs
  obtain ⟨p, xs, i, z, rfl, rfl, hq, he, q⟩ := h
  cases rx
  obtain ⟨t, rfl⟩ := ry
  obtain ⟨its, r, pl, hz⟩ := I.list hq
  obtain ⟨j, h1, h2, h3, h4, h5⟩ := atI_get he
  obtain ⟨w, ew, rw'⟩ := r.get h2
  have hl := r.length
  have hn := line63
  have fin : EP X pins σ Q w s := ⟨z, H, I, rw', q⟩
  by_cases h0 : 0 ≤ i
  · have hj : i.toNat = j := by
      rw [seqIndex_of h0 h5] at h1
      exact Option.some.inj h1
    exact item_listR pl.isList h0 (by omega) (by rw [hj]; simpa using ew) fin hs
  · have hj : (i + (its.toArray.size : Int)).toNat = j := by
      rw [seqIndex_neg (by omega) h4] at h1
      rw [List.size_toArray, ← hl]
      exact Option.some.inj h1
    exact subscriptTail_builtinR (x := w) pl.isList.typeIs slot_list_getitem.lookup
      (wpAny_getItem_list_neg (Q := fun r s' => r = w ∧ EP X pins σ Q r s') pl.isList (by omega) (by rw [List.size_toArray] <;> omega) (by omega) (by rw [hj]; simpa using ew) ⟨rfl, fin⟩) hs
theorem ix_tup : IxR X (rIxT X.K) := by
  intro value slice pins s σ H x y v u Q I rx ry h hs
  obtain ⟨p, xs, i, z, rfl, rfl, hq, he, q⟩ := h
  cases rx
  obtain ⟨t, rfl⟩ := ry
  obtain ⟨its, r, pl, hz⟩ := I.tuple hq
  obtain ⟨j, h1, h2, h3, h4, h5⟩ := atI_get he
  obtain ⟨w, ew, rw'⟩ := r.get h2
  have hl := r.length
  have hn := line63
  have fin : EP X pins σ Q w s := ⟨z, H, I, rw', q⟩
  exact subscriptTail_builtinR (x := w) pl.typeIs slot_tuple_getitem.lookup
    (getItem_tuple (j := j) (Q := fun r s' => r = w ∧ EP X pins σ Q r s') pl (by omega) (by omega) (by rw [List.size_toArray, ← hl]; exact h1) (by simpa using ew) ⟨rfl, fin⟩) hs
theorem ix_str : IxR X rIxS := by
  intro value slice pins s σ H x y v u Q I rx ry h hs
  obtain ⟨z, i, c, rfl, rfl, hz, he, q⟩ := h
  obtain ⟨t, rfl⟩ := rx
  obtain ⟨t', rfl⟩ := ry
  obtain ⟨j, h1, h2, h3, h4, h5⟩ := atI_get he
  have hl : z.cps.toList.length = z.length := by simp [Str.length]
  rw [hl] at h1 h4 h5
  have hn := line63
  exact tail_any (typeIs_str s z t) slot_str_getitem.lookup (getItem_str (c := c) (by
    have e1 : decide (i < -(2 ^ 63 : Int)) = false := decide_eq_false (by omega)
    have e2 : decide (i ≥ 2 ^ 63) = false := decide_eq_false (by omega)
    rw [e1, e2, Bool.or_false]) (by rw [h1]; simpa using h2) ⟨.str ⟨#[c]⟩, H, I.tok _, ⟨_, rfl⟩, q⟩) hs
/-! ### xs[i] = v, any sign -/
/-! ### slices -/
theorem slice_bounds (lo hi : Option Int) (n : Nat) : (sliceBounds lo hi none n).1 = ((HT.sIx n 0 lo : Nat) : Int) ∧ (sliceBounds lo hi none n).2.1 = ((HT.sIx n n hi : Nat) : Int) ∧ (sliceBounds lo hi none n).2.2 = 1 := by
  refine ⟨?_, ?_, rfl⟩
  · cases lo with
    | none => simp [sliceBounds, HT.sIx]
    | some i =>
      simp only [sliceBounds, HT.sIx, Option.getD_none, show (1 : Int) > 0 by decide, if_true]
      by_cases h : i < 0
      · simp only [h, if_true] <;> omega
      · simp only [h, if_false] <;> omega
  · cases hi with
    | none => simp [sliceBounds, HT.sIx]
    | some i =>
      simp only [sliceBounds, HT.sIx, Option.getD_none, show (1 : Int) > 0 by decide, if_true]
      by_cases h : i < 0
      · simp only [h, if_true] <;> omega
      · simp only [h, if_false] <;> omega
theorem slicePick_cut (its : List Value) (lo hi : Option Int) : slicePick its.toArray lo hi none = ((its.drop (HT.sIx its.length 0 lo)).take (HT.sIx its.length its.length hi - HT.sIx its.length 0 lo)).toArray := by
  obtain ⟨h1, h2, h3⟩ := slice_bounds lo hi its.toArray.size
  unfold slicePick
  rw [h1, h2, h3]
  simp only [sliceRange_one, pick_run, List.size_toArray] <;> rfl
/-- xs[lo:hi] of a list: a new list -/
def rSlL (K : PySem.W.Frag) : V → Option Int → Option Int → Hp → VK → Prop := fun x lo hi H Q => ∃ a xs, x = .ref a ∧ SqL K H a xs ∧ ∀ p, H p = none → Q (.ref p) (upd H p (.lst (cutV xs lo hi)))
theorem sl_list : SlR X (rSlL X.K) := by
  intro pins s σ H x v vl vu lo hi sl Q I rx hs pl pu h
  obtain ⟨a, xs, rfl, hx, q⟩ := h
  cases rx
  obtain ⟨its, r, ht, hz⟩ := I.list hx
  have hlen := r.length
  refine ⟨"list", _, slot_list_getitem.lookup, ht.isList.typeIs, ?_⟩
  refine wpAny_getItem_list_slice ht.isList hs pl pu .none (by simp) ?_ (by rw [List.size_toArray] <;> omega)
  rw [slicePick_cut, ← hlen]
  refine ⟨.ref s.heap.objs.size, _, I.laid (t' := s.toks) (o := .lst (cutV xs lo hi)) (fun b ob q => Heap.get?_push_of_some _ q) (Nat.le_refl _) ?_, rfl, q _ (I.hok.fresh (Nat.le_refl _))⟩
  exact ⟨Nat.le_trans (cutV_length xs lo hi) hz, _, 0, (r.drop (HT.sIx xs.length 0 lo)).take (HT.sIx xs.length xs.length hi - HT.sIx xs.length 0 lo), Heap.get?_push_size _ rfl⟩

/-! ### in, not in: flat items -/
def flatV : V → Bool
  | .non => true
  | .bl _ => true
  | .int _ => true
  | .str _ => true
  | _ => false
/-- == of flat values -/
def eqV : V → V → Bool
  | .non, .non => true
  | .bl a, .bl b => a == b
  | .bl a, .int b => (if a then 1 else 0) == b
  | .int a, .bl b => a == (if b then 1 else 0)
  | .int a, .int b => a == b
  | .str a, .str b => a == b
  | _, _ => false
theorem eqAt_V {A : Around} {s : Shared} {y x : V} {u v : Value} (ry : RelV y u) (rx : RelV x v) (fy : flatV y = true) (fx : flatV x = true) : SeqAt.EqAt A s u v (eqV y x) := by
  cases y with
  | non =>
    cases ry
    cases x with
    | non => cases rx; exact SeqAt.EqAt.same _
    | bl b => cases rx; exact SeqAt.EqAt.none_bool b
    | int b => obtain ⟨t, rfl⟩ := rx; exact SeqAt.EqAt.none_int b t
    | str b => obtain ⟨t, rfl⟩ := rx; exact SeqAt.EqAt.none_str b t
    | _ => exact absurd (show false = true from fx) Bool.false_ne_true
  | bl a =>
    cases ry
    cases x with
    | non => cases rx; exact SeqAt.EqAt.bool_none a
    | bl b => cases rx; exact SeqAt.EqAt.bool_bool a b
    | int b => obtain ⟨t, rfl⟩ := rx; exact SeqAt.EqAt.bool_int a b t
    | str b => obtain ⟨t, rfl⟩ := rx; exact SeqAt.EqAt.bool_str a b t
    | _ => exact absurd (show false = true from fx) Bool.false_ne_true
  | int a =>
    obtain ⟨t', rfl⟩ := ry
    cases x with
    | non => cases rx; exact SeqAt.EqAt.int_none a t'
    | bl b => cases rx; exact SeqAt.EqAt.int_bool a t' b
    | int b => obtain ⟨t, rfl⟩ := rx; exact SeqAt.EqAt.int_int a t' b t
    | str b => obtain ⟨t, rfl⟩ := rx; exact SeqAt.EqAt.int_str a t' b t
    | _ => exact absurd (show false = true from fx) Bool.false_ne_true
  | str a =>
    obtain ⟨t', rfl⟩ := ry
    cases x with
    | non => cases rx; exact SeqAt.EqAt.str_none a t'
    | bl b => cases rx; exact SeqAt.EqAt.str_bool a t' b
    | int b => obtain ⟨t, rfl⟩ := rx; exact SeqAt.EqAt.str_int a t' b t
    | str b => obtain ⟨t, rfl⟩ := rx; exact SeqAt.EqAt.str_str a t' b t
    | _ => exact absurd (show false = true from fx) Bool.false_ne_true
  | _ => exact absurd (show false = true from fy) Bool.false_ne_true
/-! ### len, list(x), tuple(x) of any list or tuple that is read -/
theorem call_len_seq : CallR X (.builtin "len") (fun xs H Q => ∃ p ys, xs = [.ref p] ∧ (SqL X.K H p ys ∨ SqT X.K H p ys) ∧ Q (.int ys.length) H) := by
  intro pins s σ H xs us Q I r h
  obtain ⟨p, ys, rfl, hq, q⟩ := h
  obtain ⟨u, rfl, rx⟩ := vals1 r
  cases rx
  have hn := line63
  rcases hq with hq | hq
  · obtain ⟨its, r', pl, hz⟩ := I.list hq
    have hlen := r'.length
    exact Calls.call_len_list pl.isList (by simp only [List.size_toArray] <;> omega) ⟨.int ys.length, H, I.tok _, ⟨s.toks + 1, by rw [List.size_toArray, hlen]⟩, q⟩
  · obtain ⟨its, r', pl, hz⟩ := I.tuple hq
    have hlen := r'.length
    exact len_tuple pl (by simp only [List.size_toArray] <;> omega) ⟨.int ys.length, H, I.tok _, ⟨s.toks + 1, by rw [List.size_toArray, hlen]⟩, q⟩
theorem call_len_str : CallR X (.builtin "len") (fun xs H Q => ∃ z, xs = [.str z] ∧ z.length ≤ sizeLine ∧ Q (.int z.length) H) := by
  intro pins s σ H xs us Q I r h
  obtain ⟨z, rfl, hz, q⟩ := h
  obtain ⟨u, rfl, t, rfl⟩ := vals1 r
  have hn := line63
  exact len_str (by omega) ⟨.int z.length, H, I.tok _, ⟨_, rfl⟩, q⟩
theorem call_list_of : CallR X (.type "list") (fun xs H Q => ∃ p ys, xs = [.ref p] ∧ (SqL X.K H p ys ∨ SqT X.K H p ys) ∧ ∀ l, H l = none → Q (.ref l) (upd H l (.lst ys))) := by
  intro pins s σ H xs us Q I r h
  obtain ⟨p, ys, rfl, hq, q⟩ := h
  obtain ⟨u, rfl, rx⟩ := vals1 r
  cases rx
  have fin : ∀ (its : List Value), Vals ys its → ys.length ≤ sizeLine → ∀ (h' : Heap) (c' : Nat), (∀ b o', s.heap.get? b = some o' → h'.get? b = some o') →
      h'.get? s.heap.objs.size = some { cls := .type "list", dict := none, data := .seq its.toArray c', slots := #[] } → EP X pins σ Q (.ref s.heap.objs.size) { s with heap := h' } := fun its r' hz h' c' kp e =>
    ⟨.ref s.heap.objs.size, _, I.laid (t' := s.toks) kp (Nat.le_refl _) (show ObjOk X.prog X.w _ h' _ (.lst ys) from ⟨hz, its, c', r', e⟩), rfl, q _ (I.hok.fresh (Nat.le_refl _))⟩
  rcases hq with hq | hq
  · obtain ⟨its, r', pl, hz⟩ := I.list hq
    have hlen := r'.length
    obtain ⟨o, ho, hc, n, hd⟩ := pl.isList
    exact call_list_seq p (.inl rfl) ho hc hd (fun h' c' kp e => fin its r' hz h' c' kp e) (by simp only [List.size_toArray] <;> omega)
  · obtain ⟨its, r', pl, hz⟩ := I.tuple hq
    have hlen := r'.length
    obtain ⟨o, ho, hc, n, hd⟩ := pl
    exact call_list_seq p (.inr rfl) ho hc hd (fun h' c' kp e => fin its r' hz h' c' kp e) (by simp only [List.size_toArray] <;> omega)
/-! ### the call of a builtin's method: o.m(..) -/
/-- the value is of that builtin type -/
def tyV (K : PySem.W.Frag) (T : String) (x : V) (H : Hp) : Prop := match x with
  | .str _ => T = "str"
  | .int _ => T = "int"
  | .ref p => (T = "list" ∧ ∃ xs, SqL K H p xs) ∨ (T = "tuple" ∧ ∃ o, K.lookup p = some o ∧ o.cls = .type "tuple" ∧ o.dict = none) ∨
      (T = "dict" ∧ ((∃ kvs, H p = some (.dK kvs)) ∨ ∃ kvs, H p = some (.dT kvs))) ∨ (T = "set" ∧ ∃ S n, H p = some (.set S n))
  | _ => False
theorem tyV_is {pins : List (Addr × Obj)} {σ : St} {H : Hp} {s : Shared} {T : String} {x : V} {v : Value} (I : Inv X pins σ H s) (r : RelV x v) (ty : tyV X.K T x H) :
    s.TypeIs v T ∧ ∀ a, v = .ref a → ∃ ob, s.heap.get? a = some ob ∧ ob.dict = none := by
  cases x with
  | str z =>
    obtain ⟨t, rfl⟩ := r
    cases (show T = "str" from ty)
    exact ⟨typeIs_str s z t, fun _ e => nomatch e⟩
  | int i =>
    obtain ⟨t, rfl⟩ := r
    cases (show T = "int" from ty)
    exact ⟨typeIs_int s i t, fun _ e => nomatch e⟩
  | ref p =>
    cases r
    rcases ty with ⟨rfl, xs, hq⟩ | ⟨rfl, o, hk, hc, hd⟩ | ⟨rfl, hk⟩ | ⟨rfl, S, n, hk⟩
    · obtain ⟨its, _, pl, _⟩ := I.list hq
      refine ⟨pl.isList.typeIs, fun a e => ?_⟩
      cases e
      obtain ⟨o, n, e, c, hd, _⟩ := pl
      exact ⟨o, e, hd⟩
    · refine ⟨⟨o, I.kIn p o hk, hc⟩, fun a e => ?_⟩
      cases e
      exact ⟨o, I.kIn _ o hk, hd⟩
    · have z : ∃ o, s.heap.get? p = some o ∧ o.ExactDict := by
        rcases hk with ⟨kvs, hk⟩ | ⟨kvs, hk⟩
        · obtain ⟨_, _, _, _, o, _, _, e, ex, _⟩ := I.hok p _ hk
          exact ⟨o, e, ex⟩
        · obtain ⟨_, _, _, _, o, _, _, e, ex, _⟩ := I.hok p _ hk
          exact ⟨o, e, ex⟩
      obtain ⟨o, e, ex⟩ := z
      refine ⟨⟨o, e, ex.1⟩, fun a e2 => ?_⟩
      cases e2
      exact ⟨o, e, ex.2.1⟩
    · obtain ⟨o, _, _, _, e, ex, _⟩ := I.hok p _ hk
      refine ⟨⟨o, e, ex.1⟩, fun a e2 => ?_⟩
      cases e2
      exact ⟨o, e, ex.2.1⟩
  | _ => exact False.elim ty
def tBM (K : PySem.W.Frag) (T : String) (r : V → List V → Hp → VK → Prop) (to : TE) (t : TA) : TE := fun σ H Q => to σ H fun x H1 => tyV K T x H1 ∧ t σ H1 fun xs H2 => r x xs H2 Q
variable {o e : Expr} {es : List Expr} {to : TE} {t : TA} {name : Str} {apos cpos : Pos} {T id : String} {r : V → List V → Hp → VK → Prop}
theorem pe_bm (pa : PlainAttrs T) (slot : Slot T name id) (hty : typeOf (.builtin id) = pure (.type "method_descriptor")) (hm : MtR X id r) (ho : PE X o to) (ha : PA X (e :: es) t)
    (hbase : attributeBase o name X.env (eval o X.env) = eval o X.env := by rfl)
    (hfew : ((backTo cpos (starEach (e :: es) X.env)).all (fun x => !x.1) && (backToKw cpos (keywordEach [] X.env)).all (fun x => x.1.isSome)
      && decide ((e :: es).length + ([] : List Keyword).length + (if ([] : List Keyword).isEmpty then 0 else 1) < 30)) = true := by rfl)
    (hline : (apos.endLine == cpos.line) = true := by rfl) (hs : starEach (e :: es) X.env = (false, eval e X.env) :: starEach es X.env := by rfl) (hplain : (backTo cpos (starEach es X.env)).any (·.1) = false := by rfl) :
    PE X (.Call (.Attribute o name apos) (e :: es) [] cpos) (tBM X.K T r to t) := by
  intro pins s σ H Q I h
  refine wpAny_Call_method_late hbase hfew hline rfl (thn (ho pins s σ H _ I h) fun v s1 ⟨x, H1, I1, r1, ty, q1⟩ => ?_)
  obtain ⟨h1, h2⟩ := tyV_is I1 r1 ty
  refine ⟨T, id, pa, slot, hty, h1, h2, ?_⟩
  have hA := ha cpos pins s1 σ H1 _ I1 q1
  rw [hs] at hA ⊢
  refine Calls.callWith_builtin (by show (false || (backTo cpos (starEach es X.env)).any (·.1)) = false; rw [hplain] <;> rfl) (Calls.evalArgs_plain ?_)
  exact thn hA fun us s2 ⟨vs, H2, I2, r2, q2⟩ => hm pins s2 σ H2 x vs v us Q I2 r1 r2 q2
/- xs.append(e), list.index on a module's tuple .. are MtR facts of 06m -/
end
end L2

namespace L2
open PySem PySem.Spec PyProof.Rows

def MtM (X : Cx) (id : String) (r : V → List V → Hp → VK → Prop) : Prop :=
  ∀ (pins : List (Addr × Obj)) (s : Shared) (σ : St) (H : Hp) (x : V) (xs : List V) (v : Value) (us : List Value) (Q : VK), Inv X pins σ H s → RelV x v → Vals xs us → r x xs H Q →
    wpAny (model X.prog X.w) X.A (call (.builtin id) (v :: us)) (EP X pins σ Q) X.xe s

/-! ### lists of values -/
theorem Vals.one : ∀ {x : V} {us : List Value}, Vals [x] us → ∃ u, us = [u] ∧ RelV x u
  | _, _, .cons r .nil => ⟨_, rfl, r⟩
theorem Vals.two : ∀ {x y : V} {us : List Value}, Vals [x, y] us → ∃ u v, us = [u, v] ∧ RelV x u ∧ RelV y v
  | _, _, _, .cons r (.cons q .nil) => ⟨_, _, rfl, r, q⟩
section
variable {X : Cx} {pins : List (Addr × Obj)} {σ : St} {H : Hp} {s : Shared} {l b : Addr} {xs ys zs : List V}

/-! ### the two steps: a tracked list is rewritten, a new list is laid -/
theorem Inv.lset {its its' : List Value} {n : Nat} {f : Array Value → Array Value} {t' : Nat} (I : Inv X pins σ H s) (hH : H l = some (.lst xs))
    (e : s.heap.get? l = some { cls := .type "list", data := .seq its.toArray n }) (hf : f its.toArray = its'.toArray) (hv : Vals ys its') (hz : ys.length ≤ sizeLine) :
    Inv X pins σ (upd H l (.lst ys)) { s with heap := s.heap.update l (Obj.mapSeq f), toks := t' } := by
  have q := PySem.IsL.update e f
  rw [hf] at q
  refine I.write (x := l) (e := l) (by rw [hH]; exact trivial) (.inl rfl) (fun b' u hb hu => (Heap.get?_update_other s.heap (Obj.mapSeq f) (Ne.symm hb)).trans hu) ⟨_, q⟩ ?_
  exact ⟨hz, its', _, hv, q⟩
theorem Inv.lnew {its : List Value} {t' : Nat} (I : Inv X pins σ H s) (hv : Vals ys its) (hz : ys.length ≤ sizeLine) :
    Inv X pins σ (upd H s.heap.objs.size (.lst ys)) { s with heap := s.heap.push { cls := .type "list", data := .seq its.toArray }, toks := t' } :=
  I.laid (fun _ _ q => Heap.get?_push_of_some _ q) (Nat.le_refl _) ⟨hz, its, 0, hv, Heap.get?_push_size _ rfl⟩
theorem Inv.fresh (I : Inv X pins σ H s) : H s.heap.objs.size = none := I.hok.fresh (Nat.le_refl _)
theorem Inv.lstM (I : Inv X pins σ H s) (hH : H l = some (.lst xs)) : xs.length ≤ sizeLine ∧ ∃ (its : List Value) (n : Nat), Vals xs its ∧ xs.length = its.length ∧ s.heap.get? l = some { cls := .type "list", data := .seq its.toArray n } := by
  obtain ⟨z, its, n, r, e⟩ := I.hok l _ hH
  exact ⟨z, its, n, r, r.length, e⟩

end

section
variable {X : Cx}

/-! ### methods -/
def rAppend : V → List V → Hp → VK → Prop := fun x vs H Q => ∃ l xs y, x = .ref l ∧ vs = [y] ∧ H l = some (.lst xs) ∧ xs.length < sizeLine ∧ Q .non (upd H l (.lst (xs ++ [y])))
theorem mt_append : MtM X "list.append" rAppend := by
  intro pins s σ H x vs v us Q I rx rv h
  obtain ⟨l, xs, y, rfl, rfl, hH, hz, q⟩ := h
  cases rx
  obtain ⟨u, rfl, ru⟩ := rv.one
  obtain ⟨z, its, n, r, hl, e⟩ := I.lstM hH
  refine call_meets F.slot_list_append ⟨_, e, rfl⟩ F.entry_list_append (F.args_list_append_2 _ _) (PySem.list_append l its.toArray n u (by rw [List.size_toArray]; omega)) ⟨e, ?_⟩
  refine ⟨.non, _, I.lset (its' := its ++ [u]) hH e (by simp) (r.append (.cons ru .nil)) ?_, rfl, q⟩
  rw [List.length_append, List.length_singleton]
  omega

/-! ### list + list, list += list, list * int -/
def rCat : R2 := fun x y H Q => ∃ l b xs zs, x = .ref l ∧ y = .ref b ∧ H l = some (.lst xs) ∧ H b = some (.lst zs) ∧ xs.length + zs.length ≤ sizeLine ∧ ∀ p, H p = none → Q (.ref p) (upd H p (.lst (xs ++ zs)))
theorem op_cat : OpR X (binaryOp .Add) rCat := by
  intro pins s σ H x y v u Q I rx ry h
  obtain ⟨l, b, xs, zs, rfl, rfl, hH, hB, hz, q⟩ := h
  cases rx
  cases ry
  obtain ⟨z, its, n, r, hl, e⟩ := I.lstM hH
  obtain ⟨z2, its2, n2, r2, hl2, e2⟩ := I.lstM hB
  refine PySem.P.add_list e e2 ?_ (by rw [List.size_toArray, List.size_toArray]; omega)
  have ea : its.toArray ++ its2.toArray = (its ++ its2).toArray := by simp
  rw [ea]
  exact ⟨.ref _, _, I.lnew (t' := s.toks) (r.append r2) (by rw [List.length_append]; omega), rfl, q _ I.fresh⟩
/-! ### del xs[i] -/
end

/-! ### xs[a:b] = ys -/
section
variable {prog : Program} {w : World} {A : Around} {E : Value → Shared → Prop} {s : Shared}
end

section
variable {X : Cx}
end
end L2

namespace Att
open PySem PySem.W PySem.Calls PyProof.Rows

/-! ### the script -/
theorem ints_of_wellAll {P : Params} {h : Heap} : ∀ (ns : List Int) (vs : List Value), WellAll P h vs (ns.map WData.int) → IntsAre vs ns := by
  intro ns
  induction ns with
  | nil =>
    intro vs w
    rw [List.map_nil] at w
    cases w
    exact .nil
  | cons n ns ih =>
    intro vs w
    rw [List.map_cons] at w
    cases w with
    | cons a b =>
      cases a
      exact .cons _ _ (ih _ b)

theorem script_of {l : OpenLaw} {n : Nat} (hn : l.most = some n) {P : Params} {h : Heap} {args : List WData} {vals : List Value}
    (hpre : l.row.toRowW.claim.pre args = true) (hwl : WellAll P h vals args) :
    ∃ a vs ns, vals = [Value.ref a] ∧ args = [WData.list (ns.map WData.int)] ∧ h.get? a = some { cls := .type "list", data := .seq vs.toArray } ∧ IntsAre vs ns ∧ ns.length ≤ n := by
  have hsh : WShape.hasAll [] args [.list .int] = true := (pre_splitW hpre).1
  have hc : l.pre.holds [] { args := args } = true := (pre_splitW hpre).2
  obtain ⟨d, r, rfl, h1, h2⟩ := hasAllW_cons hsh
  obtain rfl := hasAllW_nil h2
  obtain ⟨xs, rfl, h3⟩ := hasW_list h1
  obtain ⟨ns, rfl⟩ := items_int h3
  have hlen : ns.length ≤ n := by
    unfold OpenLaw.pre at hc
    have h4 : (WTm.not (.lt (.lit (.int (n : Int))) (.len (.arg 0)))).holds [] { args := [.list (ns.map .int)] } = true := by
      have h4 := (holds_andW hc).1
      rw [hn] at h4
      exact h4
    have h5 := condW_of h4 (w_not (w_lt w_lit (w_len_list (w_arg rfl))))
    rw [List.length_map] at h5
    refine Nat.le_of_not_lt fun q => ?_
    have q' : (n : Int) < ((ns.length : Nat) : Int) := by omega
    first
      | (rw [decide_eq_true q'] at h5; exact absurd h5 (by decide))
      | (simp at h5; omega)
  cases hwl with
  | cons w1 w2 =>
    cases w2
    cases w1 with
    | list ho hall => exact ⟨_, _, ns, rfl, rfl, ho, ints_of_wellAll ns _ hall, hlen⟩

theorem post_true (l : OpenLaw) (args : List WData) : l.row.toRowW.claim.post args (.bool true) args = true :=
  postW_of (r := l.row.toRowW) (X := (true == true))
    (show WShape.has [] (.bool true) .bool = true by first | rfl | decide | simp [WShape.has, WShape.arms, WShape.armsAll])
    (show (WTm.eq .res (.lit (.bool true))).value [] { args := args, res := some (.bool true), after := args } = some (.bool (true == true)) from w_eq_bool (w_res rfl) w_lit) rfl

/-! ### the attachment: holds_open's last premise (the goal 'hc' behind k_head) from a wpAny of the law's body -/
/-- the same from a codeAny of the CALL (for a layer whose function contracts speak of calls) -/
theorem attach_call {l : OpenLaw} {n : Nat} {q : Program} {loose : List Str} {XP : (Str → Option Value) → Heap → Prop} {YP : World → Heap → Prop} {d : DefRec}
    (hn : l.most = some n) (hdf : d.params.defaults = [])
    (call : ∀ (w : World) (s₀ s₁ : Shared) (mg mb : Str → Option Value) (fa : Addr) (o : Obj) (pm cd doc : Value) (a : Addr) (vs : List Value) (ns : List Int),
      Ground q loose [] XP w s₀ mg mb s₁.heap → YP w s₁.heap →
      s₁.heap.get? fa = some o → o.data = .func (docDef d.name d.params d.body d.scope pm cd doc) → s₁.heap.CodeRec cd d.name → mg d.name = some (.ref fa) →
      s₁.heap.get? a = some { cls := .type "list", data := .seq vs.toArray } → IntsAre vs ns → ns.length ≤ n → s₁.gens = #[] →
      codeAny (model l.prog w) callerA (.call (.ref fa) ⟨[.ref a], []⟩) (fun r s' => r = .ok (.ret (.bool true)) ∧ OldK s₁.heap s'.heap ∧ s'.os = s₁.os ∧ AllBare s'.gens) s₁) :
    WalkO q loose XP YP l.row.toRowW d [] (fun f vs => PySem.call f vs) := by
  intro w s₀ s₁ mg mb G Y fa o pm cd doc dV kV ho hd hcd hD hmg hg args vals as hpre hlay hrd hwl hlo
  obtain rfl : dV = .none := Dflts.none hD hdf
  obtain rfl : kV = .none := Dflts.noKw hD
  obtain ⟨a, vs, ns, rfl, rfl, hobj, hints, hlen⟩ := script_of hn hpre hwl
  refine enter_call (codeAny_mono (call w s₀ s₁ mg mb fa o pm cd doc a vs ns G Y ho (fd_plain hd) hcd hmg hobj hints hlen hg) fun r s' hq => ?_)
  obtain ⟨rfl, h2, h3, h4⟩ := hq
  exact ⟨.inl ⟨.bool true, .bool true, [], rfl, fun _ => rfl, .bool true, post_true l _, fun _ => ⟨List.Pairwise.nil, fun _ hm => (nomatch hm)⟩⟩, h2, h3, h4⟩

/-! ### rules over ANY heap (no ledger) from facts about the written part K: the library's own take a ledger (News) for what they write -/
section
variable {prog : Program} {w : World} {A : Around} {E : Value → Shared → Prop} {s : Shared} {K : Frag}

/-! the whole heap as the ledger: makes every rule that writes through a ledger a rule over any heap -/
end
end Att

namespace L2
open PySem PySem.Spec PyProof.Rows

theorem vals_ints : ∀ {vs : List Value} {ns : List Int}, IntsAre vs ns → Vals (ns.map V.int) vs
  | _, _, .nil => .nil
  | _, _, .cons n t h => .cons ⟨t, rfl⟩ (vals_ints h)

/-- nothing is tracked but the script, known to the object (or it is an object of the module) -/
def Only (H : Hp) : Prop := ∀ b, H b = none ∨ ∃ o xs, H b = some (.frz o (.lst xs))

/-- THE HEAD: the law's promise, at the heap behind the top. F, the promise of the law's def, may use that base is part of the heap (so K.In base, base.Ns mainGlobals mg stand in Mod) -/
theorem law_call {P : Program} {w : World} {K : PySem.W.Frag} {mg mb : Str → Option Value} {CX : CXT} {k : Nat} {fa a : Addr} {fd : FuncData} {x : Str} {sp : Sp} {s₁ : Shared} {vs : List Value} {ns : List Int}
    (KX : K.In s₁.heap) (hns : s₁.heap.Ns mainGlobals mg) (hb : s₁.heap.Ns builtinsNs mb) (hbb : ∀ x : Str, x ≠ "__name__" → mb x = bootBuiltins x) (hlim : s₁.heap.NoLimit) (hg : s₁.gens = #[])
    (ha : s₁.heap.get? a = some { cls := .type "list", data := .seq vs.toArray }) (hi : IntsAre vs ns) (hl : ns.length ≤ sizeLine) (hr : Room k callerA)
    (F : ∀ base : Heap, K.In base → base.Ns mainGlobals mg → FnOk P w K mg base CX k fa fd [x] sp) (hbind : ∀ (s : Shared) (u : Value), BindsTo s fd ⟨[u], []⟩ [(x, u)])
    (hsp : ∀ H : Hp, Only H → SqL K H a (ns.map V.int) → sp [.ref a] H (fun v _ => v = .bl true) fun _ _ _ => False)
    (hCX : ∀ H e s', CX [] H s₁ (fun _ _ _ => False) e s' → False) :
    codeAny (model P w) callerA (.call (.ref fa) ⟨[.ref a], []⟩) (fun r s' => r = .ok (.ret (.bool true)) ∧ OldK s₁.heap s'.heap ∧ s'.os = s₁.os ∧ AllBare s'.gens) s₁ := by
  have rv := vals_ints hi
  have lenV := hi.length
  -- from an abstract heap in which nothing but the script may be tracked
  have core : ∀ H : Hp, Only H → SqL K H a (ns.map V.int) → HOk P w H s₁.heap → (∀ b, H b ≠ none → b = a) → (H a ≠ none → K.lookup a = none) →
      codeAny (model P w) callerA (.call (.ref fa) ⟨[.ref a], []⟩) (fun r s' => r = .ok (.ret (.bool true)) ∧ OldK s₁.heap s'.heap ∧ s'.os = s₁.os ∧ AllBare s'.gens) s₁ := by
    intro H hO hS hok hA hK
    have base_of : ∀ {b : Addr} {o : Obj}, s₁.heap.get? b = some o → H b = none → (hidT s₁.heap H).get? b = some o := fun e n => hidT_get e n
    have noA : ∀ {b : Addr} {o : Obj} {es : Array DictEntry} {ep : Nat}, s₁.heap.get? b = some o → o.data = .dict es ep → H b = none := fun {b o es ep} e d => by
      cases q : H b with
      | none => rfl
      | some u =>
        have e' : b = a := hA b (by rw [q]; simp)
        subst e'
        rw [ha] at e; cases e
        have d' : Data.seq vs.toArray _ = Data.dict es ep := d
        cases d'
    have nsK : ∀ {b : Addr} {m : Str → Option Value}, s₁.heap.Ns b m → (hidT s₁.heap H).Ns b m := fun {b m} ⟨o, es, ep, e, d, r⟩ => ⟨o, es, ep, base_of e (noA e d), d, r⟩
    have hKb : K.In (hidT s₁.heap H) := fun b o e => base_of (KX b o e) (by
      cases q : H b with
      | none => rfl
      | some u =>
        have e' : b = a := hA b (by rw [q]; simp)
        subst e'
        rw [hK (by rw [q]; simp)] at e; cases e)
    have hM : Mod K mg (hidT s₁.heap H) := ⟨hKb, nsK hns, ⟨mb, nsK hb, hbb⟩, let ⟨mc, h1, h2⟩ := hlim; ⟨mc, nsK h1, h2⟩⟩
    have e0 : Env0 P w K mg (hidT s₁.heap H) callerA [] s₁ H := ⟨rfl, hM, fun b o e => of_hidT e, Nat.le_of_eq (hidT_size _ _), trivial, fun b hb => absurd (show b ∈ ([] : List Addr) from hb) (by simp), hok, .of_eq hg⟩
    refine codeAny_mono ((F _ hKb (nsK hns)).run callerA [] s₁ H ⟨[.ref a], []⟩ [.ref a] [.ref a] _ _ hr e0 (hbind s₁ (.ref a)) (.cons rfl .nil) (hsp H hO hS)) fun r s' h => ?_
    cases r with
    | error e => exact (hCX H e s' h).elim
    | ok fl =>
      cases fl with
      | next => exact False.elim h
      | brk => exact False.elim h
      | cont => exact False.elim h
      | ret u =>
        obtain ⟨v, H', os, bare, un, hok', r', q⟩ := h
        have q' : v = .bl true := q
        subst q'
        obtain rfl : u = Value.bool true := r'
        refine ⟨rfl, OldK.of_keep fun b o e => ?_, os, bare⟩
        cases q : H b with
        | none => exact un.keep b o e q (by intro z; exact absurd (show b ∈ ([] : List Addr) from z) (by simp)) (by simp)
        | some u =>
          rcases hO b with z | ⟨ob, xs, z⟩
          · rw [q] at z; cases z
          · have z2 := un.frzs b ob _ z
            obtain ⟨e1, _⟩ := hok b _ z
            obtain ⟨e2, _⟩ := hok' b _ z2
            rw [e] at e1; cases e1
            exact e2
  cases hk : K.lookup a with
  | some o =>
    -- the script is one of the module's own objects
    have e := KX a o hk
    rw [ha] at e
    cases e
    refine core (fun _ => none) (fun _ => .inl rfl) (.inr ⟨_, vs.toArray, _, hk, rfl, rfl, rfl, by rw [List.size_toArray, lenV]; exact hl, by simpa using rv⟩) (fun b u z => by have z' : (none : Option HO) = some u := z; cases z') (fun b z => absurd rfl z) fun z => absurd rfl z
  | none =>
    refine core (fun b => if b = a then some (.frz { cls := .type "list", data := .seq vs.toArray } (.lst (ns.map V.int))) else none) (fun b => ?_) (.inl (.inr ⟨{ cls := .type "list", data := .seq vs.toArray }, if_pos rfl⟩)) (fun b u z => ?_) (fun b z => ?_) fun _ => hk
    · by_cases hb : b = a
      · exact .inr ⟨_, _, if_pos hb⟩
      · exact .inl (if_neg hb)
    · by_cases hb : b = a
      · have z' := (if_pos hb).symm.trans z
        cases z'
        subst hb
        exact ⟨ha, by rw [List.length_map]; exact hl, vs, _, rv, ha⟩
      · have z' := (if_neg hb).symm.trans z
        cases z'
    · by_cases hb : b = a
      · exact hb
      · exact absurd (if_neg hb) z
end L2

namespace L2
open PySem PySem.Spec PyProof.Rows

/-- the goal that k_head leaves (case hc), from the law's promise. F gives the function object fd (K's own) once, then the promise over every base -/
theorem walk_of {l : PySem.W.OpenLaw} {n k : Nat} {q : Program} {loose : List Str} {XP : (Str → Option Value) → Heap → Prop} {YP : World → Heap → Prop} {d : DefRec} {K : Params → PySem.W.Frag} {CX : World → CXT} {sp : World → Sp} {x : Str}
    (hn : l.most = some n) (hn2 : n ≤ sizeLine) (hdf : d.params.defaults = []) (hr : Room k callerA)
    (hY : ∀ (w : World) (h : Heap), YP w h → (K w.params).In h)
    (F : ∀ (w : World) (mg : Str → Option Value) (fa : Addr) (h : Heap), (K w.params).In h → h.Ns mainGlobals mg → mg d.name = some (.ref fa) →
      ∃ fd : FuncData, (∀ (s : Shared) (u : Value), BindsTo s fd ⟨[u], []⟩ [(x, u)]) ∧
        ∀ base : Heap, (K w.params).In base → base.Ns mainGlobals mg → FnOk l.prog w (K w.params) mg base (CX w) k fa fd [x] (sp w))
    (hsp : ∀ (w : World) (H : Hp) (a : Addr) (ns : List Int), ns.length ≤ n → Only H → SqL (K w.params) H a (ns.map V.int) → sp w [.ref a] H (fun v _ => v = .bl true) fun _ _ _ => False)
    (hCX : ∀ (w : World) (H : Hp) (s : Shared) (e : Value) (s' : Shared), CX w [] H s (fun _ _ _ => False) e s' → False) :
    PySem.W.WalkO q loose XP YP l.row.toRowW d [] (fun f vs => PySem.call f vs) := by
  refine Att.attach_call hn hdf fun w s₀ s₁ mg mb fa o pm cd doc a vs ns G Y ho hd hcd hmg hobj hints hlen hg => ?_
  have KX := hY w _ Y
  obtain ⟨fd, hb, hF⟩ := F w mg fa _ KX G.T.g hmg
  exact law_call KX G.T.g G.T.b G.T.builtins G.T.nolimit hg hobj hints (Nat.le_trans hlen hn2) hr hF hb (fun H hO hS => hsp w H a ns hlen hO hS) fun H e s' => hCX w H s₁ e s'
end L2

/-! SHORT WORDS over the layer: a def of the text, its body, what a loop and a test want. -/
namespace L2
open PySem PySem.Spec PyProof.Rows

/-! ### the text by places -/
/-- the j-th statement of a class's body -/
def inClass (s : Stmt) (j : Nat) : Stmt := match s with
  | .ClassDef _ _ _ body _ _ _ _ _ _ _ => body.getD j (.Pass ⟨0, 0, 0, 0⟩)
  | _ => .Pass ⟨0, 0, 0, 0⟩
def defArgs (s : Stmt) : Arguments := match s with
  | .FunctionDef _ a _ _ _ _ _ _ _ _ => a
  | _ => { posonlyargs := [], args := [], vararg := none, kwonlyargs := [], kw_defaults := [], kwarg := none, defaults := [] }
def defBody (s : Stmt) : List Stmt := match s with
  | .FunctionDef _ _ b _ _ _ _ _ _ _ => b
  | _ => []
def defScope (s : Stmt) : Scope := match s with
  | .FunctionDef _ _ _ _ _ _ sc _ _ _ => sc
  | _ => { kind := .function, names := [], isGenerator := false, isCoroutine := false }

/-! ### no exception leaves a def -/
abbrev CX0 : CXT := fun _ _ _ _ _ _ => False
abbrev E0 : XK := fun _ _ _ => False
theorem pass0 {X : Cx} : Passes CX0 X E0 := fun _ _ _ _ _ _ _ h => h.elim

/-! ### a def (or method) of the text as it stands behind the top -/
structure Fun (K : PySem.W.Frag) (x qual : Str) (st : Stmt) (f : Addr) (fd : FuncData) : Prop where
  ex : ∃ (oc : Value) (od : Option Addr) (kV doc pm : Value) (an : Option Addr) (cdv ct : Value) (osl : Array (Option Value)),
    fd = PySem.W.fnOf x qual (defArgs st) (defBody st) (defScope st) .none kV doc pm an cdv ct ∧ K.lookup f = some ⟨oc, od, .func fd, osl⟩ ∧ PySem.W.codeIn K cdv qual = true
  kp : PySem.W.keepIn K (.ref f) = true
section
variable {P : Program} {w : World} {K : PySem.W.Frag} {mg : Str → Option Value} {base : Heap}
/-- THE RULE for a def: its body as a term of rules, and the reading of that term -/
theorem Fun.ok {x qual : Str} {st : Stmt} {f : Addr} {fd : FuncData} {N ps : List Str} {k : Nat} {sp : Sp} (F : Fun K x qual st f fd) (S : FnScope N ps (defScope st)) (len : ∀ vs H Q E, sp vs H Q E → vs.length = ps.length)
    (hbody : ∀ (cdv : Value) (A : Around) (outer : List Env) (s : Shared) (H : Hp) (vs : List V) (Q : VK) (E : XK), Room k (A.deeper (envOfC qual (defScope st) s.heap.objs.size f cdv)) → sp vs H Q E →
      ∃ t, PSs (cxOf CX0 P w K mg base N qual (defScope st) f cdv A outer s H E).nox (defBody st) t ∧ t { nx := fun _ H' => Q .non H', rt := Q } (start N vs) H) : FnOk P w K mg base CX0 (k + 1) f fd ps sp := by
  obtain ⟨oc, od, kV, doc, pm, an, cdv, ct, osl, rfl, lk, hcd⟩ := F.ex
  refine fn_of lk hcd S len fun A outer s H vs Q E hr hsp => ?_
  obtain ⟨t, h, q⟩ := hbody cdv A outer s H vs Q E hr hsp
  exact ⟨t, h.nox, q⟩
/-- how its arguments bind (no defaults): h is «fun _ _ _ _ _ _ us hl => match us, hl with | [_, _], _ => rfl», one _ a parameter -/
theorem Fun.binds {x qual : Str} {st : Stmt} {f : Addr} {fd : FuncData} {ps : List Str} (F : Fun K x qual st f fd)
    (h : ∀ (kV doc pm : Value) (an : Option Addr) (cdv ct : Value) (us : List Value), us.length = ps.length → bindArgs (PySem.W.fnOf x qual (defArgs st) (defBody st) (defScope st) .none kV doc pm an cdv ct) ⟨us, []⟩ = pure (ps.zip us)) : Binds K fd ps [] := by
  obtain ⟨oc, od, kV, doc, pm, an, cdv, ct, osl, rfl, lk, hcd⟩ := F.ex
  exact .all (h kV doc pm an cdv ct)
theorem fun_mk {x qual : Str} {st : Stmt} {f : Addr} {oc : Value} {od an : Option Addr} {osl : Array (Option Value)} {kV doc pm cdv ct : Value} (l : K.lookup f = some ⟨oc, od, .func (PySem.W.fnOf x qual (defArgs st) (defBody st) (defScope st) .none kV doc pm an cdv ct), osl⟩)
    (c : PySem.W.codeIn K cdv qual = true) (k : PySem.W.keepIn K (.ref f) = true) : Fun K x qual st f (PySem.W.fnOf x qual (defArgs st) (defBody st) (defScope st) .none kV doc pm an cdv ct) := ⟨⟨oc, od, kV, doc, pm, an, cdv, ct, osl, rfl, l, c⟩, k⟩
end
theorem hu_of {A : Around} {k : Nat} (hr : Room k A) : A.units + 1 < cLine := Nat.lt_of_le_of_lt (Nat.add_le_add_left (by decide : 1 ≤ 64) _) hr.units
theorem small1000 {n : Nat} (h : n ≤ 1000) : n < sizeLine := Nat.lt_of_le_of_lt h (by decide)

/-! ### expressions in short: the name that stands in the i-th slot -/
section
variable {X : Cx}
theorem pv (i : Nat) {x : Str} {pos : Pos} (hN : X.N[i]? = some x := by rfl) (hv : Vis X.env.scope x := by first | exact Or.inl rfl | exact Or.inr (Or.inl rfl) | exact Or.inr (Or.inr rfl)) (hd : (x == ("__debug__" : Str)) = false := by decide)
    (hcd : (x == ("__classdict__" : Str)) = false := by decide) : PE X (.Name x pos) (tVar i) := pe_var hN hv hd hcd
end

/-! ### tests -/
theorem iteF {A B : Prop} (h : B) : if false = true then A else B := by
  rw [if_neg Bool.false_ne_true]
  exact h
theorem iteT {A B : Prop} (h : A) : if true = true then A else B := by
  rw [if_pos rfl]
  exact h
theorem ite2 {c A B : Prop} [Decidable c] (h1 : c → A) (h2 : ¬ c → B) : if c then A else B := by
  by_cases h : c
  · rw [if_pos h]
    exact h1 h
  · rw [if_neg h]
    exact h2 h
/-! ### heaps -/
/-- all that was tracked is as it was -/
def Same (H H' : Hp) : Prop := ∀ b o, H b = some o → H' b = some o
theorem Same.refl (H : Hp) : Same H H := fun _ _ h => h
theorem Same.trans {H H1 H2 : Hp} (a : Same H H1) (b : Same H1 H2) : Same H H2 := fun c o h => b c o (a c o h)
theorem Same.free {H H' : Hp} (e : Same H H') {l : Addr} (h : H' l = Option.none) : H l = Option.none := by
  cases q : H l with
  | none => rfl
  | some o =>
    rw [e l o q] at h
    cases h
theorem Same.seq {K : PySem.W.Frag} {H H' : Hp} {a : Addr} {xs : List V} (e : Same H H') (h : SqL K H a xs) : SqL K H' a xs := by
  rcases h with (h | ⟨o, h⟩) | h
  · exact .inl (.inl (e _ _ h))
  · exact .inl (.inr ⟨o, e _ _ h⟩)
  · exact .inr h

end L2

set_option linter.all false
set_option maxRecDepth 100000
set_option maxHeartbeats 4000000
/-! Comprehensions for the hand layer. -/
namespace L2
open PySem PySem.Spec PyProof.Rows

theorem closureFor_ok {scope : Scope} {env : Env} (h : ∀ y ∈ scope.names, y.2 = .free → ∃ c, env.cells.lookup y.1 = some c) :
    ∃ cl, closureFor scope env = pure cl ∧ (∀ y ∈ scope.names, y.2 = NameKind.free → cl.lookup y.1 = env.cells.lookup y.1) ∧ (∀ x c, cl.lookup x = some c → env.cells.lookup x = some c) := by
  have key : ∀ (names : List (Str × NameKind)) (acc : List (Str × Addr)) (f : Str × NameKind → List (Str × Addr) → Sem (ForInStep (List (Str × Addr)))),
      (∀ x cs, f x cs = if (x.2 == NameKind.free) = true then (cellOf env x.1 >>= fun a => pure (ForInStep.yield ((x.1, a) :: cs))) else pure (ForInStep.yield cs)) →
      (∀ y ∈ names, y.2 = .free → ∃ c, env.cells.lookup y.1 = some c) → (∀ x c, acc.lookup x = some c → env.cells.lookup x = some c) →
      ∃ cl, forIn names acc f = pure cl ∧ (∀ x c, acc.lookup x = some c → cl.lookup x = env.cells.lookup x) ∧ (∀ y ∈ names, y.2 = NameKind.free → cl.lookup y.1 = env.cells.lookup y.1) ∧ (∀ x c, cl.lookup x = some c → env.cells.lookup x = some c) := by
    intro names
    induction names with
    | nil =>
      intro acc f _ _ ha
      exact ⟨acc, rfl, fun x c e => by rw [e, ha x c e], fun _ h => (nomatch h), ha⟩
    | cons y r ih =>
      intro acc f hf hn ha
      obtain ⟨n, k⟩ := y
      rw [List.forIn_cons, hf]
      by_cases hk : k = .free
      · subst hk
        obtain ⟨c, hc⟩ := hn (n, .free) List.mem_cons_self rfl
        have hc' : cellOf env n = pure c := by unfold cellOf; rw [hc]
        have ha' : ∀ x d, ((n, c) :: acc).lookup x = some d → env.cells.lookup x = some d := fun x d e => by
          rw [List.lookup_cons] at e
          cases hx : x == n with
          | true =>
            rw [hx] at e
            have e' : c = d := Option.some.inj e
            have hx' : x = n := by simpa using hx
            rw [hx', hc, e']
          | false =>
            rw [hx] at e
            exact ha x d e
        obtain ⟨cl, e, h1, h2, h3⟩ := ih ((n, c) :: acc) f hf (fun y hy => hn y (List.mem_cons_of_mem _ hy)) ha'
        refine ⟨cl, ?_, fun x d ex => ?_, fun y hy hyf => ?_, h3⟩
        · rw [if_pos (by rfl)]
          show ((cellOf env n >>= fun a => pure (ForInStep.yield ((n, a) :: acc))) >>= _) = pure cl
          rw [hc', pure_bind, pure_bind]
          exact e
        · by_cases hxn : x = n
          · subst hxn
            exact h1 x c (by rw [List.lookup_cons, beq_self_eq_true])
          · refine h1 x d ?_
            rw [List.lookup_cons, beq_eq_false_iff_ne.mpr hxn]
            exact ex
        · rcases List.mem_cons.mp hy with rfl | hy
          · exact h1 _ c (by rw [List.lookup_cons, beq_self_eq_true])
          · exact h2 y hy hyf
      · have hb : (k == NameKind.free) = false := by simpa using hk
        obtain ⟨cl, e, h1, h2, h3⟩ := ih acc f hf (fun y hy => hn y (List.mem_cons_of_mem _ hy)) ha
        refine ⟨cl, ?_, h1, fun y hy hyf => ?_, h3⟩
        · show ((if (k == NameKind.free) = true then _ else pure (ForInStep.yield acc)) >>= _) = pure cl
          rw [if_neg (by rw [hb]; exact Bool.false_ne_true), pure_bind]
          exact e
        · rcases List.mem_cons.mp hy with rfl | hy
          · exact absurd hyf hk
          · exact h2 y hy hyf
  have z := key scope.names [] (fun x cs => if (x.2 == NameKind.free) = true then (cellOf env x.1 >>= fun a => pure (ForInStep.yield ((x.1, a) :: cs))) else pure (ForInStep.yield cs)) (fun _ _ => rfl) h (fun _ _ e => (nomatch e))
  obtain ⟨cl, e, _, h2, h3⟩ := z
  refine ⟨cl, ?_, h2, h3⟩
  show (forIn scope.names [] _ >>= pure) = pure cl
  exact (congrArg (· >>= pure) e).trans (pure_bind _ _)

/-- the context of a comprehension's block -/
abbrev compX (X : Cx) (scope : Scope) (N : List Str) (s₀ : Shared) (H₀ : Hp) (cl : List (Str × Addr)) (C : Addr) (ex : List Addr) : Cx :=
  { prog := X.prog, w := X.w, K := X.K, mg := X.mg, base := X.base, A := X.A, N := N, s₀ := s₀, H₀ := H₀, env := compEnvC scope cl C X.env,
    outer := X.stack, stack := X.stack, ex := ex, fn := fun _ => false, calm := X.calm, pn := [], xe := fun _ _ => False }

/-- the loop of a comprehension, an item at a time; nothing raises -/
theorem compLoop_any {prog : Program} {w : World} {A : Around} {R : Result → Shared → Prop} {s : Shared} {elt target iter : Expr} {ifs : List Expr} {scope : Scope} {pos : Pos} {it acc : Value} {env : Env} (I : Nat → Shared → Prop)
    (turn : ∀ n s, I n s → wpAny (model prog w) A (pyNext it) (fun r s₁ => match r with
      | none => R (.ok .next) s₁
      | some v => wpAny (model prog w) A (letOwnedTupleGo target it v) (fun _ s₁' => wpAny (model prog w) A (assign target env v) (fun _ s₂ =>
          wpAny (model prog w) A (forIn ifs true fun c r => if r = true then do let ok ← isTrue c env (eval c env); pure (ForInStep.yield ok) else pure (ForInStep.yield r)) (fun ok s₃ =>
            if ok = true then wpAny (model prog w) A (eval elt env) (fun x s₄ =>
              wpAny (model prog w) A (call (.builtin "list.append") [acc, x]) (fun _ s₅ => ∃ m, m < n ∧ I m s₅) (fun _ _ => False) s₄) (fun _ _ => False) s₃
            else ∃ m, m < n ∧ I m s₃) (fun _ _ => False) s₂) (fun _ _ => False) s₁') (fun _ _ => False) s₁) (fun _ _ => False) s)
    (n : Nat) (h : I n s) :
    codeAny (model prog w) A (.compLoop (.ListComp elt [⟨target, iter, ifs, 0⟩] scope pos) 0 it acc env) R s := by
  refine codeAny_loop rfl I (fun n s hI => ?_) n h
  show wpAny _ A ((compTurn (.ListComp elt [⟨target, iter, ifs, 0⟩] scope pos) 0 it acc env).onRaise (fun x => do noteFrame x env; theTreesLotGoes x)) _ _ s
  refine wpAny_noted ?_
  rw [compTurn_list]
  refine wpAny_bind (wpAny_standAt (wpAny_bind (wpAny_mono (turn n s hI) (fun r s₁ h₁ => ?_) fun _ _ z => z.elim)))
  cases r with
  | none => exact wpAny_pure h₁
  | some v =>
    refine wpAny_bind (wpAny_mono h₁ (fun _ s₁' h₁' => ?_) fun _ _ z => z.elim)
    refine wpAny_bind (wpAny_mono h₁' (fun _ s₂ h₂ => wpAny_bind (wpAny_mono h₂ (fun ok s₃ h₃ => ?_) fun _ _ z => z.elim)) fun _ _ z => z.elim)
    cases ok with
    | false => exact wpAny_pure ⟨rfl, h₃⟩
    | true =>
      exact wpAny_bind (wpAny_bind (wpAny_mono h₃ (fun x s₄ h₄ => wpAny_bind (wpAny_mono h₄ (fun _ s₅ h₅ => wpAny_pure (wpAny_pure ⟨rfl, h₅⟩)) fun _ _ z => z.elim)) fun _ _ z => z.elim))

/-- the tests of a comprehension -/
def PIfs (X : Cx) (ifs : List Expr) (t : TT) : Prop :=
  ∀ (pins : List (Addr × Obj)) (s : Shared) (σ : St) (H : Hp) (Q : Bool → Hp → Prop), Inv X pins σ H s → t σ H Q →
    wpAny (model X.prog X.w) X.A (forIn ifs true fun c r => if r = true then do let ok ← isTrue c X.env (eval c X.env); pure (ForInStep.yield ok) else pure (ForInStep.yield r)) (TP X pins σ Q) X.xe s
def tYes : TT := fun _ H Q => Q true H
theorem pifs_nil {X : Cx} : PIfs X [] tYes := fun _ _ _ H _ I h => wpAny_tests_nil ⟨H, I, h⟩
theorem pifs_one {X : Cx} {c : Expr} {t : TT} (hc : PT X c t) : PIfs X [c] t := fun pins s σ H Q I h => wpAny_tests_one (hc pins s σ H Q I h)

/-- what the loop of a comprehension is worth -/
def CompW (J : It) (H1 : Hp) (σ0 : St) (g : TG) (tc : TT) (te : TE) (Q : VK) : Prop := ∀ D, H1 D = none →
  ∃ W : Nat → Nat → St → List V → Hp → Prop, (∃ m, W 0 m σ0 [] (upd H1 D (.lst []))) ∧ ∀ i m σ1 ys H, W i m σ1 ys H →
    (J.stop i H ∧ Q (.ref D) H) ∨ (J.go i H ∧ ∀ x H', J.yld i H x H' → g x σ1 H' fun σ2 H2 => tc σ2 H2 fun b H3 =>
       if b = true then te σ2 H3 fun y H4 => H4 D = some (.lst ys) ∧ ys.length < sizeLine ∧ ∃ m', m' < m ∧ W (i + 1) m' σ2 (ys ++ [y]) (upd H4 D (.lst (ys ++ [y])))
       else ∃ m', m' < m ∧ W (i + 1) m' σ2 ys H3)
/-- what a comprehension is worth -/
def tComp (wi : TI) (sub : St → St) (g : TG) (tc : TT) (te : TE) : TE := fun σ H Q => wi σ H fun J H1 => CompW J H1 (sub σ) g tc te Q
/-- the block's slots: those that it takes over from the frame -/
def subσ (js : List (Option Nat)) (σ : St) : St := js.map fun o => o.bind fun j => (σ[j]?).join

theorem lookup_relabel_free {env : Env} : ∀ {names : List (Str × NameKind)} {x : Str}, names.lookup x = some .free →
    (names.map fun (n, k) => if (k == NameKind.free && env.scope.kind == .function && env.kindOf n == some .cell) then (n, NameKind.cell) else (n, k)).lookup x = some .cell ∨
    (names.map fun (n, k) => if (k == NameKind.free && env.scope.kind == .function && env.kindOf n == some .cell) then (n, NameKind.cell) else (n, k)).lookup x = some .free
  | [], _, h => by simp at h
  | (n, k) :: r, x, h => by
    have ih := @lookup_relabel_free env r x
    show List.lookup x ((if (k == NameKind.free && env.scope.kind == .function && env.kindOf n == some .cell) = true then (n, NameKind.cell) else (n, k)) :: _) = _ ∨ List.lookup x ((if (k == NameKind.free && env.scope.kind == .function && env.kindOf n == some .cell) = true then (n, NameKind.cell) else (n, k)) :: _) = _
    cases hx : x == n with
    | true =>
      simp only [List.lookup_cons, hx] at h
      cases h
      by_cases hc : (NameKind.free == NameKind.free && env.scope.kind == .function && env.kindOf n == some .cell) = true
      · rw [if_pos hc]; left; simp only [List.lookup_cons, hx]
      · rw [if_neg hc]; right; simp only [List.lookup_cons, hx]
    | false =>
      simp only [List.lookup_cons, hx] at h
      by_cases hc : (k == NameKind.free && env.scope.kind == .function && env.kindOf n == some .cell) = true
      · rw [if_pos hc]; simp only [List.lookup_cons, hx]; exact ih h
      · rw [if_neg hc]; simp only [List.lookup_cons, hx]; exact ih h
/-- a name of the block that is a cell or free there was free in its scope -/
theorem relabel_back {env : Env} : ∀ {names : List (Str × NameKind)} {x : Str}, (∀ y ∈ names, y.2 ≠ NameKind.cell) →
    ((names.map fun (n, k) => if (k == NameKind.free && env.scope.kind == .function && env.kindOf n == some .cell) then (n, NameKind.cell) else (n, k)).lookup x = some .cell ∨
    (names.map fun (n, k) => if (k == NameKind.free && env.scope.kind == .function && env.kindOf n == some .cell) then (n, NameKind.cell) else (n, k)).lookup x = some .free) → (x, NameKind.free) ∈ names
  | [], _, _, h => by simp at h
  | (n, k) :: r, x, hn, h => by
    have ih := @relabel_back env r x fun y hy => hn y (List.mem_cons_of_mem _ hy)
    have hk : k ≠ .cell := hn (n, k) List.mem_cons_self
    change List.lookup x ((if (k == NameKind.free && env.scope.kind == .function && env.kindOf n == some .cell) = true then (n, NameKind.cell) else (n, k)) :: _) = _ ∨ List.lookup x ((if (k == NameKind.free && env.scope.kind == .function && env.kindOf n == some .cell) = true then (n, NameKind.cell) else (n, k)) :: _) = _ at h
    cases hx : x == n with
    | true =>
      have hx' : x = n := by simpa using hx
      subst hx'
      by_cases hc : (k == NameKind.free && env.scope.kind == .function && env.kindOf x == some .cell) = true
      · have : k = .free := by
          have := (Bool.and_eq_true _ _).mp ((Bool.and_eq_true _ _).mp hc).1
          simpa using this.1
        subst this
        exact List.mem_cons_self
      · rw [if_neg hc] at h
        simp only [List.lookup_cons, beq_self_eq_true] at h
        rcases h with h | h
        · exact absurd (Option.some.inj h) hk
        · have := Option.some.inj h
          subst this
          exact List.mem_cons_self
    | false =>
      by_cases hc : (k == NameKind.free && env.scope.kind == .function && env.kindOf n == some .cell) = true
      · rw [if_pos hc] at h; simp only [List.lookup_cons, hx] at h; exact List.mem_cons_of_mem _ (ih h)
      · rw [if_neg hc] at h; simp only [List.lookup_cons, hx] at h; exact List.mem_cons_of_mem _ (ih h)

section
variable {X : Cx} {elt tg iter : Expr} {ifs : List Expr} {scope : Scope} {pos : Pos} {N : List Str} {js : List (Option Nat)} {wi : TI} {g : TG} {tc : TT} {te : TE}
/-- the scope of a comprehension in a frame of scope osc and names ON: no cells of its own; its free names are the frame's cells; the slots taken over bear their names -/
structure CompScope (osc : Scope) (ON : List Str) (scope : Scope) (N : List Str) (js : List (Option Nat)) : Prop where
  kind : scope.kind = .function
  cell : ∀ y ∈ scope.names, y.2 ≠ .cell
  names : ∀ y ∈ scope.names, y.2 = .local → scope.names.lookup y.1 = some .local
  free : ∀ y ∈ scope.names, y.2 = .free → osc.names.lookup y.1 = some .cell ∨ osc.names.lookup y.1 = some .free
  len : js.length = N.length
  slots : (js.zip N).all (fun p => match p.1 with | none => true | some j => decide (ON[j]? = some p.2) && decide (scope.names.lookup p.2 = some .free)) = true
theorem CompScope.sub {osc : Scope} {ON : List Str} {scope : Scope} {N : List Str} {js : List (Option Nat)} (cs : CompScope osc ON scope N js) : ∀ (i j : Nat), js[i]? = some (some j) → ∃ x, N[i]? = some x ∧ ON[j]? = some x ∧ scope.names.lookup x = some .free := by
  intro i j h
  have hi : i < js.length := (List.getElem?_eq_some_iff.mp h).1
  have hN : N[i]? = some (N[i]'(by rw [← cs.len]; exact hi)) := List.getElem?_eq_getElem _
  have hz : (js.zip N)[i]? = some (some j, N[i]'(by rw [← cs.len]; exact hi)) := by
    rw [List.getElem?_zip_eq_some]
    exact ⟨h, hN⟩
  have hm := List.all_eq_true.mp cs.slots _ (List.mem_of_getElem? hz)
  have hm2 := (Bool.and_eq_true _ _).mp hm
  exact ⟨_, hN, of_decide_eq_true hm2.1, of_decide_eq_true hm2.2⟩

theorem mem_of_lookup {α : Type} : ∀ {l : List (Str × α)} {x : Str} {k : α}, l.lookup x = some k → (x, k) ∈ l
  | [], _, _, h => by simp at h
  | (n, v) :: r, x, k, h => by
    rw [List.lookup_cons] at h
    cases hx : x == n with
    | true =>
      rw [hx] at h
      have hx' : x = n := by simpa using hx
      have : v = k := Option.some.inj h
      subst hx' this
      exact List.mem_cons_self
    | false =>
      rw [hx] at h
      exact List.mem_cons_of_mem _ (mem_of_lookup h)

theorem pe_comp {osc : Scope} {ON : List Str} (cs : CompScope osc ON scope N js) (ho : X.env.scope = osc) (hON : X.N = ON) (hc : X.calm = true) (hi : PI X tg iter wi)
    (hg : ∀ s₀ H₀ cl C ex, PG (compX X scope N s₀ H₀ cl C ex) tg g) (hif : ∀ s₀ H₀ cl C ex, PIfs (compX X scope N s₀ H₀ cl C ex) ifs tc) (he : ∀ s₀ H₀ cl C ex, PE (compX X scope N s₀ H₀ cl C ex) elt te)
    (hs : ∀ x, foldedSetIterable iter X.env x = pure x := by intro _; rfl) : PE X (.ListComp elt [⟨tg, iter, ifs, 0⟩] scope pos) (tComp wi (subσ js) g tc te) := by
  intro pins s σ H Q I h
  subst ho hON
  obtain ⟨cl, hcl, cl1, cl2⟩ := closureFor_ok (scope := scope) (env := X.env) fun y hy hf => I.ok.has y.1 (cs.free y hy hf)
  rw [eval_ListComp]
  refine wpAny_comprehension_free (use := none) rfl hs hcl cs.kind cs.names ?_
  refine thn (hi pins s σ H _ I h) fun v s1 h1 => thn h1 fun itv s2 h2 => ?_
  obtain ⟨it, fp, tn, J, H2, e, I2, T, st2, f2, hW⟩ := h2
  subst e
  have hD0 : H2 s2.heap.objs.size = none := I2.hok.fresh (Nat.le_refl _)
  obtain ⟨W, ⟨m0, w0⟩, turn⟩ := hW s2.heap.objs.size hD0
  have I3 := I2.lnew (t' := s2.toks) (ys := []) (its := []) .nil (Nat.zero_le _)
  refine wpAny_newObj_type (wpAny_newFunctionEnv cs.cell (by intro y hy; simp at hy) (fun h₁ hns₁ hsb₁ => ?_) cs.kind)
  dsimp only at hns₁ hsb₁ ⊢
  -- the state with the new list: s3
  obtain ⟨s3, hs3⟩ : ∃ s3 : Shared, s3 = { s2 with heap := s2.heap.push { cls := .type "list", data := .seq ([] : List Value).toArray }, toks := s2.toks } := ⟨_, rfl⟩
  rw [← hs3] at I3
  have e3 : s3.heap = s2.heap.push { cls := .type "list", dict := none, data := .seq ([] : List Value).toArray } := by rw [hs3]
  have e3o : s3.os = s2.os := by rw [hs3]
  have e3g : s3.gens = s2.gens := by rw [hs3]
  rw [← e3] at hns₁ hsb₁ ⊢
  obtain ⟨H3, hH3⟩ : ∃ H3 : Hp, H3 = upd H2 s2.heap.objs.size (.lst []) := ⟨_, rfl⟩
  rw [← hH3] at I3 w0
  have up1 : ∀ b o, s2.heap.get? b = some o → s3.heap.get? b = some o := fun b o q => by rw [e3]; exact Heap.get?_push_of_some _ q
  have up2 : ∀ b o, s3.heap.get? b = some o → h₁.get? b = some o := fun b o q => hsb₁.extBut b o (Nat.ne_of_lt (Heap.lt_size q)) (Heap.get?_push_of_some _ q)
  have fpo : ∀ b ∈ fp, ∃ o, s3.heap.get? b = some o := fun b hb => by
    obtain ⟨o, ho, _⟩ := T.obj 0 _ st2 b hb
    exact ⟨o, up1 b o ho⟩
  have fr3 : ∀ b ∈ fp, H3 b = none := fun b hb => by
    obtain ⟨o, ho, _⟩ := T.obj 0 _ st2 b hb
    rw [hH3, upd_ne (Nat.ne_of_lt (Heap.lt_size ho))]
    exact (f2 b hb).1
  have fpC : ∀ b ∈ fp, b ≠ s3.heap.objs.size := fun b hb => by
    obtain ⟨o, ho⟩ := fpo b hb
    exact Nat.ne_of_lt (Heap.lt_size ho)
  have fpS : ∀ b ∈ fp, b ∉ frs X.stack := fun b hb hs' => by
    rcases List.mem_cons.mp (I2.stkSub b hs') with z | z
    · exact (f2 b hb).2.1 z
    · exact (f2 b hb).2.2.1 z
  have ok' : (compX X scope N s3 H3 cl s3.heap.objs.size fp).Ok := by
    refine ⟨I.ok.mod, cs.kind, I.ok.glob, I.ok.blt, Nat.le_refl _, fun x y c e1 e2 => I.ok.inj x y c (cl2 x c e1) (cl2 y c e2), fun x hx => ?_, fun x c hf => (nomatch hf), I.ok.hd, I.ok.frames, .inl rfl, fun b hb => ⟨fpC b hb, fun x c e => (f2 b hb).2.2.2.2.1 x c (cl2 x c e)⟩,
      I3.bs, Nat.le_trans I.ok.bsz I3.sz, fun b o e hb => ?_, fun b hb => fpS b hb, I3.stack, I3.stkFree⟩
    · have hm : (x, NameKind.free) ∈ scope.names := relabel_back cs.cell hx
      obtain ⟨c, hc⟩ := I.ok.has x (cs.free _ hm rfl)
      exact ⟨c, (cl1 _ hm rfl).trans hc⟩
    · rcases (f2 b hb).2.2.2.1 with z | z
      · exact I.ok.noex b o e z
      · exact absurd (Nat.lt_of_lt_of_le (Heap.lt_size e) (Nat.le_trans I.ok.bsz z)) (Nat.lt_irrefl _)
  have cellK : ∀ c v, s3.heap.IsCell c v → h₁.IsCell c v := fun c v ⟨o, ho, hd⟩ => ⟨o, up2 c o ho, hd⟩
  have I4 : ∀ t : Nat, Inv (compX X scope N s3 H3 cl s3.heap.objs.size fp) [] (subσ js σ) H3 { s2 with heap := h₁, toks := t } := fun t => by
    refine ⟨ok', e3o.symm, I2.bare, Un.kept up2, ⟨_, hns₁, fun i x v hi hv hx => ?_⟩, fun x c e => ?_, I3.hok.fresh (Nat.le_refl _), fun x c e => I3.freeC x c (cl2 x c e), fun p hp => (nomatch hp), I3.hok.kept up2, ?_⟩
    · -- a slot taken over
      have hv' : ∃ j, js[i]? = some (some j) ∧ σ[j]? = some (some v) := by
        unfold subσ at hv
        rw [List.getElem?_map] at hv
        cases hj : js[i]? with
        | none => rw [hj] at hv; cases hv
        | some o =>
          rw [hj] at hv
          cases o with
          | none => cases hv
          | some j =>
            refine ⟨j, rfl, ?_⟩
            have hv2 : (σ[j]?).join = some v := Option.some.inj hv
            cases hs2 : σ[j]? with
            | none => rw [hs2] at hv2; cases hv2
            | some u => rw [hs2] at hv2; exact congrArg some hv2
      obtain ⟨j, hj, hσ⟩ := hv'
      obtain ⟨x', h1', h2', h3'⟩ := cs.sub i j hj
      have hxx : x = x' := Option.some.inj (hi.symm.trans h1')
      subst hxx
      have hm : (x, NameKind.free) ∈ scope.names := mem_of_lookup h3'
      have hk := cs.free _ hm rfl
      obtain ⟨m, hn, hl⟩ := id I3.loc
      obtain ⟨u, ru, lk⟩ := hl j x v h2' hσ (by rcases hk with z | z; exact .inr (.inl z); exact .inr (.inr z))
      refine ⟨u, ru, ?_⟩
      rcases lk with ⟨k1, _⟩ | ⟨k1, c, e1, z⟩
      · rcases hk with z | z <;> (rw [show X.env.kindOf x = _ from z] at k1; cases k1)
      · exact .inr ⟨lookup_relabel_free h3', c, (cl1 _ hm rfl).trans e1, cellK c _ z⟩
    · obtain ⟨v, z⟩ := I3.cell x c (cl2 x c e)
      exact ⟨v, cellK c v z⟩
    · unfold subσ
      rw [List.length_map]
      exact cs.len
  have hst₁ : tn 0 h₁ := T.keep 0 _ _ st2 fun b hb o q => up2 b o (up1 b o q)
  have stat : ∀ {H' : Hp}, (∀ b ∈ fp, H' b = none) → ∀ b ∈ fp, FpOk (compX X scope N s3 H3 cl s3.heap.objs.size fp) [] H' b := fun hn b hb =>
    ⟨hn b hb, fpC b hb, fpS b hb, .inl hb, fun x c e => (f2 b hb).2.2.2.2.1 x c (cl2 x c e), fun p hp => (nomatch hp)⟩
  have loop : ∀ s4 : Shared, (∃ t, s4 = { s2 with heap := h₁, toks := t }) →
      codeAny (model X.prog X.w) X.A (.compLoop (.ListComp elt [⟨tg, iter, ifs, 0⟩] scope pos) 0 (.ref it) (.ref s2.heap.objs.size) (compEnvC scope cl s3.heap.objs.size X.env))
        (compPost (model X.prog X.w) X.A X.xe none (EP X pins σ Q) (.ref s2.heap.objs.size) s3.heap.objs.size) s4 := by
    rintro s4 ⟨t, rfl⟩
    refine compLoop_any (fun n s' => ∃ i σ' ys H', Inv (compX X scope N s3 H3 cl s3.heap.objs.size fp) [] σ' H' s' ∧ tn i s'.heap ∧ (∀ b ∈ fp, H' b = none) ∧ W i n σ' ys H') ?_ m0 ⟨0, _, [], H3, I4 t, hst₁, fr3, w0⟩
    rintro n s5 ⟨i, σ5, ys, H5, I5, st5, fr5, w5⟩
    rcases turn i n σ5 ys H5 w5 with ⟨stop, qn⟩ | ⟨go, step⟩
    · refine thn (T.done (compX X scope N s3 H3 cl s3.heap.objs.size fp) rfl rfl rfl hc i [] s5 σ5 H5 _ I5 (stat fr5) st5 stop) fun r s6 ⟨hr, I6⟩ => ?_
      subst hr
      obtain ⟨m, hn, _⟩ := id I6.loc
      refine ⟨m, hn, fun h' hs' => ⟨.ref s2.heap.objs.size, H5, ?_, rfl, qn⟩⟩
      have neC : ∀ b o, s3.heap.get? b = some o → b ≠ s3.heap.objs.size := fun b o q => Nat.ne_of_lt (Heap.lt_size q)
      have un : Un (frs X.stack) fp H3 H5 s3.heap h' :=
        ⟨fun b o q n1 hb hx => (hs'.2 b (neC b o q)).trans (I6.base.keep b o q n1 hb hx),
         fun b o q n1 hb hx => by
           obtain ⟨sl, e⟩ := I6.base.slot b o q n1 hb hx
           exact ⟨sl, (hs'.2 b (neC b o q)).trans e⟩,
         fun b o q n1 hx => I6.base.free b o q n1 hx,
         fun b o q hx => by
           obtain ⟨o', e⟩ := I6.base.there b o q hx
           exact ⟨o', (hs'.2 b (neC b o q)).trans e⟩,
         I6.base.tups, I6.base.frzs, I6.base.tbls⟩
      refine I3.call' (ch := fp) (s' := { s6 with heap := h' }) I6.os un (fun b ob e => ?_) I6.bare (fun b hb => ⟨(f2 b hb).2.2.2.1, (f2 b hb).2.1, (f2 b hb).2.2.2.2.1, (f2 b hb).2.2.2.2.2⟩)
      refine (I6.hok b ob e).stay (fun c w' hc' q => (hs'.2 c ?_).trans q) (fun _ q => q) fun _ _ q => q
      rintro rfl
      have fC : H5 s3.heap.objs.size = none := I6.free
      rcases hc' with z | z
      · rw [← z, fC] at e; cases e
      · rw [fC] at z; cases z
    · refine thn (T.item (compX X scope N s3 H3 cl s3.heap.objs.size fp) rfl rfl rfl hc i [] s5 σ5 H5 _ I5 (stat fr5) st5 go) fun r s6 ⟨u, hr, h6⟩ => ?_
      subst hr
      refine thn h6 fun _ s7 ⟨x, H7, I7, r7, y7, st7, fr7⟩ => ?_
      have I7' := I7.pinned (stat fr7) (T.obj _ _ st7)
      refine thn (hg _ _ _ _ _ _ s7 σ5 H7 x u _ I7' r7 (step x H7 y7)) fun _ s8 ⟨σ8, H8, I8, q8⟩ => ?_
      refine thn (hif _ _ _ _ _ _ s8 σ8 H8 _ I8 q8) fun ok s9 ⟨H9, I9, q9⟩ => ?_
      have again : ∀ {σ' : St} {H' : Hp} {s' : Shared}, Inv (compX X scope N s3 H3 cl s3.heap.objs.size fp) ([] ++ pinsAt fp s7.heap) σ' H' s' →
          Inv (compX X scope N s3 H3 cl s3.heap.objs.size fp) [] σ' H' s' ∧ tn (i + 1) s'.heap ∧ ∀ b ∈ fp, H' b = none := fun {σ' H' s'} I' => by
        refine ⟨I'.unpinned, T.keep _ _ _ st7 fun b hb o e => (I'.pin (b, o) (List.mem_append_right _ (List.mem_append_right _ (mem_pinsAt hb e)))).1, fun b hb => ?_⟩
        obtain ⟨o, e, d⟩ := T.obj _ _ st7 b hb
        exact (I'.pin (b, o) (List.mem_append_right _ (List.mem_append_right _ (mem_pinsAt hb e)))).2.1
      cases ok with
      | false =>
        rw [if_neg Bool.false_ne_true] at q9 ⊢
        obtain ⟨m', hm, w9⟩ := q9
        obtain ⟨a1, a2, a3⟩ := again I9
        exact ⟨m', hm, i + 1, σ8, ys, H9, a1, a2, a3, w9⟩
      | true =>
        rw [if_pos rfl] at q9 ⊢
        refine thn (he _ _ _ _ _ _ s9 σ8 H9 _ I9 q9) fun yv s10 ⟨y, H10, I10, r10, q10⟩ => ?_
        obtain ⟨hD, hz, m', hm, w10⟩ := q10
        refine thn (mt_append (X := compX X scope N s3 H3 cl s3.heap.objs.size fp) _ s10 σ8 H10 (.ref s2.heap.objs.size) [y] (.ref s2.heap.objs.size) [yv] (fun v H' => H' = upd H10 s2.heap.objs.size (.lst (ys ++ [y]))) I10 rfl (.cons r10 .nil)
          ⟨s2.heap.objs.size, ys, y, rfl, rfl, hD, hz, rfl⟩) fun _ s11 ⟨v11, H11, I11, _, e11⟩ => ?_
        have e11' : H11 = upd H10 s2.heap.objs.size (.lst (ys ++ [y])) := e11
        subst e11'
        obtain ⟨a1, a2, a3⟩ := again I11
        exact ⟨m', hm, i + 1, σ8, ys ++ [y], _, a1, a2, a3, w10⟩
  exact codeAny_compStart_list (loop _ ⟨_, rfl⟩) (T.self X.A 0 _ _ _ hst₁ (loop _ ⟨_, rfl⟩))
end

/-! ### the forms one uses -/
/-- an iterator that hands out xs, in this order, whatever grows beside it -/
structure Hands (J : It) (H0 : Hp) (xs : List V) : Prop where
  go : ∀ i H, Same H0 H → i < xs.length → J.go i H
  yld : ∀ i H x H', Same H0 H → i < xs.length → J.yld i H x H' → H' = H ∧ xs[i]? = some x
  stop : ∀ H, Same H0 H → J.stop xs.length H
theorem hands_list {K : PySem.W.Frag} {a : Addr} {H : Hp} {xs : List V} (h : SqL K H a xs) : Hands (Itl K a) H xs where
  go := fun i H' s hi => ⟨xs, xs[i], s.seq h, by simp [hi]⟩
  yld := fun i H' x H'' s hi y => ⟨y.1, y.2 xs (s.seq h)⟩
  stop := fun H' s => ⟨xs, s.seq h, Nat.le_refl _⟩
theorem hands_range {H : Hp} (lo : Int) (n : Nat) : Hands (Itr lo n) H ((List.range n).map fun i => .int (lo + (i : Nat))) where
  go := fun i H' s hi => by rw [List.length_map, List.length_range] at hi; exact hi
  yld := fun i H' x H'' s hi y => by
    rw [List.length_map, List.length_range] at hi
    refine ⟨y.1, ?_⟩
    rw [List.getElem?_map, List.getElem?_range hi]
    exact congrArg some y.2.symm
  stop := fun H' s => by rw [List.length_map, List.length_range]; exact Nat.le_refl _

theorem same_new {H : Hp} {p : Addr} (h : H p = none) (o : HO) : Same H (upd H p o) := fun b u q => by rw [upd_ne (ne_of_none q h)]; exact q
theorem Same.upd {H H' : Hp} {p : Addr} {o : HO} (s : Same H H') (h : H p = none) : Same H (upd H' p o) := fun b u q => by rw [upd_ne (ne_of_none q h)]; exact s b u q

/-- [e for x in xs if c]: what is told of each item; the slot of x is k -/
theorem comp_by {J : It} {H : Hp} {xs : List V} {σ0 : St} {k : Nat} {tc : TT} {te : TE} {Q : VK} (p : V → Bool) (f : V → V) (hJ : Hands J H xs) (hx : xs.length ≤ 1000000)
    (hc : ∀ x ∈ xs, ∀ H', Same H H' → ∀ R : Bool → Hp → Prop, (∀ H'', Same H' H'' → R (p x) H'') → tc (σ0.set k (some x)) H' R)
    (he : ∀ x ∈ xs, p x = true → ∀ H', Same H H' → ∀ R : VK, (∀ H'', Same H' H'' → R (f x) H'') → te (σ0.set k (some x)) H' R)
    (hQ : ∀ D H', H D = none → Same H H' → H' D = some (.lst ((xs.filter p).map f)) → Q (.ref D) H') :
    CompW J H σ0 (gName k) tc te Q := by
  intro D hD
  refine ⟨fun i m σ1 ys H' => m = xs.length - i ∧ i ≤ xs.length ∧ (σ1 = σ0 ∨ ∃ v, σ1 = σ0.set k v) ∧ ys = ((xs.take i).filter p).map f ∧ H' D = some (.lst ys) ∧ Same H H', ⟨xs.length, by simp, Nat.zero_le _, .inl rfl, rfl, upd_same, same_new hD _⟩, ?_⟩
  rintro i m σ1 ys H' ⟨rfl, hi, hσ, rfl, hDD, hs⟩
  by_cases hlt : i < xs.length
  · refine .inr ⟨hJ.go i H' hs hlt, fun x H'' hy => ?_⟩
    obtain ⟨e1, hx1⟩ := hJ.yld i H' x H'' hs hlt hy
    subst e1
    have hm : x ∈ xs := List.mem_of_getElem? hx1
    have hset : σ1.set k (some x) = σ0.set k (some x) := by
      rcases hσ with rfl | ⟨v, rfl⟩
      · rfl
      · rw [List.set_set]
    show tc (σ1.set k (some x)) H'' _
    rw [hset]
    have tk : ((xs.take (i + 1)).filter p).map f = ((xs.take i).filter p).map f ++ (if p x = true then [f x] else []) := by
      rw [List.take_add_one, hx1, List.filter_append, List.map_append]
      cases hp : p x <;> simp [hp]
    refine hc x hm H'' hs _ fun H3 s3 => ?_
    have s03 : Same H H3 := hs.trans s3
    have lenk : (((xs.take i).filter p).map f).length < sizeLine := by
      have h1 := List.length_filter_le p (xs.take i)
      rw [List.length_take] at h1
      rw [List.length_map]
      have : (1000001 : Nat) ≤ sizeLine := by decide
      omega
    refine ite2 (fun hp => ?_) (fun hp => ?_)
    · refine he x hm hp H3 s03 _ fun H4 s4 => ⟨s4 _ _ (s3 _ _ hDD), lenk, xs.length - (i + 1), by omega, rfl, hlt, .inr ⟨_, rfl⟩, ?_, ?_, ?_⟩
      · rw [tk, if_pos hp]
      · exact upd_same
      · exact (s03.trans s4).upd hD
    · refine ⟨xs.length - (i + 1), by omega, rfl, hlt, .inr ⟨_, rfl⟩, ?_, s3 _ _ hDD, s03⟩
      rw [tk, if_neg hp, List.append_nil]
  · have e : i = xs.length := by omega
    subst e
    refine .inl ⟨hJ.stop H' hs, hQ D H' hD hs ?_⟩
    rw [hDD, List.take_length]
end L2

set_option linter.all false
set_option maxRecDepth 100000
set_option maxHeartbeats 4000000
/-! Texts for the hand layer: signs walked, slices, join, zip of two texts, all, any, isinstance. -/
namespace L2
open PySem PySem.Spec PyProof.Rows

/-- a text by the list of its codes -/
abbrev T (l : List Nat) : V := .str ⟨l.toArray⟩
theorem T_inj {a b : List Nat} (h : T a = T b) : a = b := by
  have h1 : (⟨a.toArray⟩ : Str) = ⟨b.toArray⟩ := V.str.inj h
  have h2 : a.toArray = b.toArray := congrArg Str.cps h1
  simpa using h2
theorem T_len (l : List Nat) : (⟨l.toArray⟩ : Str).length = l.length := by simp [Str.length]
theorem T_app (a b : List Nat) : (⟨a.toArray⟩ : Str) ++ ⟨b.toArray⟩ = ⟨(a ++ b).toArray⟩ := by
  show (⟨a.toArray ++ b.toArray⟩ : Str) = _
  simp
section
variable {X : Cx}
theorem pe_txt {x : Str} {l : List Nat} {j pos} (h : x = ⟨l.toArray⟩) : PE X (.Constant (.str x) j pos) (tC (T l)) := by subst h; exact pe_str
/-- t + u -/
def rCatS : R2 := fun x y H Q => ∃ a b, x = T a ∧ y = T b ∧ a.length + b.length ≤ sizeLine ∧ Q (T (a ++ b)) H
theorem op_catS : OpR X (binaryOp .Add) rCatS := by
  intro pins s σ H x y v u Q I rx ry h
  obtain ⟨a, b, rfl, rfl, hz, q⟩ := h
  exact op_add_str pins s σ H _ _ v u Q I rx ry ⟨_, _, rfl, rfl, by rw [T_len, T_len]; exact hz, by rw [T_app]; exact q⟩
/-- t[i] -/
def rIxT' : R2 := fun x y H Q => ∃ l i c, x = T l ∧ y = .int i ∧ l.length ≤ sizeLine ∧ atI l i = some c ∧ Q (T [c]) H
theorem ix_txt : IxR X rIxT' := by
  intro value slice pins s σ H x y v u Q I rx ry h hs
  obtain ⟨l, i, c, rfl, rfl, hz, he, q⟩ := h
  exact ix_str value slice pins s σ H _ _ v u Q I rx ry ⟨_, i, c, rfl, rfl, by rw [T_len]; exact hz, by simpa using he, q⟩ hs
/-- c in t, c not in t: one sign -/
theorem op_inS : OpR X (compareOp .In) (fun x y H Q => ∃ c m, x = T [c] ∧ y = T m ∧ Q (.bl (decide (c ∈ m))) H) := by
  intro pins s σ H x y v u Q I rx ry h
  obtain ⟨c, m, rfl, rfl, q⟩ := h
  refine op_in_str pins s σ H _ _ v u Q I rx ry ⟨_, _, rfl, rfl, ?_⟩
  have e := StrLaws.found_one ⟨m.toArray⟩ c
  rw [show (!(Builtin.Str.occurrences ⟨m.toArray⟩ ⟨[c].toArray⟩ 0 (⟨m.toArray⟩ : Str).length 1).isEmpty) = decide (c ∈ m) from by simpa using e]
  exact q
theorem op_notinS : OpR X (compareOp .NotIn) (fun x y H Q => ∃ c m, x = T [c] ∧ y = T m ∧ Q (.bl (!decide (c ∈ m))) H) := by
  intro pins s σ H x y v u Q I rx ry h
  obtain ⟨c, m, rfl, rfl, q⟩ := h
  refine op_notin_str pins s σ H _ _ v u Q I rx ry ⟨_, _, rfl, rfl, ?_⟩
  have e := StrLaws.found_one ⟨m.toArray⟩ c
  rw [show (!(Builtin.Str.occurrences ⟨m.toArray⟩ ⟨[c].toArray⟩ 0 (⟨m.toArray⟩ : Str).length 1).isEmpty) = decide (c ∈ m) from by simpa using e]
  exact q
/-- len(t) -/
theorem call_lenS : CallR X (.builtin "len") (fun xs H Q => ∃ l, xs = [T l] ∧ l.length ≤ sizeLine ∧ Q (.int l.length) H) := by
  intro pins s σ H xs us Q I r h
  obtain ⟨l, rfl, hz, q⟩ := h
  exact call_len_str pins s σ H _ us Q I r ⟨_, rfl, by rw [T_len]; exact hz, by rw [T_len]; exact q⟩
end

/-! ### slices -/
def cutN {α : Type} (xs : List α) (lo hi : Option Int) : List α := (xs.drop (HT.sIx xs.length 0 lo)).take (HT.sIx xs.length xs.length hi - HT.sIx xs.length 0 lo)
def clipI (n : Nat) (d : Int) : Option Int → Int
  | none => d
  | some i => max 0 (min (if i < 0 then i + (n : Int) else i) (n : Int))
theorem clipI_eq (n d : Nat) (o : Option Int) : clipI n (d : Int) o = ((HT.sIx n d o : Nat) : Int) := by
  cases o with
  | none => rfl
  | some i =>
    show max 0 (min (if i < 0 then i + (n : Int) else i) (n : Int)) = (((if i < 0 then (i + (n : Int)).toNat else min i.toNat n) : Nat) : Int)
    by_cases hi : i < 0
    · rw [if_pos hi, if_pos hi]; omega
    · rw [if_neg hi, if_neg hi]; omega
theorem run_of (a b : Nat) : sliceRange (a : Int) (b : Int) 1 = (List.range (b - a)).map fun k => a + k := by
  unfold sliceRange
  simp only [show (1 : Int) > 0 by decide, if_true]
  have e1 : (if (a : Int) < (b : Int) then ((b : Int) - (a : Int) + 1 - 1) / 1 else 0).toNat = b - a := by
    split <;> simp <;> omega
  rw [e1]
  refine List.map_congr_left fun k _ => ?_
  omega
theorem strSlice_run (lo hi : Option Int) (n : Nat) : Builtin.Str.strSliceIndices lo hi 1 n = (List.range (HT.sIx n n hi - HT.sIx n 0 lo)).map fun k => HT.sIx n 0 lo + k := by
  have e : Builtin.Str.strSliceIndices lo hi 1 n = sliceRange (clipI n ((0 : Nat) : Int) lo) (clipI n ((n : Nat) : Int) hi) 1 := by
    cases lo <;> cases hi <;> rfl
  rw [e, clipI_eq, clipI_eq, run_of]
theorem pickN (l : List Nat) (i k : Nat) : ((List.range k).map fun m => i + m).filterMap (fun j => l.toArray[j]?) = (l.drop i).take k := by
  induction k generalizing i with
  | zero => simp
  | succ k ih =>
    rw [List.range_succ_eq_map, List.map_cons, List.filterMap_cons, List.map_map]
    have e : ((fun m => i + m) ∘ Nat.succ) = fun m => (i + 1) + m := by funext m; simp; omega
    rw [e, ih (i + 1)]
    by_cases h : i < l.length
    · have : l.toArray[i + 0]? = some l[i] := by simp [h]
      rw [this, List.drop_eq_getElem_cons h, List.take_succ_cons]
    · have : l.toArray[i + 0]? = none := by simp; omega
      rw [this, List.drop_eq_nil_of_le (by omega), List.drop_eq_nil_of_le (by omega)]
      simp
theorem cutN_full {α : Type} {l : List α} {lo hi : Option Int} (h : (cutN l lo hi).length = l.length) : cutN l lo hi = l := by
  unfold cutN at h ⊢
  rw [List.length_take, List.length_drop] at h
  have h2 := HT.sIx_le l.length l.length (Nat.le_refl _) hi
  by_cases h0 : l.length = 0
  · have : l = [] := List.length_eq_zero_iff.mp h0
    subst this; simp
  · have e0 : HT.sIx l.length 0 lo = 0 := by omega
    rw [e0, List.drop_zero]
    exact List.take_of_length_le (by omega)
theorem slice_txt (l : List Nat) (lo hi : Option Int) : Txt.slice ⟨l.toArray⟩ lo hi = ⟨(cutN l lo hi).toArray⟩ := by
  unfold Txt.slice
  rw [T_len, strSlice_run]
  have e := pickN l (HT.sIx l.length 0 lo) (HT.sIx l.length l.length hi - HT.sIx l.length 0 lo)
  have e2 : ((List.range (HT.sIx l.length l.length hi - HT.sIx l.length 0 lo)).map fun k => HT.sIx l.length 0 lo + k).filterMap (fun x => (⟨l.toArray⟩ : Str).cps[x]?) = cutN l lo hi := e
  by_cases h : ((1 : Int) == 1 && ((List.range (HT.sIx l.length l.length hi - HT.sIx l.length 0 lo)).map fun k => HT.sIx l.length 0 lo + k).length == l.length) = true
  · rw [if_pos h]
    have h' : HT.sIx l.length l.length hi - HT.sIx l.length 0 lo = l.length := by
      have := ((Bool.and_eq_true _ _).mp h).2
      simpa using this
    have : (cutN l lo hi).length = l.length := by
      unfold cutN
      rw [List.length_take, List.length_drop]
      have := HT.sIx_le l.length l.length (Nat.le_refl _) hi
      omega
    rw [cutN_full this]
  · rw [if_neg h, e2]
section
variable {X : Cx}
def rSlS : V → Option Int → Option Int → Hp → VK → Prop := fun x lo hi H Q => ∃ l, x = T l ∧ l.length ≤ sizeLine ∧ Q (T (cutN l lo hi)) H
theorem sl_txt : SlR X rSlS := by
  intro pins s σ H x v vl vu lo hi sl Q I rx hs pl pu h
  obtain ⟨l, rfl, hz, q⟩ := h
  obtain ⟨t, rfl⟩ := rx
  refine ⟨"str", _, F.slot_str_getitem.lookup, typeIs_str _ _ _, ?_⟩
  have fin : ∀ t' k, EP X pins σ Q (.str (Txt.slice ⟨l.toArray⟩ lo hi) t') { s with toks := k } := fun t' k => ⟨T (cutN l lo hi), H, I.tok _, ⟨t', by rw [slice_txt]⟩, q⟩
  have hlen : (Txt.slice ⟨l.toArray⟩ lo hi).length ≤ sizeLine := Nat.le_trans (Txt.slice_le _ _ _) (by rw [T_len]; exact hz)
  cases pl with
  | none =>
    cases pu with
    | none => exact wpAny_getItem_str_slice (l := none) (u := none) (st := none) hs rfl (post_val_or_str ⟨hlen, fin⟩)
    | int j uj => exact wpAny_getItem_str_slice (l := none) (u := some (j, uj)) (st := none) hs rfl (post_val_or_str ⟨hlen, fin⟩)
  | int i ui =>
    cases pu with
    | none => exact wpAny_getItem_str_slice (l := some (i, ui)) (u := none) (st := none) hs rfl (post_val_or_str ⟨hlen, fin⟩)
    | int j uj => exact wpAny_getItem_str_slice (l := some (i, ui)) (u := some (j, uj)) (st := none) hs rfl (post_val_or_str ⟨hlen, fin⟩)
end

/-! ### t[::-1] -/
theorem rev_txt (l : List Nat) (u : Tok) : Txt.sliceBy ⟨l.toArray⟩ none none (-1, u) = ⟨l.reverse.toArray⟩ := by
  have h := step_rev_list ⟨l.toArray⟩ u
  have e : ((List.range (⟨l.toArray⟩ : Str).length).map fun k => (⟨l.toArray⟩ : Str).cps.getD ((⟨l.toArray⟩ : Str).length - 1 - k) 0) = l.reverse := by
    rw [T_len]
    refine List.ext_getElem? fun i => ?_
    rw [List.getElem?_map]
    by_cases hi : i < l.length
    · rw [List.getElem?_range hi, List.getElem?_reverse hi]
      have hj : l.length - 1 - i < l.length := by omega
      rw [List.getElem?_eq_getElem hj]
      simp [hj]
    · rw [List.getElem?_eq_none (by simpa using hi), List.getElem?_eq_none (by simpa using hi)]
      rfl
  rw [e] at h
  generalize Txt.sliceBy ⟨l.toArray⟩ none none (-1, u) = z at h
  obtain ⟨⟨zl⟩⟩ := z
  have h' : zl = l.reverse := h
  rw [h']
def tRev (te t3 : TE) : TE := fun σ H Q => te σ H fun x H1 => t3 σ H1 fun y H2 => y = .int (-1) ∧ ∃ l, x = T l ∧ l.length ≤ sizeLine ∧ Q (T l.reverse) H2
theorem pe_rev {X : Cx} {e e3 : Expr} {te t3 : TE} {pos p2 : Pos} (he : PE X e te) (h3 : PE X e3 t3) : PE X (.Subscript e (.Slice none none (some e3) p2) pos) (tRev te t3) := by
  intro pins s σ H Q I h
  refine Subscript_ (thn (he pins s σ H _ I h) fun v s1 ⟨x, H1, I1, r1, q1⟩ => ?_)
  refine wpAny_Slice ?_
  rw [evalPart_none]
  refine wpAny_pure ?_
  refine wpAny_pure ?_
  rw [evalPart_some]
  refine thn (h3 pins s1 σ H1 _ I1 q1) fun vs s2 ⟨y, H2, I2, r2, hy, l, hx, hz, q⟩ => ?_
  subst hy hx
  obtain ⟨t, rfl⟩ := r1
  obtain ⟨uk, rfl⟩ := r2
  have I4 : Inv X pins σ H2 { s2 with heap := s2.heap.push { cls := .type "slice", data := .fields #[.none, .none, .int (-1) uk] } } := I2.kept (t' := s2.toks) fun b ob q => Heap.get?_push_of_some _ q
  have fin : ∀ t' k, EP X pins σ Q (.str (Txt.sliceBy ⟨l.toArray⟩ none none (-1, uk)) t') { s2 with heap := s2.heap.push { cls := .type "slice", data := .fields #[.none, .none, .int (-1) uk] }, toks := k } := fun t' k => ⟨T l.reverse, H2, I4.tok _, ⟨t', by rw [rev_txt]⟩, q⟩
  have hlen : (Txt.sliceBy ⟨l.toArray⟩ none none (-1, uk)).length ≤ sizeLine := Nat.le_trans (Txt.sliceBy_le _ _ _ _ (show (-1 : Int) ≠ 0 by decide)) (by rw [T_len]; exact hz)
  show wpAny (model X.prog X.w) X.A (subscriptTail e (.Slice none none (some e3) p2) (.str ⟨l.toArray⟩ t) (.ref s2.heap.objs.size)) (EP X pins σ Q) X.xe { s2 with heap := s2.heap.push { cls := .type "slice", data := .fields #[.none, .none, .int (-1) uk] } }
  refine tail_any (ops := [.ref s2.heap.objs.size, .str ⟨l.toArray⟩ t]) (typeIs_str _ _ _) F.slot_str_getitem.lookup ?_ (by with_unfolding_all rfl)
  exact wpAny_getItem_str_slice (l := none) (u := none) (st := some (-1, uk)) ⟨_, Heap.get?_push_size _ rfl, rfl, rfl⟩ (by rfl) (post_val_or_str ⟨hlen, fin⟩)

/-! ### the signs of a text, one by one -/
def Its (l : List Nat) : It := ⟨fun i _ => i < l.length, fun i H x H' => H' = H ∧ ∃ c, l[i]? = some c ∧ x = T [c], fun i _ => l.length ≤ i⟩
theorem turn_txt {P : Program} {w : World} {K : PySem.W.Frag} {tg : Expr} {it : Addr} {l : List Nat} {t : Tok} {nm : String} (hn : nm = "str_ascii_iterator" ∨ nm = "str_iterator") :
    Turn P w K tg (Its l) [it] it (fun i h => h.IsStrIter it nm ⟨l.toArray⟩ t i) where
  mem := by simp
  obj := fun i h st b hb => by
    have e : b = it := by simpa using hb
    subst e
    obtain ⟨o, e, c, d⟩ := st
    exact ⟨o, e, fun v z => by rw [d] at z; cases z⟩
  keep := fun i h h' st k => by
    obtain ⟨o, e, r⟩ := st
    exact ⟨o, k it (by simp) o e, r⟩
  item := by
    intro X hP hw hK hc i pins s σ H E I hf st hg
    subst hP hw hK
    obtain ⟨f0, f1, f2, f3, f4, f5⟩ := hf it (by simp)
    have hi : i < l.length := hg
    have hx : (⟨l.toArray⟩ : Str).cps[i]? = some l[i] := by simp [hi]
    have fin : ∀ h', h'.IsStrIter it nm ⟨l.toArray⟩ t (i + 1) → Heap.SameBut it s.heap h' → ∃ u, (some (Value.str ⟨#[l[i]]⟩ s.toks) : Option Value) = some u ∧
        wpAny (model X.prog X.w) X.A (letOwnedTupleGo tg (.ref it) u) (fun _ s2 => ∃ x H', Inv X pins σ H' s2 ∧ RelV x u ∧ (Its l).yld i H x H' ∧ s2.heap.IsStrIter it nm ⟨l.toArray⟩ t (i + 1) ∧ ∀ b ∈ [it], H' b = none) E { s with heap := h', toks := s.toks + 1 } := fun h' st' sb => by
      have I1 : Inv X pins σ H { s with heap := h', toks := s.toks + 1 } := I.turned (t' := s.toks + 1) (fun b o hb e => (sb.2 b hb).trans e) f0 f1 f3 f4 f5
      obtain ⟨o, e, c, d⟩ := id st'
      refine ⟨_, rfl, go_of (s := { s with heap := h', toks := s.toks + 1 }) e c d (by rcases hn with rfl | rfl <;> decide) ⟨T [l[i]], H, I1, ⟨_, rfl⟩, ⟨rfl, l[i], by simp [hi], rfl⟩, st', fun b hb => (hf b hb).1⟩⟩
    rcases hn with rfl | rfl
    · exact wpAny_pyNext_ascii_item st hx fin
    · exact wpAny_pyNext_wide_item st hx fin
  done := by
    intro X hP hw hK hc i pins s σ H E I hf st hg
    subst hP hw hK
    obtain ⟨f0, f1, f2, f3, f4, f5⟩ := hf it (by simp)
    have hi : l.length ≤ i := hg
    have hx : (⟨l.toArray⟩ : Str).cps[i]? = none := by simp; exact hi
    have fin : ∀ h', Heap.ExtBut it s.heap h' → (none : Option Value) = none ∧ Inv X pins σ H { s with heap := h' } := fun h' eb => ⟨rfl, I.turned (t' := s.toks) (fun b o hb e => eb b o hb e) f0 f1 f3 f4 f5⟩
    rcases hn with rfl | rfl
    · exact wpAny_pyNext_ascii_end (I.ok.hd hc) st hx fin
    · exact wpAny_pyNext_wide_end (I.ok.hd hc) st hx fin
  self := fun _ _ _ _ _ st h => by
    rcases hn with rfl | rfl
    · exact wpAny_pyIter_striter_ascii st h
    · exact wpAny_pyIter_striter_wide st h
section
variable {X : Cx} {tg : Expr}
def iTxt (tl : TE) : TI := fun σ H R => tl σ H fun x H1 => ∃ l, x = T l ∧ R (Its l) H1
theorem pi_txt {e : Expr} {tl : TE} (hl : PE X e tl) : PI X tg e (iTxt tl) := by
  intro pins s σ H R I h
  refine thn (hl pins s σ H _ I h) fun v s1 ⟨x, H1, I1, r1, q1⟩ => ?_
  obtain ⟨l, e, q⟩ := q1
  subst e
  obtain ⟨t, rfl⟩ := r1
  have fin : ∀ nm : String, (nm = "str_ascii_iterator" ∨ nm = "str_iterator") → PIE X pins σ tg R (.ref s1.heap.objs.size) { s1 with heap := s1.heap.push { cls := .type nm, data := .fields #[.str ⟨l.toArray⟩ t, .int 0 0] } } := fun nm hn => by
    refine ⟨s1.heap.objs.size, [s1.heap.objs.size], _, _, H1, rfl, I1.kept (t' := s1.toks) fun b o e => Heap.get?_push_of_some _ e, turn_txt (t := t) hn, ⟨_, Heap.get?_push_size _ rfl, rfl, rfl⟩, fun b hb => ?_, q⟩
    have e : b = s1.heap.objs.size := by simpa using hb
    subst e
    exact I1.fpOk (Nat.le_refl _) (I1.hok.fresh (Nat.le_refl _))
  cases ha : (⟨l.toArray⟩ : Str).cps.all (· < 128) with
  | true => exact wpAny_pyIter_ascii ha (fin _ (.inl rfl))
  | false => exact wpAny_pyIter_wide ha (fin _ (.inr rfl))
end
theorem hands_txt {H : Hp} (l : List Nat) : Hands (Its l) H (l.map fun c => T [c]) where
  go := fun i H' s hi => by rw [List.length_map] at hi; exact hi
  yld := fun i H' x H'' s hi y => by
    obtain ⟨e, c, hc, rfl⟩ := y
    exact ⟨e, by rw [List.getElem?_map, hc]; rfl⟩
  stop := fun H' s => by rw [List.length_map]; exact Nat.le_refl _
/-! ### ''.join(list) -/
theorem vals_txts : ∀ {ts : List (List Nat)} {us : List Value}, Vals (ts.map T) us → PyProof.Rows.StrsAre us (ts.map fun l => ⟨l.toArray⟩)
  | [], _, h => by cases h; exact .nil
  | l :: r, _, h => by
    cases h with
    | cons r1 r2 =>
      obtain ⟨t, rfl⟩ := r1
      exact .cons _ t (vals_txts r2)
def joinN (sep : List Nat) : List (List Nat) → List Nat
  | [] => []
  | [x] => x
  | x :: y :: r => x ++ sep ++ joinN sep (y :: r)
theorem join_txt (sep : List Nat) : ∀ ts : List (List Nat), Str.join ⟨sep.toArray⟩ (ts.map fun l => ⟨l.toArray⟩) = ⟨(joinN sep ts).toArray⟩
  | [] => rfl
  | [x] => rfl
  | x :: y :: r => by
    show (⟨x.toArray⟩ : Str) ++ ⟨sep.toArray⟩ ++ Str.join ⟨sep.toArray⟩ ((y :: r).map fun l => ⟨l.toArray⟩) = _
    rw [join_txt sep (y :: r), T_app, T_app]
    rfl
theorem joinN_nil : ∀ ts : List (List Nat), joinN [] ts = ts.flatten
  | [] => rfl
  | [x] => by simp [joinN]
  | x :: y :: r => by
    show x ++ [] ++ joinN [] (y :: r) = _
    rw [joinN_nil (y :: r), List.append_nil]
    rfl
theorem sum_ones : ∀ cs : List Nat, (((cs.map fun c => [c]).map List.length).sum) = cs.length
  | [] => rfl
  | c :: r => by
    rw [List.map_cons, List.map_cons, List.sum_cons, sum_ones r]
    simp
    omega
theorem flat_ones : ∀ cs : List Nat, (cs.map fun c => [c]).flatten = cs
  | [] => rfl
  | c :: r => by
    rw [List.map_cons, List.flatten_cons, flat_ones r]
    rfl
section
variable {X : Cx}
def rJoin (K : PySem.W.Frag) : V → List V → Hp → VK → Prop := fun x vs H Q => ∃ sep ts D, x = T sep ∧ vs = [.ref D] ∧ SqL K H D (ts.map T) ∧ (ts.map List.length).sum + ts.length * sep.length ≤ 16777216 ∧ Q (T (joinN sep ts)) H
theorem mt_join : MtR X "str.join" (rJoin X.K) := by
  intro pins s σ H x vs v us Q I rx rv h
  obtain ⟨sep, ts, D, rfl, rfl, hq, hz, q⟩ := h
  obtain ⟨t, rfl⟩ := rx
  obtain ⟨u, rfl, ru⟩ := rv.one
  cases ru
  obtain ⟨its, r, pl, _⟩ := I.list hq
  refine join_list (ys := ts.map fun l => ⟨l.toArray⟩) pl.isList (by simpa using vals_txts r) ?_ fun t' k => ⟨T (joinN sep ts), H, I.tok _, ⟨t', ?_⟩, q⟩
  · rw [List.map_map, List.length_map, T_len]
    have e : ((fun x => x.length) ∘ fun l : List Nat => (⟨l.toArray⟩ : Str)) = List.length := by funext l; exact T_len l
    rw [e]
    exact hz
  · rw [← join_txt]
    show Value.str (Builtin.Str.glued _ _) t' = _
    rw [StrLaws.glued_eq_join]
end
theorem pe_join {X : Cx} {o e : Expr} {to : TE} {t : TA} {apos cpos : Pos} (ho : PE X o to) (ha : PA X [e] t)
    (hbase : attributeBase o "join" X.env (eval o X.env) = eval o X.env := by rfl)
    (hfew : ((backTo cpos (starEach [e] X.env)).all (fun x => !x.1) && (backToKw cpos (keywordEach [] X.env)).all (fun x => x.1.isSome)
      && decide ([e].length + ([] : List Keyword).length + (if ([] : List Keyword).isEmpty then 0 else 1) < 30)) = true := by rfl)
    (hline : (apos.endLine == cpos.line) = true := by rfl) (hs : starEach [e] X.env = (false, eval e X.env) :: starEach [] X.env := by rfl) (hplain : (backTo cpos (starEach [] X.env)).any (·.1) = false := by rfl) :
    PE X (.Call (.Attribute o "join" apos) [e] [] cpos) (tBM X.K "str" (rJoin X.K) to t) :=
  pe_bm F.plainAttrs_str F.slot_str_join F.type_str_join mt_join ho ha hbase hfew hline hs hplain

/-! ### all, any of a list of truths -/
section
variable {X : Cx}
/-! ### isinstance of plain values -/
theorem call_isBl : CallR X (.builtin "isinstance") (fun xs H Q => (∃ b, xs = [.bl b, .ty "bool"] ∧ Q (.bl true) H) ∨ (∃ i, xs = [.int i, .ty "bool"] ∧ Q (.bl false) H) ∨ (∃ i, xs = [.int i, .ty "int"] ∧ Q (.bl true) H) ∨ (∃ x, xs = [.str x, .ty "str"] ∧ Q (.bl true) H) ∨
    (∃ p ys, xs = [.ref p, .ty "list"] ∧ H p = some (.lst ys) ∧ Q (.bl true) H)) := by
  intro pins s σ H xs us Q I r h
  rcases h with ⟨b, rfl, q⟩ | ⟨i, rfl, q⟩ | ⟨i, rfl, q⟩ | ⟨x, rfl, q⟩ | ⟨p, ys, rfl, hp, q⟩
  · obtain ⟨u, v, rfl, r1, r2⟩ := r.two
    cases r1; cases r2
    exact PySem.W.kia_one PySem.W.kitx_bool I.kIn True.intro (by rfl) (fun z => nomatch z) fun tk => ⟨.bl true, H, I.tok _, rfl, q⟩
  · obtain ⟨u, v, rfl, r1, r2⟩ := r.two
    obtain ⟨t, rfl⟩ := r1; cases r2
    exact PySem.W.kia_one PySem.W.kitx_int I.kIn True.intro (by rfl) (fun z => nomatch z) fun tk => ⟨.bl false, H, I.tok _, rfl, q⟩
  · obtain ⟨u, v, rfl, r1, r2⟩ := r.two
    obtain ⟨t, rfl⟩ := r1; cases r2
    exact PySem.W.kia_one PySem.W.kitx_int I.kIn True.intro (by rfl) (fun z => nomatch z) fun tk => ⟨.bl true, H, I.tok _, rfl, q⟩
  · obtain ⟨u, v, rfl, r1, r2⟩ := r.two
    obtain ⟨t, rfl⟩ := r1; cases r2
    exact PySem.W.kia_one PySem.W.kitx_str I.kIn True.intro (by rfl) (fun z => nomatch z) fun tk => ⟨.bl true, H, I.tok _, rfl, q⟩
  · obtain ⟨u, v, rfl, r1, r2⟩ := r.two
    cases r1; cases r2
    obtain ⟨_, its, n, _, h1⟩ := I.hok p _ hp
    exact PySem.W.kia_one PySem.W.kitx_list I.kIn ⟨_, h1, rfl⟩ (by rfl) (fun z => nomatch z) fun tk => ⟨.bl true, H, I.tok _, rfl, q⟩
end
end L2

set_option linter.all false
set_option maxRecDepth 100000
set_option maxHeartbeats 4000000
/-! zip of two texts. -/
namespace L2
open PySem PySem.Spec PyProof.Rows
open Builtin Builtin.Str

section
variable {prog : Program} {w : World} {A : Around} {E : Value → Shared → Prop} {s : Shared}
structure ZipFar (z TI TO i1 i2 : Addr) : Prop where
  TIz : TI ≠ z
  TOz : TO ≠ z
  i1z : i1 ≠ z
  i2z : i2 ≠ z
  TITO : TI ≠ TO
  TIi1 : TI ≠ i1
  TIi2 : TI ≠ i2
  TOi1 : TO ≠ i1
  TOi2 : TO ≠ i2
  i12 : i1 ≠ i2

theorem zipFar_new (n : Nat) : ZipFar (n + 4) (n + 2) (n + 3) n (n + 1) :=
  ⟨Nat.ne_of_lt (by omega), Nat.ne_of_lt (by omega), Nat.ne_of_lt (by omega), Nat.ne_of_lt (by omega), Nat.ne_of_lt (by omega), Nat.ne_of_gt (by omega), Nat.ne_of_gt (by omega), Nat.ne_of_gt (by omega), Nat.ne_of_gt (by omega), Nat.ne_of_lt (by omega)⟩
theorem drawsTxt {it : Addr} {l : List Nat} {t : Tok} {nm : String} (hh : A.handled = none) (hn : nm = "str_ascii_iterator" ∨ nm = "str_iterator") :
    Draws prog w A it [it] l.length (fun i v => ∃ c u, l[i]? = some c ∧ v = .str ⟨#[c]⟩ u) (fun i h => h.IsStrIter it nm ⟨l.toArray⟩ t i) := by
  rcases hn with rfl | rfl
  · have D := Draws.strAscii (prog := prog) (w := w) hh it ⟨l.toArray⟩ t
    simpa using D
  · have D := Draws.strWide (prog := prog) (w := w) hh it ⟨l.toArray⟩ t
    simpa using D
end

/-- untracked records of ours (an iterator's) have turned -/
theorem Inv.turnedN {X : Cx} {pins : List (Addr × Obj)} {σ : St} {H : Hp} {s : Shared} {h' : Heap} {t' : Nat} {ch : List Addr} (I : Inv X pins σ H s) (k : ∀ b o, b ∉ ch → s.heap.get? b = some o → h'.get? b = some o) (hf : ∀ b ∈ ch, FpOk X pins H b) :
    Inv X pins σ H { s with heap := h', toks := t' } := by
  have nch : ∀ b u, H b = some u → b ∉ ch := fun b u e z => by rw [(hf b z).1] at e; cases e
  refine I.step (g' := s.gens) (d' := s.drawn) (ch := ch) (fun b hb => ?_) (fun b o _ _ hc e _ => k b o hc e) (fun b o _ _ hc e _ => ⟨o.slots, k b o hc e⟩) (fun _ _ _ _ n => n)
    (fun b o hc e => ⟨o, k b o hc e⟩) (fun _ _ e => e) (fun _ _ _ e => e) (fun b ps e => ⟨#[], by rw [e]; simp⟩) (fun m hm => ?_) (fun b u e => ?_) I.bare
  · obtain ⟨f0, f1, f2, f3, f4, f5⟩ := hf b hb
    exact ⟨f3, f1, f4, f5⟩
  · obtain ⟨o, es, ep, ho, r⟩ := hm
    exact ⟨o, es, ep, k _ o (fun z => (hf _ z).2.1 rfl) ho, r⟩
  · refine (I.hok b u e).stay (fun c v hc q => k c v ?_ q) (fun _ q => q) fun _ _ q => q
    rcases hc with z | z
    · rw [z]; exact nch b u e
    · exact nch c _ z

/-! ### zip(t, u) is made -/
section
variable {X : Cx} {es : List Expr} {k : Nat} {tpos : Pos}
end
end L2

set_option linter.all false
set_option maxRecDepth 100000
set_option maxHeartbeats 4000000
/-! a comprehension over zip. -/
namespace L2
open PySem PySem.Spec PyProof.Rows
end L2

set_option linter.all false
set_option maxRecDepth 100000
set_option maxHeartbeats 4000000
/-! Bundles: a def, a method, a class of the text with its promise. -/
namespace L2
open PySem PySem.Spec PyProof.Rows

/-- a def of the module as the top has made it -/
def GF (K : PySem.W.Frag) (mg : Str → Option Value) (x : Str) (st : Stmt) : Prop := ∃ f fd, Fun K x x st f fd ∧ mg x = some (.ref f)
/-- .. with its promise -/
def FnG (P : Program) (w : World) (K : PySem.W.Frag) (mg : Str → Option Value) (base : Heap) (x : Str) (k : Nat) (ps : List Str) (sp : Sp) : Prop :=
  ∃ f fd, FnOk P w K mg base CX0 k f fd ps sp ∧ mg x = some (.ref f) ∧ PySem.W.keepIn K (.ref f) = true ∧ Binds K fd ps []
/-- a method of the class at C -/
def MF (K : PySem.W.Frag) (C : Addr) (m qual : Str) (st : Stmt) : Prop := ∃ f fd, Fun K m qual st f fd ∧ Meth K C m f
def MtG (P : Program) (w : World) (K : PySem.W.Frag) (mg : Str → Option Value) (base : Heap) (C : Addr) (m : Str) (k : Nat) (ps : List Str) (sp : Sp) : Prop :=
  ∃ f fd, FnOk P w K mg base CX0 k f fd ps sp ∧ Cls K C ∧ Meth K C m f ∧ Binds K fd ps []
/-- a class that is made by its __init__ -/
structure CF (K : PySem.W.Frag) (mg : Str → Option Value) (x : Str) (C : Addr) : Prop where
  cl : Cls K C
  mg : mg x = some (.ref C)
  makes : PySem.W.makesIn K C = true
  kp : PySem.W.keepIn K (.ref C) = true
def MkG (P : Program) (w : World) (K : PySem.W.Frag) (mg : Str → Option Value) (base : Heap) (C : Addr) (x : Str) (k : Nat) (ps : List Str) (sp : Sp) : Prop :=
  ∃ f fd, FnOk P w K mg base CX0 k f fd ps sp ∧ Mk K C f ∧ mg x = some (.ref C) ∧ Binds K fd ps []

section
variable {P : Program} {w : World} {K : PySem.W.Frag} {mg : Str → Option Value} {base : Heap}
theorem GF.g {x : Str} {st : Stmt} {N ps : List Str} {k : Nat} {sp : Sp} (F : GF K mg x st) (S : FnScope N ps (defScope st))
    (bnd : ∀ (kV doc pm : Value) (an : Option Addr) (cdv ct : Value) (us : List Value), us.length = ps.length → bindArgs (PySem.W.fnOf x x (defArgs st) (defBody st) (defScope st) .none kV doc pm an cdv ct) ⟨us, []⟩ = pure (ps.zip us))
    (len : ∀ vs H Q E, sp vs H Q E → vs.length = ps.length)
    (hbody : ∀ (f : Addr) (cdv : Value) (A : Around) (outer : List Env) (s : Shared) (H : Hp) (vs : List V) (Q : VK) (E : XK), Room k (A.deeper (envOfC x (defScope st) s.heap.objs.size f cdv)) → sp vs H Q E →
      ∃ t, PSs (cxOf CX0 P w K mg base N x (defScope st) f cdv A outer s H E).nox (defBody st) t ∧ t { nx := fun _ H' => Q .non H', rt := Q } (start N vs) H) : FnG P w K mg base x (k + 1) ps sp := by
  obtain ⟨f, fd, F, m⟩ := F
  exact ⟨f, fd, F.ok S len fun cdv A outer s H vs Q E hr h => hbody f cdv A outer s H vs Q E hr h, m, F.kp, F.binds bnd⟩
theorem MF.g {C : Addr} {m qual : Str} {st : Stmt} {N ps : List Str} {k : Nat} {sp : Sp} (F : MF K C m qual st) (cl : Cls K C) (S : FnScope N ps (defScope st))
    (bnd : ∀ (kV doc pm : Value) (an : Option Addr) (cdv ct : Value) (us : List Value), us.length = ps.length → bindArgs (PySem.W.fnOf m qual (defArgs st) (defBody st) (defScope st) .none kV doc pm an cdv ct) ⟨us, []⟩ = pure (ps.zip us))
    (len : ∀ vs H Q E, sp vs H Q E → vs.length = ps.length)
    (hbody : ∀ (f : Addr) (cdv : Value) (A : Around) (outer : List Env) (s : Shared) (H : Hp) (vs : List V) (Q : VK) (E : XK), Room k (A.deeper (envOfC qual (defScope st) s.heap.objs.size f cdv)) → sp vs H Q E →
      ∃ t, PSs (cxOf CX0 P w K mg base N qual (defScope st) f cdv A outer s H E).nox (defBody st) t ∧ t { nx := fun _ H' => Q .non H', rt := Q } (start N vs) H) : MtG P w K mg base C m (k + 1) ps sp := by
  obtain ⟨f, fd, F, m⟩ := F
  exact ⟨f, fd, F.ok S len fun cdv A outer s H vs Q E hr h => hbody f cdv A outer s H vs Q E hr h, cl, m, F.binds bnd⟩
theorem CF.g {C : Addr} {x : Str} {k : Nat} {ps : List Str} {sp : Sp} (c : CF K mg x C) (G : MtG P w K mg base C "__init__" k ps sp) : MkG P w K mg base C x k ps sp := by
  obtain ⟨f, fd, a, _, m, b⟩ := G
  exact ⟨f, fd, a, ⟨c.makes, m.at_, m.fn, c.kp⟩, c.mg, b⟩
end

section
variable {X : Cx} {x m : Str} {k : Nat} {ps : List Str} {sp : Sp} {C : Addr} {p pos apos : Pos} {e o : Expr} {es : List Expr} {t : TA} {to : TE}
/-- f(e, ..) -/
theorem pe_fn (G : FnG X.prog X.w X.K X.mg X.base x k ps sp) (hr : Room k X.A) (ha : PA X (e :: es) t) (hg : Gl X x := by rfl) (hdb : (x == ("__debug__" : Str)) = false := by decide)
    (he : starEach (e :: es) X.env = (false, eval e X.env) :: starEach es X.env := by rfl) (hpl : (backTo pos (starEach es X.env)).any (·.1) = false := by rfl) : PE X (.Call (.Name x p) (e :: es) [] pos) (tCall sp [] E0 t) := by
  obtain ⟨f, fd, a, b, c, d⟩ := G
  exact pe_call a hr hg b c d .nil pass0 ha hdb he hpl
theorem pe_mt {pl : Sem Bool} (G : MtG X.prog X.w X.K X.mg X.base C m k ps sp) (hr : Room k X.A) (ho : PE X o to) (ha : PA X (e :: es) t)
    (hst : starEach (e :: es) X.env = (false, eval e X.env) :: starEach es X.env := by rfl) (hpl : (backTo pos (starEach es X.env)).any (·.1) = false := by rfl)
    (ht : eval (.Call (.Attribute o m apos) (e :: es) [] pos) X.env = (do
      let ov ← eval o X.env
      standAt apos.atName
      let (f, first) ← holding [ov] (getMethod ov m pl)
      callWith pos f first (backTo pos (starEach (e :: es) X.env)) (backToKw pos (keywordEach [] X.env))) := by rfl) :
    PE X (.Call (.Attribute o m apos) (e :: es) [] pos) (tMeth C m sp [] E0 to t) := by
  obtain ⟨f, fd, a, b, c, d⟩ := G
  exact pe_meth (pl := pl) ho b c a hr d .nil pass0 ha hst hpl ht
/-- o.m(e, ..), the class of o known at the call -/
def tMethD (P : Program) (w : World) (K : PySem.W.Frag) (mg : Str → Option Value) (base : Heap) (n : Nat) (m : Str) (ta : TE) (t : TA) : TE := fun σ H Q => ta σ H fun x H1 => ∃ a C dx fs k ps sp, x = .ref a ∧ H1 a = some (.ins C dx fs) ∧ fs.lookup m = none ∧
  MtG P w K mg base C m k ps sp ∧ k ≤ n ∧ t σ H1 fun vs H2 => sp (x :: vs) H2 Q E0
theorem pe_mtD {P : Program} {w : World} {K : PySem.W.Frag} {mg : Str → Option Value} {base : Heap} {n : Nat} {pl : Sem Bool} (hr : Room n X.A) (ho : PE X o to) (ha : PA X (e :: es) t) (hP : X.prog = P) (hw : X.w = w) (hK : X.K = K) (hmg : X.mg = mg) (hbs : X.base = base)
    (hst : starEach (e :: es) X.env = (false, eval e X.env) :: starEach es X.env := by rfl) (hpl : (backTo pos (starEach es X.env)).any (·.1) = false := by rfl)
    (ht : eval (.Call (.Attribute o m apos) (e :: es) [] pos) X.env = (do
      let ov ← eval o X.env
      standAt apos.atName
      let (f, first) ← holding [ov] (getMethod ov m pl)
      callWith pos f first (backTo pos (starEach (e :: es) X.env)) (backToKw pos (keywordEach [] X.env))) := by rfl) :
    PE X (.Call (.Attribute o m apos) (e :: es) [] pos) (tMethD P w K mg base n m to t) := by
  subst hP hw hK hmg hbs
  intro pins s σ H Q I h
  refine PySem.W.methodCall_KW (pl := pl) (thn (ho pins s σ H _ I h) fun u s1 ⟨x, H1, I1, rx, a, C, dx, fs, k, ps, sp, ex, ea, l, G, hk, q⟩ => ?_) ht
  have hr := hr.mono hk
  obtain ⟨f, fd, F, c, hm, hb⟩ := G
  subst ex
  obtain rfl : u = Value.ref a := rx
  refine getmeth_ok I1 ea c hm l ?_
  refine PySem.W.callWith_K (first := [.ref a]) (h₀ := X.base) I.ok.mod.kin hm.kp (thn (ha pos pins s1 σ H1 _ I1 q) fun us s2 ⟨vs, H2, I2, r, q2⟩ => ⟨I2.kIn, ?_⟩) hst hpl
  exact run_fn (us := .ref a :: us) (vs := .ref a :: vs) (E := E0) F hr hb .nil pass0 I2 (.cons rfl r) (by rw [List.append_nil]; exact q2)
/-- a name of a built-in type -/
theorem pe_ty {n : Str} {T : String} (hm : X.mg n = none) (hv : bootBuiltins n = some (.type T)) (hg : Gl X n := by rfl) (hn : n ≠ "__name__" := by decide) (hd : (n == ("__debug__" : Str)) = false := by decide) : PE X (.Name n pos) (tC (.ty T)) :=
  pe_bltn hg hm hv rfl hn hd
end

/-! ### the rules with the written part as a letter of its own (in a comprehension's block the context's own does not stand outside) -/
section
variable {X : Cx} {K : PySem.W.Frag}
theorem ix_listK (h : X.K = K) : IxR X (rIxL K) := h ▸ ix_list
theorem ix_tupK (h : X.K = K) : IxR X (rIxT K) := h ▸ ix_tup
theorem sl_listK (h : X.K = K) : SlR X (rSlL K) := h ▸ sl_list
theorem call_len_seqK (h : X.K = K) : CallR X (.builtin "len") (fun xs H Q => ∃ p ys, xs = [.ref p] ∧ (SqL K H p ys ∨ SqT K H p ys) ∧ Q (.int ys.length) H) := h ▸ call_len_seq
theorem pe_fldK {e : Expr} {f : Str} {ta : TE} {pos : Pos} (h : X.K = K) (he : PE X e ta) (hb : attributeBase e f X.env (eval e X.env) = eval e X.env) : PE X (.Attribute e f pos) (tFld K ta f) := h ▸ pe_fld he hb
theorem pe_joinK {o e : Expr} {to : TE} {t : TA} {apos cpos : Pos} (h : X.K = K) (ho : PE X o to) (ha : PA X [e] t)
    (hbase : attributeBase o "join" X.env (eval o X.env) = eval o X.env := by rfl)
    (hfew : ((backTo cpos (starEach [e] X.env)).all (fun x => !x.1) && (backToKw cpos (keywordEach [] X.env)).all (fun x => x.1.isSome)
      && decide ([e].length + ([] : List Keyword).length + (if ([] : List Keyword).isEmpty then 0 else 1) < 30)) = true := by rfl)
    (hline : (apos.endLine == cpos.line) = true := by rfl) (hs : starEach [e] X.env = (false, eval e X.env) :: starEach [] X.env := by rfl) (hplain : (backTo cpos (starEach [] X.env)).any (·.1) = false := by rfl) :
    PE X (.Call (.Attribute o "join" apos) [e] [] cpos) (tBM K "str" (rJoin K) to t) := h ▸ pe_join ho ha hbase hfew hline hs hplain
theorem pi_listK {tg l : Expr} {tl : TE} (h : X.K = K) (hl : PE X l tl) : PI X tg l (iList K tl) := h ▸ pi_list hl
theorem pg_two {i j : Nat} {x y : Str} {px py pos : Pos} {k : Nat} (h : X.K = K) (hc : X.calm = true) (hN : X.N.Nodup) (hi : X.N[i]? = some x) (hj : X.N[j]? = some y) (hx : Loc X.env.scope x) (hy : Loc X.env.scope y)
    (hfx : X.fn x = true ∨ X.env.scope.names.lookup x = some .local := by first | exact .inl rfl | exact .inr rfl | assumption) (hfy : X.fn y = true ∨ X.env.scope.names.lookup y = some .local := by first | exact .inl rfl | exact .inr rfl | assumption) :
    PG X (.Tuple [.Name x px, .Name y py] k pos) (gTup K 2 (gCons (gName i) (gCons (gName j) gNil))) := h ▸ pg_tup hc (pgs_cons (pg_name hN hi hx hfx) (pgs_cons (pg_name hN hj hy hfy) pgs_nil))
end
theorem bt_ty_bool : bootBuiltins "bool" = some (.type "bool") := by decide +kernel
theorem bt_ty_int : bootBuiltins "int" = some (.type "int") := by decide +kernel
theorem bt_ty_list : bootBuiltins "list" = some (.type "list") := by decide +kernel
theorem bt_max : bootBuiltins "max" = some (.builtin "max") := by decide +kernel
theorem bt_min : bootBuiltins "min" = some (.builtin "min") := by decide +kernel
theorem bt_isinstance : bootBuiltins "isinstance" = some (.builtin "isinstance") := by decide +kernel

end L2

set_option linter.all false
set_option maxRecDepth 100000
set_option maxHeartbeats 4000000
/-! == and != of two lists of flat items. -/
namespace L2
open PySem PySem.Spec PyProof.Rows
theorem Vals.rel {xs : List V} {us : List Value} (r : Vals xs us) : ∀ (j : Nat) (h1 : j < xs.length) (h2 : j < us.length), RelV xs[j] us[j] := by
  induction r with
  | nil => intro j h1; simp at h1
  | cons a t ih =>
    intro j h1 h2
    cases j with
    | zero => exact a
    | succ j => exact ih j (by simpa using h1) (by simpa using h2)
def eqVs : List V → List V → Bool
  | [], [] => true
  | x :: xs, y :: ys => eqV x y && eqVs xs ys
  | _, _ => false
theorem eqVs_len : ∀ {xs ys : List V}, xs.length ≠ ys.length → eqVs xs ys = false
  | [], [], h => absurd rfl h
  | [], _ :: _, _ => rfl
  | _ :: _, [], _ => rfl
  | x :: xs, y :: ys, h => by
    have : xs.length ≠ ys.length := fun e => h (by simp [e])
    rw [eqVs, eqVs_len this, Bool.and_false]
theorem eqVs_range : ∀ {xs ys : List V}, xs.length = ys.length → (List.range xs.length).all (fun j => eqV (xs.getD j .non) (ys.getD j .non)) = eqVs xs ys
  | [], [], _ => rfl
  | [], _ :: _, h => by simp at h
  | _ :: _, [], h => by simp at h
  | x :: xs, y :: ys, h => by
    have h' : xs.length = ys.length := by simpa using h
    rw [List.length_cons, List.range_succ_eq_map, List.all_cons, List.all_map, eqVs, ← eqVs_range h']
    rfl
section
variable {X : Cx} {K : PySem.W.Frag}
theorem eq_items {A : Around} {s : Shared} {xs ys : List V} {ia ib : List Value} (ra : Vals xs ia) (rb : Vals ys ib) (fx : xs.all flatV = true) (fy : ys.all flatV = true) :
    ∀ j (h1 : j < ia.toArray.size) (h2 : j < ib.toArray.size), SeqAt.EqAt A s ia.toArray[j] ib.toArray[j] (eqV (xs.getD j .non) (ys.getD j .non)) := by
  intro j h1 h2
  have la := ra.length
  have lb := rb.length
  have g1 : j < ia.length := by simpa using h1
  have g2 : j < ib.length := by simpa using h2
  have e1 : xs.getD j .non = xs[j]'(by omega) := by rw [List.getD_eq_getElem?_getD, List.getElem?_eq_getElem (by omega)]; rfl
  have e2 : ys.getD j .non = ys[j]'(by omega) := by rw [List.getD_eq_getElem?_getD, List.getElem?_eq_getElem (by omega)]; rfl
  rw [e1, e2]
  have k1 := ra.rel j (by omega) g1
  have k2 := rb.rel j (by omega) g2
  have q := eqAt_V (A := A) (s := s) k1 k2 (List.all_eq_true.mp fx _ (List.getElem_mem _)) (List.all_eq_true.mp fy _ (List.getElem_mem _))
  simpa using q
end
end L2

set_option linter.all false
set_option maxRecDepth 100000
set_option maxHeartbeats 4000000
/-! isinstance against own classes; a list taken apart into names. -/
namespace L2
open PySem PySem.Spec PyProof.Rows
/-- the class at C is one whose objects say their class plainly -/
structure InsTy (K : PySem.W.Frag) (C : Addr) : Prop where
  cl : Cls K C
  ha : PySem.W.findIn K (.ref C) "__class__" = some (some (.builtin "object.__class__"))
  hn : PySem.W.specialIn K (.builtin "object.__class__") "__get__" = some (some (.builtin "getset_descriptor.__get__"))
  htk : PySem.W.takesIn K (.builtin "object.__class__") = some true
  hm : PySem.W.mroIn K C (.type "object") = some true
section
variable {X : Cx} {K : PySem.W.Frag}
theorem call_isOwn (h : X.K = K) : CallR X (.builtin "isinstance") (fun xs H Q => ∃ p D C dx fs b, xs = [.ref p, .ref D] ∧ H p = some (.ins C dx fs) ∧ InsTy K C ∧ PySem.W.kitOne K (.ref C) (.ref D) = some b ∧ Q (.bl b) H) := by
  subst h
  intro pins s σ H xs us Q I r h
  obtain ⟨p, D, C, dx, fs, b, rfl, hp, ty, hk, q⟩ := h
  obtain ⟨u, v, rfl, r1, r2⟩ := r.two
  cases r2
  exact isinst_ok I r1 (.ins hp ty.cl ty.ha ty.hn ty.htk ty.hm) hk fun tk => ⟨.bl b, H, I.tok _, rfl, q⟩
end

section
variable {prog : Program} {w : World} {A : Around} {E : Value → Shared → Prop} {s : Shared}
end
section
variable {X : Cx} {K : PySem.W.Frag} {pos : Pos}
end
end L2

set_option linter.all false
set_option maxRecDepth 100000
set_option maxHeartbeats 4000000
/-! zip of two lists. -/
namespace L2
open PySem PySem.Spec PyProof.Rows
theorem ne_cls {h : Heap} {a b : Addr} {o p : Obj} (ha : h.get? a = some o) (hb : h.get? b = some p) (hc : o.cls ≠ p.cls) : a ≠ b := by
  rintro rfl
  rw [ha] at hb
  cases hb
  exact hc rfl
theorem zipApart_of {h : Heap} {z TI TO i1 i2 l1 l2 : Addr} {f0 a b : Value} {k1 k2 : Nat} {xs ys : Array Value} (F : ZipFar z TI TO i1 i2) (hz : IsZip h z TI TO f0) (hTI : IsPair h TI (.ref i1) (.ref i2)) (hTO : IsPair h TO a b)
    (h1 : h.IsListIter i1 l1 k1) (h2 : h.IsListIter i2 l2 k2) (hl1 : h.IsList l1 xs) (hl2 : h.IsList l2 ys) : ZipApart z TI TO i1 i2 l1 l2 := by
  obtain ⟨o1, e1, c1, _⟩ := h1
  obtain ⟨o2, e2, c2, _⟩ := h2
  obtain ⟨p1, q1, d1, _⟩ := hl1
  obtain ⟨p2, q2, d2, _⟩ := hl2
  have n1 : (Value.type "list") ≠ .type "zip" := by intro z; injection z with z; revert z; decide
  have n2 : (Value.type "list") ≠ .type "tuple" := by intro z; injection z with z; revert z; decide
  have n3 : (Value.type "list") ≠ .type "list_iterator" := by intro z; injection z with z; revert z; decide
  exact ⟨F.TIz, F.TOz, F.i1z, F.i2z, F.TITO, F.TIi1, F.TIi2, F.TOi1, F.TOi2, F.i12,
    ne_cls q1 hz (by rw [d1]; exact n1), ne_cls q1 hTO (by rw [d1]; exact n2), ne_cls q1 e1 (by rw [d1, c1]; exact n3), ne_cls q1 e2 (by rw [d1, c2]; exact n3),
    ne_cls q2 hz (by rw [d2]; exact n1), ne_cls q2 hTO (by rw [d2]; exact n2), ne_cls q2 e1 (by rw [d2, c1]; exact n3), ne_cls q2 e2 (by rw [d2, c2]; exact n3)⟩
/-- pairs of items: a new tuple each -/
def Izl (K : PySem.W.Frag) (a b : Addr) : It :=
  ⟨fun i H => ∃ xs ys x y, SqL K H a xs ∧ SqL K H b ys ∧ xs[i]? = some x ∧ ys[i]? = some y,
   fun i H v H' => ∃ p x y, H p = none ∧ (∀ xs, SqL K H a xs → xs[i]? = some x) ∧ (∀ ys, SqL K H b ys → ys[i]? = some y) ∧ v = .ref p ∧ H' = upd H p (.tup [x, y]),
   fun i H => ∃ xs ys, SqL K H a xs ∧ SqL K H b ys ∧ (xs.length ≤ i ∨ ys.length ≤ i)⟩
theorem turn_zipL {P : Program} {w : World} {K : PySem.W.Frag} {es : List Expr} {k : Nat} {pos : Pos} {z TI TO i1 i2 l1 l2 : Addr} (F : ZipFar z TI TO i1 i2) :
    Turn P w K (.Tuple es k pos) (Izl K l1 l2) [z, TI, TO, i1, i2] z (fun i h => IsZip h z TI TO .none ∧ IsPair h TI (.ref i1) (.ref i2) ∧ (∃ a b, IsPair h TO a b) ∧ h.IsListIter i1 l1 i ∧ h.IsListIter i2 l2 i) where
  mem := by simp
  obj := fun i h st b hb => by
    obtain ⟨hz, hTI, ⟨a, b', hTO⟩, ⟨o1, e1, c1, d1⟩, o2, e2, c2, d2⟩ := st
    simp only [List.mem_cons, List.not_mem_nil, or_false] at hb
    rcases hb with rfl | rfl | rfl | rfl | rfl
    · exact ⟨_, hz, fun v q => by cases q⟩
    · exact ⟨_, hTI, fun v q => by cases q⟩
    · exact ⟨_, hTO, fun v q => by cases q⟩
    · exact ⟨o1, e1, fun v q => by rw [d1] at q; cases q⟩
    · exact ⟨o2, e2, fun v q => by rw [d2] at q; cases q⟩
  keep := fun i h h' st kk => by
    obtain ⟨hz, hTI, ⟨a, b', hTO⟩, ⟨o1, e1, r1⟩, o2, e2, r2⟩ := st
    exact ⟨kk z (by simp) _ hz, kk TI (by simp) _ hTI, ⟨a, b', kk TO (by simp) _ hTO⟩, ⟨o1, kk i1 (by simp) _ e1, r1⟩, o2, kk i2 (by simp) _ e2, r2⟩
  item := by
    intro X hP hw hK hc i pins s σ H E I hf st hg
    subst hP hw hK
    obtain ⟨hz, hTI, ⟨a, b, hTO⟩, h1, h2⟩ := st
    obtain ⟨xs, ys, x, y, hq1, hq2, hx, hy⟩ := hg
    obtain ⟨ia, ra, pa, _⟩ := I.list hq1
    obtain ⟨ib, rb, pb, _⟩ := I.list hq2
    obtain ⟨u, hu, ru⟩ := ra.get hx
    obtain ⟨v, hv, rv⟩ := rb.get hy
    have D := zipApart_of F hz hTI hTO h1 h2 pa.isList pb.isList
    obtain ⟨tk, htk⟩ : ∃ tk, tk = s.toks := ⟨_, rfl⟩
    refine wpAny_pyNext_zip_item D hz hTI hTO h1 h2 pa.isList pb.isList (x := u) (y := v) (by simpa using hu) (by simpa using hv) fun h' a1 a2 a3 a4 a5 a6 kp => ?_
    refine ⟨_, rfl, ?_⟩
    refine wpAny_letOwnedTupleGo_zip (s := { s with heap := h', toks := s.toks }) a1 fun h2' hz' hs' => ?_
    replace hs' : Heap.SameBut z h' h2' := hs'
    have zlt : z < s.heap.objs.size := Heap.lt_size hz
    have far : ∀ q ∈ [z, TI, TO, i1, i2], q < s.heap.objs.size := by
      intro q hq
      obtain ⟨o1, e1, _⟩ := h1
      obtain ⟨o2, e2, _⟩ := h2
      simp only [List.mem_cons, List.not_mem_nil, or_false] at hq
      rcases hq with rfl | rfl | rfl | rfl | rfl
      · exact zlt
      · exact Heap.lt_size hTI
      · exact Heap.lt_size hTO
      · exact Heap.lt_size e1
      · exact Heap.lt_size e2
    have fz := hf z (by simp)
    have fTO := hf TO (by simp)
    have f1 := hf i1 (by simp)
    have f2 := hf i2 (by simp)
    -- the four records turn, then the tuple is laid
    have I1 : Inv X pins σ H { s with heap := s.heap.push { cls := .type "tuple", data := .seq #[u, v] }, toks := s.toks } := I.kept fun b o e => Heap.get?_push_of_some _ e
    have keepAll : ∀ b o, b ≠ z → b ≠ TO → b ≠ i1 → b ≠ i2 → s.heap.get? b = some o → h2'.get? b = some o := fun b o b1 b2 b3 b4 e => hs'.extBut _ _ b1 (kp b o b1 b2 b3 b4 e)
    have hnew : H s.heap.objs.size = none := I.hok.fresh (Nat.le_refl _)
    have Tz : s.heap.objs.size ≠ z := Nat.ne_of_gt zlt
    have ht2 : h2'.get? s.heap.objs.size = some { cls := .type "tuple", data := .seq #[u, v] } := hs'.extBut _ _ Tz a5
    have I2 : Inv X pins σ (upd H s.heap.objs.size (.tup [x, y])) { s with heap := h2', toks := s.toks } := by
      have there : ∀ q ∈ [z, TO, i1, i2], ∃ o', h2'.get? q = some o' := by
        intro q hq
        obtain ⟨o1, e1, _⟩ := a3
        obtain ⟨o2, e2, _⟩ := a4
        simp only [List.mem_cons, List.not_mem_nil, or_false] at hq
        rcases hq with rfl | rfl | rfl | rfl
        · exact ⟨_, hz'⟩
        · exact ⟨_, hs'.extBut _ _ F.TOz a2⟩
        · exact ⟨_, hs'.extBut _ _ F.i1z e1⟩
        · exact ⟨_, hs'.extBut _ _ F.i2z e2⟩
      have nch : ∀ b, b ∉ [z, TO, i1, i2] → b ≠ z ∧ b ≠ TO ∧ b ≠ i1 ∧ b ≠ i2 := fun b hb => by
        simp only [List.mem_cons, List.not_mem_nil, or_false, not_or] at hb
        exact hb
      have trk : ∀ b u', H b = some u' → b ≠ z ∧ b ≠ TO ∧ b ≠ i1 ∧ b ≠ i2 := fun b u' e =>
        ⟨fun q => (by rw [q, fz.1] at e; cases e), fun q => (by rw [q, fTO.1] at e; cases e), fun q => (by rw [q, f1.1] at e; cases e), fun q => (by rw [q, f2.1] at e; cases e)⟩
      have okH : HOk X.prog X.w (upd H s.heap.objs.size (.tup [x, y])) h2' := fun b u' e => by
        by_cases hb : b = s.heap.objs.size
        · subst hb
          rw [upd_same] at e
          cases e
          exact ⟨(show 2 ≤ sizeLine by decide), [u, v], .cons ru (.cons rv .nil), ⟨_, ht2, rfl, _, rfl⟩⟩
        · rw [upd_ne hb] at e
          have hx := I.hok b u' e
          refine hx.stay (fun q o hq e2 => ?_) (fun q e2 => ?_) (fun q xs e2 => ?_)
          · rcases hq with rfl | hq
            · obtain ⟨b1, b2, b3, b4⟩ := trk q _ e
              exact keepAll q o b1 b2 b3 b4 e2
            · obtain ⟨b1, b2, b3, b4⟩ := trk q _ hq
              exact keepAll q o b1 b2 b3 b4 e2
          · rw [upd_ne (ne_of_none e2 hnew)]; exact e2
          · rw [upd_ne (ne_of_none e2 hnew)]; exact e2
      refine I.step (g' := s.gens) (d' := s.drawn) (ch := [z, TO, i1, i2]) (fun b hb => ?_) (fun b o _ _ hcb e n => ?_) (fun b o _ _ hcb e n => ?_) (fun b o hcb e n => ?_) (fun b o hcb e => ?_) (fun b xs e => ?_) (fun b o u' e => ?_) (fun b ps e => ?_) (fun m hm => ?_) okH I.bare
      · simp only [List.mem_cons, List.not_mem_nil, or_false] at hb
        rcases hb with rfl | rfl | rfl | rfl
        · exact ⟨fz.2.2.2.1, fz.2.1, fz.2.2.2.2.1, fz.2.2.2.2.2⟩
        · exact ⟨fTO.2.2.2.1, fTO.2.1, fTO.2.2.2.2.1, fTO.2.2.2.2.2⟩
        · exact ⟨f1.2.2.2.1, f1.2.1, f1.2.2.2.2.1, f1.2.2.2.2.2⟩
        · exact ⟨f2.2.2.2.1, f2.2.1, f2.2.2.2.2.1, f2.2.2.2.2.2⟩
      · obtain ⟨b1, b2, b3, b4⟩ := nch b hcb
        exact keepAll b o b1 b2 b3 b4 e
      · obtain ⟨b1, b2, b3, b4⟩ := nch b hcb
        exact ⟨o.slots, keepAll b o b1 b2 b3 b4 e⟩
      · rw [upd_ne (Nat.ne_of_lt (Heap.lt_size e))]; exact n
      · obtain ⟨b1, b2, b3, b4⟩ := nch b hcb
        exact ⟨o, keepAll b o b1 b2 b3 b4 e⟩
      · rw [upd_ne (ne_of_none e hnew)]; exact e
      · rw [upd_ne (ne_of_none e hnew)]; exact e
      · exact ⟨#[], by rw [upd_ne (ne_of_none e hnew), e]; simp⟩
      · obtain ⟨o, es', ep, ho, r⟩ := hm
        exact ⟨o, es', ep, keepAll _ o fz.2.1.symm fTO.2.1.symm f1.2.1.symm f2.2.1.symm ho, r⟩
    refine ⟨.ref s.heap.objs.size, _, I2, rfl, ⟨_, x, y, hnew, fun zs hz => by rw [I.list_inj hz hq1]; exact hx, fun zs hz => by rw [I.list_inj hz hq2]; exact hy, rfl, rfl⟩, ⟨hz', hs'.extBut _ _ F.TIz (kp _ _ F.TIz F.TITO F.TIi1 F.TIi2 hTI), ⟨_, _, hs'.extBut _ _ F.TOz a2⟩, ?_, ?_⟩, fun b hb => ?_⟩
    · obtain ⟨o, e, r⟩ := a3; exact ⟨o, hs'.extBut _ _ F.i1z e, r⟩
    · obtain ⟨o, e, r⟩ := a4; exact ⟨o, hs'.extBut _ _ F.i2z e, r⟩
    · rw [upd_ne (Nat.ne_of_lt (far b hb))]; exact (hf b hb).1
  done := by
    intro X hP hw hK hc i pins s σ H E I hf st hg
    subst hP hw hK
    obtain ⟨hz, hTI, ⟨a, b, hTO⟩, h1, h2⟩ := st
    obtain ⟨xs, ys, hq1, hq2, hg⟩ := hg
    obtain ⟨ia, ra, pa, _⟩ := I.list hq1
    obtain ⟨ib, rb, pb, _⟩ := I.list hq2
    have la := ra.length
    have lb := rb.length
    have D := zipApart_of F hz hTI hTO h1 h2 pa.isList pb.isList
    refine wpAny_pyNext_zip_end (I.ok.hd hc) D hz hTI hTO h1 h2 pa.isList pb.isList (by rcases hg with q | q; exact .inl (by simp; omega); exact .inr (by simp; omega)) fun h' kp => ⟨rfl, ?_⟩
    refine I.turnedN (t' := s.toks) (ch := [z, TO, i1, i2]) (fun b o hb q => ?_) fun b hb => hf b ?_
    · simp only [List.mem_cons, List.not_mem_nil, or_false, not_or] at hb
      exact kp b o hb.1 hb.2.1 hb.2.2.1 hb.2.2.2 q
    · simp only [List.mem_cons, List.not_mem_nil, or_false] at hb ⊢
      rcases hb with q | q | q | q
      · exact .inl q
      · exact .inr (.inr (.inl q))
      · exact .inr (.inr (.inr (.inl q)))
      · exact .inr (.inr (.inr (.inr q)))
  self := fun _ _ _ _ _ st h => wpAny_pyIter_zip st.1 h

section
variable {X : Cx} {es : List Expr} {k : Nat} {tpos : Pos}
def iZipL (K : PySem.W.Frag) (ta : TA) : TI := fun σ H R => ta σ H fun vs H1 => ∃ a b, vs = [.ref a, .ref b] ∧ (∃ xs, SqL K H1 a xs) ∧ (∃ ys, SqL K H1 b ys) ∧ R (Izl K a b) H1
theorem pi_zipL {a b : Expr} {ta : TA} {p pos : Pos} (hg : Gl X "zip") (hm : X.mg "zip" = none) (ha : PA X [a, b] ta) (hv : bootBuiltins "zip" = some (.type "zip") := by decide +kernel) (hs : starEach [a, b] X.env = [(false, eval a X.env), (false, eval b X.env)] := by rfl) (hs2 : starEach [b] X.env = [(false, eval b X.env)] := by rfl) :
    PI X (.Tuple es k tpos) (.Call (.Name "zip" p) [a, b] [] pos) (iZipL X.K ta) := by
  intro pins s σ H R I h
  refine Call_ (ld_blt I hg hm hv (PyProof.Rows.callWith_type1 (thn (ha pos pins s σ H _ I h) fun us s1 ⟨vs, H1, I1, r1, q1⟩ => ?_) (by rw [hs, hs2]) (by rw [hs2]; rfl)))
  obtain ⟨l1, l2, e, ⟨xs, hq1⟩, ⟨ys, hq2⟩, q⟩ := q1
  subst e
  obtain ⟨u, v, rfl, ru, rv⟩ := r1.two
  cases ru; cases rv
  obtain ⟨ia, ra, pa, _⟩ := I1.list hq1
  obtain ⟨ib, rb, pb, _⟩ := I1.list hq2
  refine call_zip_2 pa.isList pb.isList fun h' a1 a2 a3 a4 a5 a6 kp => ?_
  have far : ZipFar (s1.heap.objs.size + 4) (s1.heap.objs.size + 2) (s1.heap.objs.size + 3) s1.heap.objs.size (s1.heap.objs.size + 1) := zipFar_new _
  have I2 : Inv X pins σ H1 { s1 with heap := h' } := I1.kept (t' := s1.toks) kp
  refine wpAny_pyIter_zip a1 ⟨s1.heap.objs.size + 4, [s1.heap.objs.size + 4, s1.heap.objs.size + 2, s1.heap.objs.size + 3, s1.heap.objs.size, s1.heap.objs.size + 1], _, _, H1, rfl, I2, turn_zipL far, ⟨a1, a2, ⟨_, _, a3⟩, a4, a5⟩, fun b hb => ?_, q⟩
  have hb' : s1.heap.objs.size ≤ b := by
    simp only [List.mem_cons, List.not_mem_nil, or_false] at hb
    rcases hb with rfl | rfl | rfl | rfl | rfl
    · exact Nat.le_add_right _ _
    · exact Nat.le_add_right _ _
    · exact Nat.le_add_right _ _
    · exact Nat.le_refl _
    · exact Nat.le_add_right _ _
  exact I1.fpOk hb' (I1.hok.fresh hb')
end
theorem pi_zipLK {X : Cx} {es : List Expr} {k : Nat} {tpos : Pos} {K : PySem.W.Frag} {a b : Expr} {ta : TA} {p pos : Pos} (h : X.K = K) (hg : Gl X "zip") (hm : X.mg "zip" = none) (ha : PA X [a, b] ta) (hv : bootBuiltins "zip" = some (.type "zip") := by decide +kernel) (hs : starEach [a, b] X.env = [(false, eval a X.env), (false, eval b X.env)] := by rfl) (hs2 : starEach [b] X.env = [(false, eval b X.env)] := by rfl) :
    PI X (.Tuple es k tpos) (.Call (.Name "zip" p) [a, b] [] pos) (iZipL K ta) := h ▸ pi_zipL hg hm ha hv hs hs2
/-- for x, y in zip(a, b): lists that stay -/
theorem for_zipL {K : PySem.W.Frag} {a b : Addr} {xs ys : List V} {g : TG} {tb : TS} {D : Ends} {σ : St} {H : Hp} (Pv : Nat → St → Hp → Prop) (h0 : Pv 0 σ H) (hl : ∀ i σ H, i ≤ xs.length → i ≤ ys.length → Pv i σ H → SqL K H a xs ∧ SqL K H b ys)
    (hs : ∀ i x y p σ H, xs[i]? = some x → ys[i]? = some y → H p = none → Pv i σ H → g (.ref p) σ (upd H p (.tup [x, y])) fun σ2 H2 => tb { D with nx := Pv (i + 1), ct := Pv (i + 1), bk := D.nx } σ2 H2) (hd : ∀ i σ H, i = xs.length ∨ i = ys.length → Pv i σ H → D.nx σ H) :
    ∃ W : Nat → Nat → St → Hp → Prop, (∃ m, W 0 m σ H) ∧ ∀ i m σ H, W i m σ H →
      ((Izl K a b).stop i H ∧ D.nx σ H) ∨ ((Izl K a b).go i H ∧ ∃ N : St → Hp → Prop, (∀ σ' H', N σ' H' → ∃ m', m' < m ∧ W (i + 1) m' σ' H') ∧ ∀ x H', (Izl K a b).yld i H x H' → g x σ H' fun σ2 H2 => tb { D with nx := N, ct := N, bk := D.nx } σ2 H2) := by
  refine ⟨fun i m σ H => m = xs.length - i ∧ i ≤ xs.length ∧ i ≤ ys.length ∧ Pv i σ H, ⟨xs.length, by simp, Nat.zero_le _, Nat.zero_le _, h0⟩, ?_⟩
  rintro i m σ H ⟨rfl, hi, hj, p⟩
  obtain ⟨q1, q2⟩ := hl i σ H hi hj p
  by_cases hlt : i < xs.length ∧ i < ys.length
  · refine .inr ⟨⟨xs, ys, xs[i], ys[i], q1, q2, by simp [hlt.1], by simp [hlt.2]⟩, Pv (i + 1), fun σ' H' p' => ⟨xs.length - (i + 1), by omega, rfl, hlt.1, hlt.2, p'⟩, fun x H' y => ?_⟩
    obtain ⟨r, u, v, hr, e1, e2, rfl, rfl⟩ := y
    exact hs i u v r σ H (e1 xs q1) (e2 ys q2) hr p
  · have e : i = xs.length ∨ i = ys.length := by omega
    exact .inl ⟨⟨xs, ys, q1, q2, by omega⟩, hd i σ H e p⟩
end L2

set_option linter.all false
set_option maxRecDepth 100000
set_option maxHeartbeats 4000000
/-! name = [comprehension]: the store ahead of the letting go. -/
namespace L2
open PySem PySem.Spec PyProof.Rows
section
variable {X : Cx} {elt tg iter : Expr} {ifs : List Expr} {scope : Scope} {pos : Pos} {N : List Str} {js : List (Option Nat)} {wi : TI} {g : TG} {tc : TT} {te : TE}
theorem ps_setC {osc : Scope} {ON : List Str} {k : Nat} {y : Str} {py spos : Pos} (hN : X.N.Nodup) (hk : X.N[k]? = some y) (hky : Loc X.env.scope y) (cs : CompScope osc ON scope N js) (ho : X.env.scope = osc) (hON : X.N = ON) (hc : X.calm = true) (hi : PI X tg iter wi)
    (hg : ∀ s₀ H₀ cl C ex, PG (compX X scope N s₀ H₀ cl C ex) tg g) (hif : ∀ s₀ H₀ cl C ex, PIfs (compX X scope N s₀ H₀ cl C ex) ifs tc) (he : ∀ s₀ H₀ cl C ex, PE (compX X scope N s₀ H₀ cl C ex) elt te)
    (hsw : swapsWith (.ListComp elt [⟨tg, iter, ifs, 0⟩] scope pos) (some (.Name y py)) spos.line X.env = pure true := by rfl)
    (hs : ∀ x, foldedSetIterable iter X.env x = pure x := by intro _; rfl) (hf : X.fn y = true ∨ X.env.scope.names.lookup y = some .local := by first | exact .inl rfl | exact .inr rfl | assumption) :
    PS X (.Assign [.Name y py] (.ListComp elt [⟨tg, iter, ifs, 0⟩] scope pos) spos) (tAsg (tComp wi (subσ js) g tc te) (gName k)) := by
  intro pins s σ H Dn I h0
  have h : tComp wi (subσ js) g tc te σ H (fun v H' => Dn.nx (σ.set k (some v)) H') := h0
  subst ho hON
  obtain ⟨cl, hcl, cl1, cl2⟩ := closureFor_ok (scope := scope) (env := X.env) fun y hy hf => I.ok.has y.1 (cs.free y hy hf)
  rw [exec_Assign_Name_used _ _ _ _ hsw]
  refine wpAny_bind (wpAny_standAt (wpAny_bind ?_))
  show wpAny _ X.A (do let _ ← comprehension (.ListComp elt [⟨tg, iter, ifs, 0⟩] scope pos) scope X.env _ (newList []) false (eval iter X.env) (some (assign (.Name y py) X.env))) _ _ s
  refine wpAny_bind (wpAny_mono (wpAny_comprehension_free (use := some (assign (.Name y py) X.env)) (Q := fun _ s' => SP X pins Dn .next s') rfl hs hcl cs.kind cs.names ?_) (fun _ s' hq => wpAny_pure (wpAny_pure hq)) fun _ _ e => e)
  refine thn (hi pins s σ H _ I h) fun v s1 h1 => thn h1 fun itv s2 h2 => ?_
  obtain ⟨it, fp, tn, J, H2, e, I2, T, st2, f2, hW⟩ := h2
  subst e
  have hD0 : H2 s2.heap.objs.size = none := I2.hok.fresh (Nat.le_refl _)
  obtain ⟨W, ⟨m0, w0⟩, turn⟩ := hW s2.heap.objs.size hD0
  have I3 := I2.lnew (t' := s2.toks) (ys := []) (its := []) .nil (Nat.zero_le _)
  refine wpAny_newObj_type (wpAny_newFunctionEnv cs.cell (by intro y hy; simp at hy) (fun h₁ hns₁ hsb₁ => ?_) cs.kind)
  dsimp only at hns₁ hsb₁ ⊢
  -- the state with the new list: s3
  obtain ⟨s3, hs3⟩ : ∃ s3 : Shared, s3 = { s2 with heap := s2.heap.push { cls := .type "list", data := .seq ([] : List Value).toArray }, toks := s2.toks } := ⟨_, rfl⟩
  rw [← hs3] at I3
  have e3 : s3.heap = s2.heap.push { cls := .type "list", dict := none, data := .seq ([] : List Value).toArray } := by rw [hs3]
  have e3o : s3.os = s2.os := by rw [hs3]
  have e3g : s3.gens = s2.gens := by rw [hs3]
  rw [← e3] at hns₁ hsb₁ ⊢
  obtain ⟨H3, hH3⟩ : ∃ H3 : Hp, H3 = upd H2 s2.heap.objs.size (.lst []) := ⟨_, rfl⟩
  rw [← hH3] at I3 w0
  have up1 : ∀ b o, s2.heap.get? b = some o → s3.heap.get? b = some o := fun b o q => by rw [e3]; exact Heap.get?_push_of_some _ q
  have up2 : ∀ b o, s3.heap.get? b = some o → h₁.get? b = some o := fun b o q => hsb₁.extBut b o (Nat.ne_of_lt (Heap.lt_size q)) (Heap.get?_push_of_some _ q)
  have fpo : ∀ b ∈ fp, ∃ o, s3.heap.get? b = some o := fun b hb => by
    obtain ⟨o, ho, _⟩ := T.obj 0 _ st2 b hb
    exact ⟨o, up1 b o ho⟩
  have fr3 : ∀ b ∈ fp, H3 b = none := fun b hb => by
    obtain ⟨o, ho, _⟩ := T.obj 0 _ st2 b hb
    rw [hH3, upd_ne (Nat.ne_of_lt (Heap.lt_size ho))]
    exact (f2 b hb).1
  have fpC : ∀ b ∈ fp, b ≠ s3.heap.objs.size := fun b hb => by
    obtain ⟨o, ho⟩ := fpo b hb
    exact Nat.ne_of_lt (Heap.lt_size ho)
  have fpS : ∀ b ∈ fp, b ∉ frs X.stack := fun b hb hs' => by
    rcases List.mem_cons.mp (I2.stkSub b hs') with z | z
    · exact (f2 b hb).2.1 z
    · exact (f2 b hb).2.2.1 z
  have ok' : (compX X scope N s3 H3 cl s3.heap.objs.size fp).Ok := by
    refine ⟨I.ok.mod, cs.kind, I.ok.glob, I.ok.blt, Nat.le_refl _, fun x y c e1 e2 => I.ok.inj x y c (cl2 x c e1) (cl2 y c e2), fun x hx => ?_, fun x c hf => (nomatch hf), I.ok.hd, I.ok.frames, .inl rfl, fun b hb => ⟨fpC b hb, fun x c e => (f2 b hb).2.2.2.2.1 x c (cl2 x c e)⟩,
      I3.bs, Nat.le_trans I.ok.bsz I3.sz, fun b o e hb => ?_, fun b hb => fpS b hb, I3.stack, I3.stkFree⟩
    · have hm : (x, NameKind.free) ∈ scope.names := relabel_back cs.cell hx
      obtain ⟨c, hc⟩ := I.ok.has x (cs.free _ hm rfl)
      exact ⟨c, (cl1 _ hm rfl).trans hc⟩
    · rcases (f2 b hb).2.2.2.1 with z | z
      · exact I.ok.noex b o e z
      · exact absurd (Nat.lt_of_lt_of_le (Heap.lt_size e) (Nat.le_trans I.ok.bsz z)) (Nat.lt_irrefl _)
  have cellK : ∀ c v, s3.heap.IsCell c v → h₁.IsCell c v := fun c v ⟨o, ho, hd⟩ => ⟨o, up2 c o ho, hd⟩
  have I4 : ∀ t : Nat, Inv (compX X scope N s3 H3 cl s3.heap.objs.size fp) [] (subσ js σ) H3 { s2 with heap := h₁, toks := t } := fun t => by
    refine ⟨ok', e3o.symm, I2.bare, Un.kept up2, ⟨_, hns₁, fun i x v hi hv hx => ?_⟩, fun x c e => ?_, I3.hok.fresh (Nat.le_refl _), fun x c e => I3.freeC x c (cl2 x c e), fun p hp => (nomatch hp), I3.hok.kept up2, ?_⟩
    · -- a slot taken over
      have hv' : ∃ j, js[i]? = some (some j) ∧ σ[j]? = some (some v) := by
        unfold subσ at hv
        rw [List.getElem?_map] at hv
        cases hj : js[i]? with
        | none => rw [hj] at hv; cases hv
        | some o =>
          rw [hj] at hv
          cases o with
          | none => cases hv
          | some j =>
            refine ⟨j, rfl, ?_⟩
            have hv2 : (σ[j]?).join = some v := Option.some.inj hv
            cases hs2 : σ[j]? with
            | none => rw [hs2] at hv2; cases hv2
            | some u => rw [hs2] at hv2; exact congrArg some hv2
      obtain ⟨j, hj, hσ⟩ := hv'
      obtain ⟨x', h1', h2', h3'⟩ := cs.sub i j hj
      have hxx : x = x' := Option.some.inj (hi.symm.trans h1')
      subst hxx
      have hm : (x, NameKind.free) ∈ scope.names := mem_of_lookup h3'
      have hk := cs.free _ hm rfl
      obtain ⟨m, hn, hl⟩ := id I3.loc
      obtain ⟨u, ru, lk⟩ := hl j x v h2' hσ (by rcases hk with z | z; exact .inr (.inl z); exact .inr (.inr z))
      refine ⟨u, ru, ?_⟩
      rcases lk with ⟨k1, _⟩ | ⟨k1, c, e1, z⟩
      · rcases hk with z | z <;> (rw [show X.env.kindOf x = _ from z] at k1; cases k1)
      · exact .inr ⟨lookup_relabel_free h3', c, (cl1 _ hm rfl).trans e1, cellK c _ z⟩
    · obtain ⟨v, z⟩ := I3.cell x c (cl2 x c e)
      exact ⟨v, cellK c v z⟩
    · unfold subσ
      rw [List.length_map]
      exact cs.len
  have hst₁ : tn 0 h₁ := T.keep 0 _ _ st2 fun b hb o q => up2 b o (up1 b o q)
  have stat : ∀ {H' : Hp}, (∀ b ∈ fp, H' b = none) → ∀ b ∈ fp, FpOk (compX X scope N s3 H3 cl s3.heap.objs.size fp) [] H' b := fun hn b hb =>
    ⟨hn b hb, fpC b hb, fpS b hb, .inl hb, fun x c e => (f2 b hb).2.2.2.2.1 x c (cl2 x c e), fun p hp => (nomatch hp)⟩
  have loop : ∀ s4 : Shared, (∃ t, s4 = { s2 with heap := h₁, toks := t }) →
      codeAny (model X.prog X.w) X.A (.compLoop (.ListComp elt [⟨tg, iter, ifs, 0⟩] scope pos) 0 (.ref it) (.ref s2.heap.objs.size) (compEnvC scope cl s3.heap.objs.size X.env))
        (compPost (model X.prog X.w) X.A X.xe (some (assign (.Name y py) X.env)) (fun _ s' => SP X pins Dn .next s') (.ref s2.heap.objs.size) s3.heap.objs.size) s4 := by
    rintro s4 ⟨t, rfl⟩
    refine compLoop_any (fun n s' => ∃ i σ' ys H', Inv (compX X scope N s3 H3 cl s3.heap.objs.size fp) [] σ' H' s' ∧ tn i s'.heap ∧ (∀ b ∈ fp, H' b = none) ∧ W i n σ' ys H') ?_ m0 ⟨0, _, [], H3, I4 t, hst₁, fr3, w0⟩
    rintro n s5 ⟨i, σ5, ys, H5, I5, st5, fr5, w5⟩
    rcases turn i n σ5 ys H5 w5 with ⟨stop, qn⟩ | ⟨go, step⟩
    · refine thn (T.done (compX X scope N s3 H3 cl s3.heap.objs.size fp) rfl rfl rfl hc i [] s5 σ5 H5 _ I5 (stat fr5) st5 stop) fun r s6 ⟨hr, I6⟩ => ?_
      subst hr
      obtain ⟨m, hn, _⟩ := id I6.loc
      have IX : ∀ h', Heap.SameBut s3.heap.objs.size s6.heap h' → Inv X pins σ H5 { s6 with heap := h' } := fun h' hs' => by
        have neC : ∀ b o, s3.heap.get? b = some o → b ≠ s3.heap.objs.size := fun b o q => Nat.ne_of_lt (Heap.lt_size q)
        have un : Un (frs X.stack) fp H3 H5 s3.heap h' :=
          ⟨fun b o q n1 hb hx => (hs'.2 b (neC b o q)).trans (I6.base.keep b o q n1 hb hx),
           fun b o q n1 hb hx => by
             obtain ⟨sl, e⟩ := I6.base.slot b o q n1 hb hx
             exact ⟨sl, (hs'.2 b (neC b o q)).trans e⟩,
           fun b o q n1 hx => I6.base.free b o q n1 hx,
           fun b o q hx => by
             obtain ⟨o', e⟩ := I6.base.there b o q hx
             exact ⟨o', (hs'.2 b (neC b o q)).trans e⟩,
           I6.base.tups, I6.base.frzs, I6.base.tbls⟩
        refine I3.call' (ch := fp) (s' := { s6 with heap := h' }) I6.os un (fun b ob e => ?_) I6.bare (fun b hb => ⟨(f2 b hb).2.2.2.1, (f2 b hb).2.1, (f2 b hb).2.2.2.2.1, (f2 b hb).2.2.2.2.2⟩)
        refine (I6.hok b ob e).stay (fun c w' hc' q => (hs'.2 c ?_).trans q) (fun _ q => q) fun _ _ q => q
        rintro rfl
        have fC : H5 s3.heap.objs.size = none := I6.free
        rcases hc' with z | z
        · rw [← z, fC] at e; cases e
        · rw [fC] at z; cases z
      have fC : H5 s3.heap.objs.size = none := I6.free
      have IY : Inv X pins σ H5 s6 := IX s6.heap (Heap.SameBut.refl ..)
      have fo : FpOk X pins H5 s3.heap.objs.size := I3.fpOk (Nat.le_refl _) fC
      obtain ⟨oC, es, ep, ho1, hd1, hrest⟩ := id hn
      have IZ := IY.pinned (fp := [s3.heap.objs.size]) (fun b hb => by obtain rfl : b = _ := (by simpa using hb); exact fo) (fun b hb => by obtain rfl : b = _ := (by simpa using hb); exact ⟨oC, ho1, fun v z => by rw [hd1] at z; cases z⟩)
      show wpAny _ X.A (assign (.Name y py) X.env (.ref s2.heap.objs.size)) _ _ s6
      refine wpAny_assign_Name (store_ok IZ hN hk hky (show RelV (.ref s2.heap.objs.size) (.ref s2.heap.objs.size) from rfl) (fun s7 I7 => ?_) hf)
      have hC7 : s7.heap.get? s3.heap.objs.size = some oC := (I7.pin (s3.heap.objs.size, oC) (List.mem_append_right _ (List.mem_append_right _ (mem_pinsAt (by simp) ho1)))).1
      refine ⟨m, hn.at' fun o e => ?_, fun h' hs' => ⟨_, H5, ?_, qn⟩⟩
      · rw [ho1] at e; cases e; exact hC7
      · have I8 := I7.unpinned
        exact I8.turned (t' := s7.toks) (fun b o hb e => (hs'.2 b hb).trans e) fo.1 fo.2.1 fo.2.2.2.1 fo.2.2.2.2.1 fo.2.2.2.2.2
    · refine thn (T.item (compX X scope N s3 H3 cl s3.heap.objs.size fp) rfl rfl rfl hc i [] s5 σ5 H5 _ I5 (stat fr5) st5 go) fun r s6 ⟨u, hr, h6⟩ => ?_
      subst hr
      refine thn h6 fun _ s7 ⟨x, H7, I7, r7, y7, st7, fr7⟩ => ?_
      have I7' := I7.pinned (stat fr7) (T.obj _ _ st7)
      refine thn (hg _ _ _ _ _ _ s7 σ5 H7 x u _ I7' r7 (step x H7 y7)) fun _ s8 ⟨σ8, H8, I8, q8⟩ => ?_
      refine thn (hif _ _ _ _ _ _ s8 σ8 H8 _ I8 q8) fun ok s9 ⟨H9, I9, q9⟩ => ?_
      have again : ∀ {σ' : St} {H' : Hp} {s' : Shared}, Inv (compX X scope N s3 H3 cl s3.heap.objs.size fp) ([] ++ pinsAt fp s7.heap) σ' H' s' →
          Inv (compX X scope N s3 H3 cl s3.heap.objs.size fp) [] σ' H' s' ∧ tn (i + 1) s'.heap ∧ ∀ b ∈ fp, H' b = none := fun {σ' H' s'} I' => by
        refine ⟨I'.unpinned, T.keep _ _ _ st7 fun b hb o e => (I'.pin (b, o) (List.mem_append_right _ (List.mem_append_right _ (mem_pinsAt hb e)))).1, fun b hb => ?_⟩
        obtain ⟨o, e, d⟩ := T.obj _ _ st7 b hb
        exact (I'.pin (b, o) (List.mem_append_right _ (List.mem_append_right _ (mem_pinsAt hb e)))).2.1
      cases ok with
      | false =>
        rw [if_neg Bool.false_ne_true] at q9 ⊢
        obtain ⟨m', hm, w9⟩ := q9
        obtain ⟨a1, a2, a3⟩ := again I9
        exact ⟨m', hm, i + 1, σ8, ys, H9, a1, a2, a3, w9⟩
      | true =>
        rw [if_pos rfl] at q9 ⊢
        refine thn (he _ _ _ _ _ _ s9 σ8 H9 _ I9 q9) fun yv s10 ⟨y, H10, I10, r10, q10⟩ => ?_
        obtain ⟨hD, hz, m', hm, w10⟩ := q10
        refine thn (mt_append (X := compX X scope N s3 H3 cl s3.heap.objs.size fp) _ s10 σ8 H10 (.ref s2.heap.objs.size) [y] (.ref s2.heap.objs.size) [yv] (fun v H' => H' = upd H10 s2.heap.objs.size (.lst (ys ++ [y]))) I10 rfl (.cons r10 .nil)
          ⟨s2.heap.objs.size, ys, y, rfl, rfl, hD, hz, rfl⟩) fun _ s11 ⟨v11, H11, I11, _, e11⟩ => ?_
        have e11' : H11 = upd H10 s2.heap.objs.size (.lst (ys ++ [y])) := e11
        subst e11'
        obtain ⟨a1, a2, a3⟩ := again I11
        exact ⟨m', hm, i + 1, σ8, ys ++ [y], _, a1, a2, a3, w10⟩
  exact codeAny_compStart_list (loop _ ⟨_, rfl⟩) (T.self X.A 0 _ _ _ hst₁ (loop _ ⟨_, rfl⟩))
end
end L2

set_option linter.all false
namespace L2
open PySem PySem.StrLaws Builtin Builtin.Str
end L2

set_option linter.all false
set_option maxRecDepth 100000
set_option maxHeartbeats 4000000
/-! f-strings, split, str(n), int(text). -/
namespace L2
open PySem PySem.Spec PyProof.Rows
section
variable {X : Cx} {e : Expr} {es : List Expr} {te : TE} {tr : TF} {pos : Pos}
end
end L2

set_option linter.all false
set_option maxRecDepth 100000
set_option maxHeartbeats 4000000
/-! objects made, by what one wants of them; comprehensions by place. -/
namespace L2
open PySem PySem.Spec PyProof.Rows
section
variable {X : Cx} {x m : Str} {k : Nat} {ps : List Str} {sp : Sp} {C : Addr} {p pos apos : Pos} {e o : Expr} {es : List Expr} {t : TA} {to : TE}
theorem pe_mkI {r : List V → Hp → VK → Prop} (G : MkG X.prog X.w X.K X.mg X.base C x k ps sp) (hr : Room (k + 1) X.A)
    (imp : ∀ vs H Q, r vs H Q → ∀ x dx, H x = none → H dx = none → dx ≠ x → sp (.ref x :: (vs ++ [])) (upd (upd H dx (.own x)) x (.ins C dx [])) (fun v H2 => v = .non ∧ Q (.ref x) H2) E0)
    (ha : PA X (e :: es) t) (hg : Gl X x := by rfl) (hdb : (x == ("__debug__" : Str)) = false := by decide)
    (he : starEach (e :: es) X.env = (false, eval e X.env) :: starEach es X.env := by rfl) (hpl : (backTo pos (starEach es X.env)).any (·.1) = false := by rfl) : PE X (.Call (.Name x p) (e :: es) [] pos) (tCB r t) := by
  obtain ⟨f, fd, a, M, hm, hb⟩ := G
  intro pins s σ H Q I h
  refine wpAny_Call_Name_kw (ld_glob I hg hm ?_ hdb)
  refine PySem.W.callWith_K (h₀ := X.base) I.ok.mod.kin M.kp (thn (ha pos pins s σ H _ I h) fun us s1 ⟨vs, H1, I1, rv, q⟩ => ⟨I1.kIn, ?_⟩) he hpl
  exact run_make M a hr hb .nil pass0 I1 rv (imp vs H1 Q q)
end
end L2

set_option linter.all false
set_option maxRecDepth 100000
set_option maxHeartbeats 4000000
/-! comprehensions of any target and test, item by item; sum. -/
namespace L2
open PySem PySem.Spec PyProof.Rows
/-- two rows side by side, of one heap -/
def All2 {α : Type} (P : α → V → Hp → Prop) (H : Hp) : List α → List V → Prop
  | [], [] => True
  | a :: as, y :: ys => P a y H ∧ All2 P H as ys
  | _, _ => False
section
variable {α : Type} {P : α → V → Hp → Prop} {H H' : Hp}
theorem All2.len : ∀ {as : List α} {ys : List V}, All2 P H as ys → ys.length = as.length
  | [], [], _ => rfl
  | _ :: _, _ :: _, h => by rw [List.length_cons, List.length_cons, All2.len h.2]
  | [], _ :: _, h => h.elim
  | _ :: _, [], h => h.elim
theorem All2.snoc : ∀ {as : List α} {ys : List V} {a : α} {y : V}, All2 P H as ys → P a y H → All2 P H (as ++ [a]) (ys ++ [y])
  | [], [], _, _, _, p => ⟨p, trivial⟩
  | _ :: _, _ :: _, _, _, h, p => ⟨h.1, All2.snoc h.2 p⟩
  | [], _ :: _, _, _, h, _ => h.elim
  | _ :: _, [], _, _, h, _ => h.elim
theorem All2.imp {P' : α → V → Hp → Prop} : ∀ {as : List α} {ys : List V}, All2 P H as ys → (∀ a y, P a y H → P' a y H') → All2 P' H' as ys
  | [], [], _, _ => trivial
  | _ :: _, _ :: _, h, f => ⟨f _ _ h.1, All2.imp h.2 f⟩
  | [], _ :: _, h, _ => h.elim
  | _ :: _, [], h, _ => h.elim
theorem All2.get : ∀ {as : List α} {ys : List V} {i : Nat} {a : α}, All2 P H as ys → as[i]? = some a → ∃ y, ys[i]? = some y ∧ P a y H
  | [], [], _, _, _, e => by simp at e
  | b :: _, y :: _, 0, a, h, e => ⟨y, rfl, by rw [← (Option.some.inj e : b = a)]; exact h.1⟩
  | _ :: as, _ :: ys, i + 1, a, h, e => All2.get (as := as) (ys := ys) (i := i) h.2 (by simpa using e)
  | [], _ :: _, _, _, h, _ => h.elim
  | _ :: _, [], _, _, h, _ => h.elim
theorem All2.back : ∀ {as : List α} {ys : List V} {i : Nat} {y : V}, All2 P H as ys → ys[i]? = some y → ∃ a, as[i]? = some a ∧ P a y H
  | [], [], _, _, _, e => by simp at e
  | b :: _, z :: _, 0, y, h, e => ⟨b, rfl, by rw [← (Option.some.inj e : z = y)]; exact h.1⟩
  | _ :: as, _ :: ys, i + 1, y, h, e => All2.back (as := as) (ys := ys) (i := i) h.2 (by simpa using e)
  | [], _ :: _, _, _, h, _ => h.elim
  | _ :: _, [], _, _, h, _ => h.elim
theorem All2.eqmap {f : α → V} : ∀ {as : List α} {ys : List V}, All2 P H as ys → (∀ a y, P a y H → y = f a) → ys = as.map f
  | [], [], _, _ => rfl
  | _ :: _, _ :: _, h, g => by rw [List.map_cons, ← g _ _ h.1, ← All2.eqmap h.2 g]
  | [], _ :: _, h, _ => h.elim
  | _ :: _, [], h, _ => h.elim
end
/-- all but lists stays -/
def Keeps (Ha Hb : Hp) : Prop := ∀ a ob, Ha a = some ob → (∀ zs, ob ≠ .lst zs) → Hb a = some ob
theorem Same.keeps {Ha Hb : Hp} (h : Same Ha Hb) : Keeps Ha Hb := fun a ob e _ => h a ob e
theorem Keeps.trans {Ha Hb Hc : Hp} (h : Keeps Ha Hb) (h' : Keeps Hb Hc) : Keeps Ha Hc := fun a ob e n => h' a ob (h a ob e n) n
theorem keeps_lst {Ha : Hp} {D : Addr} {zs ys : List V} (h : Ha D = some (.lst zs)) : Keeps Ha (upd Ha D (.lst ys)) := fun a ob e hn => by
  by_cases c : a = D
  · subst c; rw [h] at e; cases e; exact absurd rfl (hn zs)
  · rw [upd_ne c]; exact e
theorem comp_gen {α : Type} {J : It} {H : Hp} {σ0 : St} {g : TG} {tc : TT} {te : TE} {Q : VK} (xs : List α) (p : α → Bool) (P : α → V → Hp → Prop) (sh : St → Prop) (hx : xs.length ≤ 1000000) (h0 : sh σ0)
    (hgo : ∀ i H', Same H H' → i < xs.length → J.go i H') (hstop : ∀ H', Same H H' → J.stop xs.length H')
    (hk : ∀ a y Ha Hb, Keeps Ha Hb → P a y Ha → P a y Hb)
    (step : ∀ (i : Nat) a σ x H' H'', xs[i]? = some a → sh σ → Same H H' → J.yld i H' x H'' → ∀ (Rf : St → Hp → Prop) (Rt : St → V → Hp → Prop),
      (∀ σ2 H3, p a = false → sh σ2 → Same H' H3 → Rf σ2 H3) → (∀ σ2 y H4, p a = true → sh σ2 → Same H' H4 → P a y H4 → Rt σ2 y H4) →
      g x σ H'' fun σ2 H2 => tc σ2 H2 fun b H3 => if b = true then te σ2 H3 (fun y H4 => Rt σ2 y H4) else Rf σ2 H3)
    (hQ : ∀ D H' ys, H D = none → Same H H' → All2 P H' (xs.filter p) ys → H' D = some (.lst ys) → Q (.ref D) H') : CompW J H σ0 g tc te Q := by
  intro D hD
  refine ⟨fun i m σ1 ys H' => m = xs.length - i ∧ i ≤ xs.length ∧ sh σ1 ∧ All2 P H' ((xs.take i).filter p) ys ∧ H' D = some (.lst ys) ∧ Same H H', ⟨xs.length, by simp, Nat.zero_le _, h0, trivial, upd_same, same_new hD _⟩, ?_⟩
  rintro i m σ1 ys H' ⟨rfl, hi, hσ, hP, hDD, hs⟩
  by_cases hlt : i < xs.length
  · refine .inr ⟨hgo i H' hs hlt, fun x H'' hy => ?_⟩
    have ha : xs[i]? = some xs[i] := List.getElem?_eq_getElem hlt
    have ht : xs.take (i + 1) = xs.take i ++ [xs[i]] := by rw [List.take_add_one, ha]; rfl
    refine step i xs[i] σ1 x H' H'' ha hσ hs hy _ _ (fun σ2 H3 hf sh2 s3 => ?_) (fun σ2 y H4 hf sh2 s4 py => ?_)
    · refine ⟨xs.length - (i + 1), by omega, rfl, hlt, sh2, ?_, s3 _ _ hDD, hs.trans s3⟩
      rw [ht, List.filter_append, List.filter_cons, hf]
      show All2 P H3 (List.filter p (xs.take i) ++ []) ys
      rw [List.append_nil]
      exact hP.imp fun a y => hk a y _ _ s3.keeps
    · have hl := hP.len
      refine ⟨s4 _ _ hDD, ?_, xs.length - (i + 1), by omega, rfl, hlt, sh2, ?_, upd_same, (hs.trans s4).upd hD⟩
      · have h1 := List.length_filter_le p (xs.take i)
        rw [List.length_take] at h1
        have : (1000001 : Nat) ≤ sizeLine := by decide
        omega
      · rw [ht, List.filter_append, List.filter_cons, hf]
        have kk : Keeps H4 (upd H4 D (.lst (ys ++ [y]))) := keeps_lst (s4 _ _ hDD)
        exact All2.snoc (hP.imp fun a y => hk a y _ _ (s4.keeps.trans kk)) (hk _ _ _ _ kk py)
  · have e : i = xs.length := by omega
    subst e
    refine .inl ⟨hstop H' hs, hQ D H' ys hD hs ?_ hDD⟩
    rw [List.take_of_length_le (Nat.le_refl _)] at hP
    exact hP
/-- over what hands on known items -/
theorem comp_hands {α : Type} {J : It} {H : Hp} {σ0 : St} {g : TG} {tc : TT} {te : TE} {Q : VK} {vs : List V} (xs : List α) (p : α → Bool) (P : α → V → Hp → Prop) (sh : St → Prop) (hJ : Hands J H vs) (hv : vs.length = xs.length) (hx : xs.length ≤ 1000000) (h0 : sh σ0)
    (hk : ∀ a y Ha Hb, Keeps Ha Hb → P a y Ha → P a y Hb)
    (step : ∀ (i : Nat) a v σ H', xs[i]? = some a → vs[i]? = some v → sh σ → Same H H' → ∀ (Rf : St → Hp → Prop) (Rt : St → V → Hp → Prop),
      (∀ σ2 H3, p a = false → sh σ2 → Same H' H3 → Rf σ2 H3) → (∀ σ2 y H4, p a = true → sh σ2 → Same H' H4 → P a y H4 → Rt σ2 y H4) →
      g v σ H' fun σ2 H2 => tc σ2 H2 fun b H3 => if b = true then te σ2 H3 (fun y H4 => Rt σ2 y H4) else Rf σ2 H3)
    (hQ : ∀ D H' ys, H D = none → Same H H' → All2 P H' (xs.filter p) ys → H' D = some (.lst ys) → Q (.ref D) H') : CompW J H σ0 g tc te Q := by
  refine comp_gen xs p P sh hx h0 (fun i H' s hi => hJ.go i H' s (by omega)) (fun H' s => by rw [← hv]; exact hJ.stop H' s) hk (fun i a σ x H' H'' ha hσ s hy => ?_) hQ
  have hi : i < xs.length := (List.getElem?_eq_some_iff.mp ha).1
  obtain ⟨e, hx⟩ := hJ.yld i H' x H'' s (by omega) hy
  subst e
  exact step i a x σ H'' ha hx hσ s
/-- over zip of two lists as long as each other -/
theorem comp_zipLG {α : Type} {K : PySem.W.Frag} {l1 l2 : Addr} {H : Hp} {σ0 : St} {g : TG} {tc : TT} {te : TE} {Q : VK} {us vs : List V} (xs : List α) (p : α → Bool) (P : α → V → Hp → Prop) (sh : St → Prop) (hu : SqL K H l1 us) (hv : SqL K H l2 vs) (lu : us.length = xs.length) (lv : vs.length = xs.length) (hx : xs.length ≤ 1000000) (h0 : sh σ0)
    (hk : ∀ a y Ha Hb, Keeps Ha Hb → P a y Ha → P a y Hb)
    (step : ∀ (i : Nat) a u v q σ H', xs[i]? = some a → us[i]? = some u → vs[i]? = some v → sh σ → Same H H' → H' q = none → ∀ (Rf : St → Hp → Prop) (Rt : St → V → Hp → Prop),
      (∀ σ2 H3, p a = false → sh σ2 → Same H' H3 → Rf σ2 H3) → (∀ σ2 y H4, p a = true → sh σ2 → Same H' H4 → P a y H4 → Rt σ2 y H4) →
      g (.ref q) σ (upd H' q (.tup [u, v])) fun σ2 H2 => tc σ2 H2 fun b H3 => if b = true then te σ2 H3 (fun y H4 => Rt σ2 y H4) else Rf σ2 H3)
    (hQ : ∀ D H' ys, H D = none → Same H H' → All2 P H' (xs.filter p) ys → H' D = some (.lst ys) → Q (.ref D) H') : CompW (Izl K l1 l2) H σ0 g tc te Q := by
  refine comp_gen xs p P sh hx h0 (fun i H' s hi => ⟨us, vs, us[i], vs[i], s.seq hu, s.seq hv, by simp [lu, hi], by simp [lv, hi]⟩) (fun H' s => ⟨us, vs, s.seq hu, s.seq hv, .inl (by omega)⟩) hk (fun i a σ x H' H'' ha hσ s hy => ?_) hQ
  obtain ⟨q, u, v, hq, e1, e2, rfl, rfl⟩ := hy
  exact step i a u v q σ H' ha (e1 us (s.seq hu)) (e2 vs (s.seq hv)) hσ s hq

theorem ints_items : ∀ {ns : List Int} {its : List Value}, Vals (ns.map V.int) its → ∃ xs : List (Int × Tok), its = xs.map (fun p => Value.int p.1 p.2) ∧ xs.map (·.1) = ns
  | [], _, .nil => ⟨[], rfl, rfl⟩
  | n :: ns, _, .cons r t => by
    obtain ⟨k, rfl⟩ := r
    obtain ⟨xs, e, h⟩ := ints_items t
    exact ⟨(n, k) :: xs, by rw [e]; rfl, by rw [List.map_cons, h]⟩
section
variable {X : Cx} {K : PySem.W.Frag}
theorem call_sumK (hc : X.calm = true) (h : X.K = K) : CallR X (.builtin "sum") (fun xs H Q => ∃ (D : Addr) (ns : List Int), xs = [.ref D] ∧ SqL K H D (ns.map V.int) ∧ Q (.int ns.sum) H) := by
  subst h
  intro pins s σ H xs us Q I r h
  obtain ⟨D, ns, rfl, hq, q⟩ := h
  obtain ⟨u, rfl, ru⟩ := r.one
  cases ru
  obtain ⟨its, rv, pl, _⟩ := I.list hq
  obtain ⟨xs, rfl, rfl⟩ := ints_items rv
  have e : (xs.map fun p => Value.int p.1 p.2).toArray = intItems xs.toArray := by simp [intItems]
  refine sum_intListG (xs := xs.toArray) (I.ok.hd hc) (by rw [← e]; exact pl.isList) fun h' tk t' hk => ?_
  rw [preSum_eq, List.take_of_length_le (by simp)]
  exact ⟨.int (xs.map (·.1)).sum, H, I.kept (fun b o e => hk b o e), ⟨t', rfl⟩, q⟩
theorem pg_tupK {es : List Expr} {k : Nat} {t : TGs} {n : Nat} {pos : Pos} (hK : X.K = K) (hc : X.calm = true) (h : PGs X es t)
    (hn : (assignEach es X.env).length = n := by rfl) (hst : (assignEach es X.env).findIdx? (·.1) = none := by rfl) : PG X (.Tuple es k pos) (gTup K n t) := hK ▸ pg_tup hc h hn hst
end
theorem bt_sum : bootBuiltins "sum" = some (.builtin "sum") := by decide +kernel
end L2

set_option linter.all false
set_option maxRecDepth 100000
set_option maxHeartbeats 4000000
/-! enumerate of a list. -/
namespace L2
open PySem PySem.Spec PyProof.Rows
def Iel (K : PySem.W.Frag) (l : Addr) : It :=
  ⟨fun i H => ∃ xs x, SqL K H l xs ∧ xs[i]? = some x,
   fun i H v H' => ∃ p x, H p = none ∧ (∀ xs, SqL K H l xs → xs[i]? = some x) ∧ v = .ref p ∧ H' = upd H p (.tup [.int i, x]),
   fun i H => ∃ xs, SqL K H l xs ∧ xs.length ≤ i⟩
theorem turn_enumL {P : Program} {w : World} {K : PySem.W.Frag} {es : List Expr} {k : Nat} {pos : Pos} {z it l : Addr} (zi : z ≠ it) :
    Turn P w K (.Tuple es k pos) (Iel K l) [z, it] z (fun i h => (∃ old, IsEnum h z it (i : Int) old) ∧ h.IsListIter it l i) where
  mem := by simp
  obj := fun i h st b hb => by
    obtain ⟨⟨old, hz⟩, o1, e1, c1, d1⟩ := st
    simp only [List.mem_cons, List.not_mem_nil, or_false] at hb
    rcases hb with rfl | rfl
    · exact ⟨_, hz, fun v q => by cases q⟩
    · exact ⟨o1, e1, fun v q => by rw [d1] at q; cases q⟩
  keep := fun i h h' st kk => by
    obtain ⟨⟨old, hz⟩, o1, e1, r1⟩ := st
    exact ⟨⟨old, kk z (by simp) _ hz⟩, ⟨o1, kk it (by simp) _ e1, r1⟩⟩
  item := by
    intro X hP hw hK hc i pins s σ H E I hf st hg
    subst hP hw hK
    obtain ⟨⟨old, hz⟩, h1⟩ := st
    obtain ⟨xs, x, hq1, hx⟩ := hg
    obtain ⟨ia, ra, pa, _⟩ := I.list hq1
    obtain ⟨u, hu, ru⟩ := ra.get hx
    refine wpAny_pyNext_enum_item hz h1 pa.isList (x := u) (by simpa using hu) zi fun h' a1 a2 a3 a4 kp => ?_
    refine ⟨_, rfl, ?_⟩
    refine wpAny_letOwnedTupleGo_enum (s := { s with heap := h', toks := s.toks + 1 }) a1 fun h2' hz' hs' => ?_
    replace hs' : Heap.SameBut z h' h2' := hs'
    have zlt : z < s.heap.objs.size := Heap.lt_size hz
    have far : ∀ q ∈ [z, it], q < s.heap.objs.size := by
      intro q hq
      obtain ⟨o1, e1, _⟩ := h1
      simp only [List.mem_cons, List.not_mem_nil, or_false] at hq
      rcases hq with rfl | rfl
      · exact zlt
      · exact Heap.lt_size e1
    have fz := hf z (by simp)
    have f1 := hf it (by simp)
    have keepAll : ∀ b o, b ≠ z → b ≠ it → s.heap.get? b = some o → h2'.get? b = some o := fun b o b1 b2 e => hs'.extBut _ _ b1 (kp b o b1 b2 e)
    have hnew : H s.heap.objs.size = none := I.hok.fresh (Nat.le_refl _)
    have Tz : s.heap.objs.size ≠ z := Nat.ne_of_gt zlt
    have ht2 : h2'.get? s.heap.objs.size = some { cls := .type "tuple", data := .seq #[.int i s.toks, u] } := hs'.extBut _ _ Tz a3
    have I2 : Inv X pins σ (upd H s.heap.objs.size (.tup [.int i, x])) { s with heap := h2', toks := s.toks + 1 } := by
      have there : ∀ q ∈ [z, it], ∃ o', h2'.get? q = some o' := by
        intro q hq
        obtain ⟨o1, e1, _⟩ := a2
        simp only [List.mem_cons, List.not_mem_nil, or_false] at hq
        rcases hq with rfl | rfl
        · exact ⟨_, hz'⟩
        · exact ⟨_, hs'.extBut _ _ zi.symm e1⟩
      have nch : ∀ b, b ∉ [z, it] → b ≠ z ∧ b ≠ it := fun b hb => by
        simp only [List.mem_cons, List.not_mem_nil, or_false, not_or] at hb
        exact hb
      have trk : ∀ b u', H b = some u' → b ≠ z ∧ b ≠ it := fun b u' e =>
        ⟨fun q => (by rw [q, fz.1] at e; cases e), fun q => (by rw [q, f1.1] at e; cases e)⟩
      have okH : HOk X.prog X.w (upd H s.heap.objs.size (.tup [.int i, x])) h2' := fun b u' e => by
        by_cases hb : b = s.heap.objs.size
        · subst hb
          rw [upd_same] at e
          cases e
          exact ⟨(show 2 ≤ sizeLine by decide), [.int i s.toks, u], .cons ⟨_, rfl⟩ (.cons ru .nil), ⟨_, ht2, rfl, _, rfl⟩⟩
        · rw [upd_ne hb] at e
          have hx := I.hok b u' e
          refine hx.stay (fun q o hq e2 => ?_) (fun q e2 => ?_) (fun q xs e2 => ?_)
          · rcases hq with rfl | hq
            · obtain ⟨b1, b2⟩ := trk q _ e
              exact keepAll q o b1 b2 e2
            · obtain ⟨b1, b2⟩ := trk q _ hq
              exact keepAll q o b1 b2 e2
          · rw [upd_ne (ne_of_none e2 hnew)]; exact e2
          · rw [upd_ne (ne_of_none e2 hnew)]; exact e2
      refine I.step (g' := s.gens) (d' := s.drawn) (ch := [z, it]) (fun b hb => ?_) (fun b o _ _ hcb e n => ?_) (fun b o _ _ hcb e n => ?_) (fun b o hcb e n => ?_) (fun b o hcb e => ?_) (fun b xs e => ?_) (fun b o u' e => ?_) (fun b ps e => ?_) (fun m hm => ?_) okH I.bare
      · simp only [List.mem_cons, List.not_mem_nil, or_false] at hb
        rcases hb with rfl | rfl
        · exact ⟨fz.2.2.2.1, fz.2.1, fz.2.2.2.2.1, fz.2.2.2.2.2⟩
        · exact ⟨f1.2.2.2.1, f1.2.1, f1.2.2.2.2.1, f1.2.2.2.2.2⟩
      · obtain ⟨b1, b2⟩ := nch b hcb
        exact keepAll b o b1 b2 e
      · obtain ⟨b1, b2⟩ := nch b hcb
        exact ⟨o.slots, keepAll b o b1 b2 e⟩
      · rw [upd_ne (Nat.ne_of_lt (Heap.lt_size e))]; exact n
      · obtain ⟨b1, b2⟩ := nch b hcb
        exact ⟨o, keepAll b o b1 b2 e⟩
      · rw [upd_ne (ne_of_none e hnew)]; exact e
      · rw [upd_ne (ne_of_none e hnew)]; exact e
      · exact ⟨#[], by rw [upd_ne (ne_of_none e hnew), e]; simp⟩
      · obtain ⟨o, es', ep, ho, r⟩ := hm
        exact ⟨o, es', ep, keepAll _ o fz.2.1.symm f1.2.1.symm ho, r⟩
    refine ⟨.ref s.heap.objs.size, _, I2, rfl, ⟨_, x, hnew, fun zs hz => by rw [I.list_inj hz hq1]; exact hx, rfl, rfl⟩, ⟨⟨_, by rw [Int.natCast_add]; exact hz'⟩, ?_⟩, fun b hb => ?_⟩
    · obtain ⟨o, e, r⟩ := a2; exact ⟨o, hs'.extBut _ _ zi.symm e, r⟩
    · rw [upd_ne (Nat.ne_of_lt (far b hb))]; exact (hf b hb).1
  done := by
    intro X hP hw hK hc i pins s σ H E I hf st hg
    subst hP hw hK
    obtain ⟨⟨old, hz⟩, h1⟩ := st
    obtain ⟨xs, hq1, hg⟩ := hg
    obtain ⟨ia, ra, pa, _⟩ := I.list hq1
    have la := ra.length
    obtain ⟨f0, f1, f2, f3, f4, f5⟩ := hf it (by simp)
    refine wpAny_pyNext_enum_end (I.ok.hd hc) hz h1 pa.isList (by simp; omega) fun h' eb => ⟨rfl, I.turned (t' := s.toks) (fun b o hb e => eb b o hb e) f0 f1 f3 f4 f5⟩
  self := fun _ _ _ _ _ st h => by
    obtain ⟨⟨old, hz⟩, _⟩ := st
    exact wpAny_pyIter_enum hz h
section
variable {X : Cx} {es : List Expr} {k : Nat} {tpos : Pos}
def iEnumL (K : PySem.W.Frag) (ta : TA) : TI := fun σ H R => ta σ H fun vs H1 => ∃ a, vs = [.ref a] ∧ (∃ xs, SqL K H1 a xs) ∧ R (Iel K a) H1
theorem pi_enumL {a : Expr} {ta : TA} {p pos : Pos} (hg : Gl X "enumerate") (hm : X.mg "enumerate" = none) (ha : PA X [a] ta) (hv : bootBuiltins "enumerate" = some (.type "enumerate") := by decide +kernel) (hs : starEach [a] X.env = [(false, eval a X.env)] := by rfl) :
    PI X (.Tuple es k tpos) (.Call (.Name "enumerate" p) [a] [] pos) (iEnumL X.K ta) := by
  intro pins s σ H R I h
  refine Call_ (ld_blt I hg hm hv (PyProof.Rows.callWith_type1 (thn (ha pos pins s σ H _ I h) fun us s1 ⟨vs, H1, I1, r1, q1⟩ => ?_) (by rw [hs]; rfl) (by rfl)))
  obtain ⟨l1, e, ⟨xs, hq1⟩, q⟩ := q1
  subst e
  obtain ⟨u, rfl, ru⟩ := r1.one
  cases ru
  obtain ⟨ia, ra, pa, _⟩ := I1.list hq1
  refine call_enumerate_list pa.isList fun h' a1 a2 a3 kp => ?_
  have I2 : Inv X pins σ H1 { s1 with heap := h' } := I1.kept (t' := s1.toks) kp
  refine wpAny_pyIter_enum a1 ⟨s1.heap.objs.size + 1, [s1.heap.objs.size + 1, s1.heap.objs.size], _, _, H1, rfl, I2, turn_enumL (Nat.ne_of_gt (Nat.lt_succ_self _)), ⟨⟨_, a1⟩, a2⟩, fun b hb => ?_, q⟩
  have hb' : s1.heap.objs.size ≤ b := by
    simp only [List.mem_cons, List.not_mem_nil, or_false] at hb
    rcases hb with rfl | rfl
    · exact Nat.le_add_right _ _
    · exact Nat.le_refl _
  exact I1.fpOk hb' (I1.hok.fresh hb')
theorem pi_enumLK {K : PySem.W.Frag} {a : Expr} {ta : TA} {p pos : Pos} (h : X.K = K) (hg : Gl X "enumerate") (hm : X.mg "enumerate" = none) (ha : PA X [a] ta) (hv : bootBuiltins "enumerate" = some (.type "enumerate") := by decide +kernel) (hs : starEach [a] X.env = [(false, eval a X.env)] := by rfl) :
    PI X (.Tuple es k tpos) (.Call (.Name "enumerate" p) [a] [] pos) (iEnumL K ta) := h ▸ pi_enumL hg hm ha hv hs
end
/-- for i, x in enumerate(xs) -/
theorem for_enumL {K : PySem.W.Frag} {a : Addr} {xs : List V} {g : TG} {tb : TS} {D : Ends} {σ : St} {H : Hp} (Pv : Nat → St → Hp → Prop) (h0 : Pv 0 σ H) (hl : ∀ i σ H, i ≤ xs.length → Pv i σ H → SqL K H a xs)
    (hs : ∀ i x p σ H, xs[i]? = some x → H p = none → Pv i σ H → g (.ref p) σ (upd H p (.tup [.int i, x])) fun σ2 H2 => tb { D with nx := Pv (i + 1), ct := Pv (i + 1), bk := D.nx } σ2 H2) (hd : ∀ σ H, Pv xs.length σ H → D.nx σ H) :
    ∃ W : Nat → Nat → St → Hp → Prop, (∃ m, W 0 m σ H) ∧ ∀ i m σ H, W i m σ H →
      ((Iel K a).stop i H ∧ D.nx σ H) ∨ ((Iel K a).go i H ∧ ∃ N : St → Hp → Prop, (∀ σ' H', N σ' H' → ∃ m', m' < m ∧ W (i + 1) m' σ' H') ∧ ∀ x H', (Iel K a).yld i H x H' → g x σ H' fun σ2 H2 => tb { D with nx := N, ct := N, bk := D.nx } σ2 H2) := by
  refine ⟨fun i m σ H => m = xs.length - i ∧ i ≤ xs.length ∧ Pv i σ H, ⟨xs.length, by simp, Nat.zero_le _, h0⟩, ?_⟩
  rintro i m σ H ⟨rfl, hi, p⟩
  have q := hl i σ H hi p
  by_cases hlt : i < xs.length
  · refine .inr ⟨⟨xs, xs[i], q, by simp [hlt]⟩, Pv (i + 1), fun σ' H' p' => ⟨xs.length - (i + 1), by omega, rfl, hlt, p'⟩, fun x H' y => ?_⟩
    obtain ⟨r, u, hr, e1, rfl, rfl⟩ := y
    exact hs i u r σ H (e1 xs q) hr p
  · have e : i = xs.length := by omega
    subst e
    exact .inl ⟨⟨xs, q, Nat.le_refl _⟩, hd σ H p⟩
end L2

set_option linter.all false
set_option maxRecDepth 100000
set_option maxHeartbeats 4000000
/-! tuples of flat items compared, looked for in a list, lists of them compared; a list held against an empty one. -/
namespace L2
open PySem PySem.Spec PyProof.Rows
theorem eqVs_refl : ∀ {xs : List V}, xs.all flatV = true → eqVs xs xs = true
  | [], _ => rfl
  | x :: xs, h => by
    rw [List.all_cons, Bool.and_eq_true] at h
    rw [eqVs, eqVs_refl h.2, Bool.and_true]
    cases x <;> first | rfl | exact beq_self_eq_true _ | exact absurd h.1 Bool.false_ne_true
theorem eqVs_min (xs ys : List V) : ((List.range (min xs.length ys.length)).all (fun j => eqV (xs.getD j .non) (ys.getD j .non)) && xs.length == ys.length) = eqVs xs ys := by
  by_cases h : xs.length = ys.length
  · rw [beq_iff_eq.mpr h, Bool.and_true, h, Nat.min_self, ← h, eqVs_range h]
  · rw [beq_eq_false_iff_ne.mpr h, Bool.and_false, eqVs_len h]
/-- a tuple of flat items -/
def TpAt (K : PySem.W.Frag) : List V → V → Hp → Prop := fun xs v H => ∃ p, v = .ref p ∧ SqT K H p xs ∧ xs.all flatV = true
section
variable {X : Cx} {K : PySem.W.Frag} {pins : List (Addr × Obj)} {s : Shared} {σ : St} {H : Hp} {A : Around}
theorem rcAt_tup {p r : Addr} {xs ys : List V} (I : Inv X pins σ H s) (hp : SqT X.K H p xs) (hr : SqT X.K H r ys) (fx : xs.all flatV = true) (fy : ys.all flatV = true) (hu : A.units < cLine) : SeqAt.RcAt A s (.ref p) (.ref r) (eqVs xs ys) := by
  obtain ⟨ia, ra, pa, za⟩ := I.tuple hp
  obtain ⟨ib, rb, pb, zb⟩ := I.tuple hr
  have h := SeqAt.RcAt.tuples (A := A) (e := fun j => eqV (xs.getD j .non) (ys.getD j .non)) (show s.heap.IsTuple p ia.toArray from pa) (show s.heap.IsTuple r ib.toArray from pb) hu (eq_items ra rb fx fy)
  rw [List.size_toArray, List.size_toArray, ← ra.length, ← rb.length, eqVs_min] at h
  exact h
theorem eqAt_tup {p r : Addr} {xs ys : List V} (I : Inv X pins σ H s) (hp : SqT X.K H p xs) (hr : SqT X.K H r ys) (fx : xs.all flatV = true) (fy : ys.all flatV = true) (hu : A.units < cLine) : SeqAt.EqAt A s (.ref p) (.ref r) (eqVs xs ys) := by
  by_cases h : p = r
  · subst h
    rw [I.tuple_inj hr hp, eqVs_refl fx]
    exact SeqAt.EqAt.same _
  · exact SeqAt.EqAt.of_refs h (rcAt_tup I hp hr fx fy hu)
/-- a tuple looked for in a list of tuples -/
def rInT (K : PySem.W.Frag) (neg : Bool) : R2 := fun x y H Q => ∃ p l xs yss vs, x = .ref p ∧ y = .ref l ∧ SqT K H p xs ∧ xs.all flatV = true ∧ SqL K H l vs ∧ All2 (TpAt K) H yss vs ∧ Q (.bl (if neg then !(yss.any fun ys => eqVs ys xs) else yss.any fun ys => eqVs ys xs)) H
open Classical in
/-- what is told of an item by its value -/
noncomputable def inE (K : PySem.W.Frag) (H : Hp) (xs : List V) (u : Value) : Bool := decide (∃ p ys, u = Value.ref p ∧ SqT K H p ys ∧ eqVs ys xs = true)
open Classical in
theorem inE_of {p : Addr} {xs ys : List V} (I : Inv X pins σ H s) (hp : SqT X.K H p ys) : inE X.K H xs (.ref p) = eqVs ys xs := by
  unfold inE
  cases e : eqVs ys xs with
  | true => exact decide_eq_true ⟨p, ys, rfl, hp, e⟩
  | false =>
    refine decide_eq_false ?_
    rintro ⟨r, zs, h1, h2, h3⟩
    cases h1
    rw [I.tuple_inj h2 hp, e] at h3
    cases h3
theorem any_inE {xs : List V} (I : Inv X pins σ H s) : ∀ {yss : List (List V)} {vs : List V} {us : List Value}, All2 (TpAt X.K) H yss vs → Vals vs us → us.any (inE X.K H xs) = yss.any fun ys => eqVs ys xs
  | [], [], _, _, .nil => rfl
  | ys :: yss, v :: vs, _, h, .cons r t => by
    obtain ⟨⟨p, rfl, hp, _⟩, h2⟩ := h
    cases r
    rw [List.any_cons, List.any_cons, any_inE I h2 t, inE_of I hp]
  | [], _ :: _, _, h, _ => h.elim
  | _ :: _, [], _, h, _ => h.elim
theorem mem_inE {q : Addr} {xs : List V} (I : Inv X pins σ H s) (hq : SqT X.K H q xs) (fx : xs.all flatV = true) (hu : A.units < cLine) : ∀ {yss : List (List V)} {vs : List V} {us : List Value}, All2 (TpAt X.K) H yss vs → Vals vs us → ∀ u ∈ us, SeqAt.EqAt A s u (.ref q) (inE X.K H xs u)
  | [], [], _, _, .nil => fun u hu => by cases hu
  | ys :: yss, v :: vs, _, h, .cons r t => fun u hm => by
    obtain ⟨⟨p, rfl, hp, fy⟩, h2⟩ := h
    cases r
    rcases List.mem_cons.mp hm with rfl | hm
    · rw [inE_of I hp]
      exact eqAt_tup I hp hq fy fx hu
    · exact mem_inE I hq fx hu h2 t u hm
  | [], _ :: _, _, h, _ => h.elim
  | _ :: _, [], _, h, _ => h.elim
theorem op_inT (h : X.K = K) (hu : X.A.units + 1 < cLine) : OpR X (compareOp .In) (rInT K false) := by
  subst h
  intro pins s σ H x y v u Q I rx ry h
  obtain ⟨p, l, xs, yss, vs, rfl, rfl, hp, fx, hl, ha, q⟩ := h
  cases rx; cases ry
  obtain ⟨its, r, pl, hz⟩ := I.list hl
  refine SeqAt.in_listAt (inE X.K H xs) pl.isList (fun w hw => mem_inE (A := X.A.in1) I hp fx hu ha r w (by simpa using hw)) ⟨.bl _, H, I, rfl, ?_⟩
  rw [show its.toArray.any (inE X.K H xs) = its.any (inE X.K H xs) by simp, any_inE I ha r]
  exact q
end
end L2

set_option linter.all false
set_option maxRecDepth 100000
set_option maxHeartbeats 4000000
/-! a statement cut off from what follows; what is never reached; list += list; tuples unlike; tuples walked. -/
namespace L2
open PySem PySem.Spec PyProof.Rows
/-- what holds behind a statement is told of its own -/
@[irreducible] def tCut (t : TS) : TS := fun D σ H => ∃ R : St → Hp → Prop, t { D with nx := R } σ H ∧ ∀ σ' H', R σ' H' → D.nx σ' H'
theorem tCut.mk {t : TS} {D : Ends} {σ : St} {H : Hp} (R : St → Hp → Prop) (h : t { D with nx := R } σ H) (h' : ∀ σ' H', R σ' H' → D.nx σ' H') : tCut t D σ H := by unfold tCut; exact ⟨R, h, h'⟩
section
variable {X : Cx} {K : PySem.W.Frag}
theorem ps_cut {st : Stmt} {t : TS} (h : PS X st t) : PS X st (tCut t) := by
  intro pins s σ H D I q
  unfold tCut at q
  obtain ⟨R, h1, h2⟩ := q
  refine thn (h pins s σ H _ I h1) fun f s' z => ?_
  cases f with
  | next => obtain ⟨σ', H', I', r⟩ := z; exact ⟨σ', H', I', h2 σ' H' r⟩
  | brk => exact z
  | cont => exact z
  | ret u => exact z
end
end L2
namespace L2
open PySem PySem.Spec PyProof.Rows
section
variable {α β : Type} {H : Hp}
theorem All2.mapL {P : β → V → Hp → Prop} {f : α → β} : ∀ {as : List α} {ys : List V}, All2 (fun a y H => P (f a) y H) H as ys → All2 P H (as.map f) ys
  | [], [], _ => trivial
  | _ :: _, _ :: _, h => ⟨h.1, All2.mapL h.2⟩
  | [], _ :: _, h => h.elim
  | _ :: _, [], h => h.elim
end
end L2

set_option linter.all false
set_option maxRecDepth 100000
set_option maxHeartbeats 4000000
/-! exceptions of own classes: an exception leaves a def, and the defs that called it. -/
namespace L2
open PySem PySem.Spec PyProof.Rows
section
variable {X : Cx} {pins : List (Addr × Obj)} {σ : St} {H : Hp} {s : Shared} {E : XK} {Ex : Value → Shared → Prop}
end
end L2

set_option linter.all false
set_option maxRecDepth 100000
set_option maxHeartbeats 4000000
/-! defs that may raise: their bundles, raise, and calls that pass an exception on. -/
namespace L2
open PySem PySem.Spec PyProof.Rows
/-! ### bundles of defs that may raise -/
section
variable {P : Program} {w : World} {K : PySem.W.Frag} {mg : Str → Option Value} {base : Heap}
end
section
variable {X : Cx} {x m : Str} {k : Nat} {ps : List Str} {sp : Sp} {C : Addr} {p pos apos : Pos} {e o : Expr} {es : List Expr} {t : TA} {to : TE} {E : XK}
end
end L2

set_option linter.all false
set_option maxRecDepth 100000
set_option maxHeartbeats 4000000
/-! isinstance of exceptions of own classes. -/
namespace L2
open PySem PySem.Spec PyProof.Rows
section
variable {prog : Program} {w : World} {A : Around} {E : Value → Shared → Prop} {K : PySem.W.Frag} {x C : Addr} {h : Heap} {g : Array GenState} {d : Drawn} {t : Nat} {os : OsState} {o : Obj}
end
end L2

set_option linter.all false
set_option maxRecDepth 100000
set_option maxHeartbeats 4000000
/-! try: one statement that may raise; except C as n. -/
namespace L2
open PySem PySem.Spec PyProof.Rows
section
variable {X : Cx} {pins : List (Addr × Obj)} {σ : St} {H : Hp} {s : Shared}
end
/-! ### one statement that may raise -/
section
variable {X : Cx} {x m : Str} {k : Nat} {ps : List Str} {sp : Sp} {C : Addr} {p pos apos : Pos} {e o : Expr} {es : List Expr} {t : TA} {to : TE}
end
section
variable {X : Cx}
end
end L2

set_option linter.all false
set_option maxRecDepth 100000
set_option maxHeartbeats 4000000
/-! isinstance(e, C), isinstance(e, (C, ..)) for a caught exception. -/
namespace L2
open PySem PySem.Spec PyProof.Rows
section
variable {X : Cx} {K : PySem.W.Frag}
end
end L2

set_option linter.all false
set_option maxRecDepth 100000
set_option maxHeartbeats 4000000
/-! lists of things alike compared; a def that may raise, called where it can't. -/
namespace L2
open PySem PySem.Spec PyProof.Rows
section
variable {X : Cx} {K : PySem.W.Frag} {pins : List (Addr × Obj)} {σ : St} {H : Hp} {s : Shared} {A : Around}
end
end L2

set_option linter.all false
set_option maxRecDepth 100000
set_option maxHeartbeats 4000000
/-! for nets: an item of a list changed by what it is; any of numbers; `is True`; lists of lists of numbers compared; x in a list of numbers. -/
namespace L2
open PySem PySem.Spec PyProof.Rows
section
variable {X : Cx} {K : PySem.W.Frag} {pins : List (Addr × Obj)} {σ : St} {H : Hp} {s : Shared} {A : Around}
end
end L2

set_option linter.all false
set_option maxRecDepth 100000
set_option maxHeartbeats 4000000
/-! sets of a list's numbers, their size; list.insert; a list from its end. -/
namespace L2
open PySem PySem.Spec PyProof.Rows
section
variable {X : Cx} {K : PySem.W.Frag}
/-- how many unlike numbers -/
def manyI (ns : List Int) : Nat := (ns.foldl step_dedup []).length
theorem first_met (ns : List Int) : firstMet (fun i => ns.getD i 0) ns.length = ns.foldl step_dedup [] := by
  unfold firstMet
  have e : (List.range ns.length).map (fun i => ns.getD i 0) = ns := by
    refine List.ext_getElem (by simp) fun i h1 h2 => ?_
    simp [List.getD_eq_getElem?_getD, h2]
  rw [e]
theorem ints_are : ∀ {ns : List Int} {its : List Value}, Vals (ns.map V.int) its → IntsAre its ns
  | [], _, .nil => by constructor
  | n :: ns, _, .cons r t => by
    obtain ⟨k, rfl⟩ := r
    exact .cons n k (ints_are t)
theorem call_setI (hc : X.calm = true) (h : X.K = K) : CallR X (.type "set") (fun xs H Q => ∃ (D : Addr) (ns : List Int), xs = [.ref D] ∧ SqL K H D (ns.map V.int) ∧ ns.length ≤ 1000 ∧ ∀ p S, H p = none → Q (.ref p) (upd H p (.set S (manyI ns)))) := by
  subst h
  intro pins s σ H xs us Q I r h
  obtain ⟨D, ns, rfl, hq, hl, q⟩ := h
  obtain ⟨u, rfl, ru⟩ := r.one
  cases ru
  obtain ⟨its, rv, pl, _⟩ := I.list hq
  have hlen := rv.length
  rw [List.length_map] at hlen
  have hb : its.toArray.size + 1 < scanBound := by
    rw [List.size_toArray]
    show its.length + 1 < 4096
    omega
  refine call_set_list (items := its.toArray) (ns := ns) (I.ok.hd hc) pl.isList (by simpa using ints_are rv) hb fun h' tk hS hk => ?_
  have hz : its.toArray.size = ns.length := by rw [List.size_toArray, hlen]
  rw [hz, first_met] at hS
  exact ⟨.ref s.heap.objs.size, _, I.laid (o := .set (fun k' => (ns.foldl step_dedup []).any fun x => x == k') (manyI ns)) (t' := tk) (fun b o e => hk b o (Heap.lt_size e) e) (Nat.le_refl _) hS, rfl, q _ _ I.fresh⟩
theorem call_lenSet : CallR X (.builtin "len") (fun xs H Q => ∃ (p : Addr) (S : Int → Bool) (n : Nat), xs = [.ref p] ∧ H p = some (.set S n) ∧ Q (.int n) H) := by
  intro pins s σ H xs us Q I r h
  obtain ⟨p, S, n, rfl, hp, q⟩ := h
  obtain ⟨u, rfl, ru⟩ := r.one
  cases ru
  obtain ⟨o, es, ep, t, ho, hex, hd, hel, hmem, hb, hf, rfl⟩ := I.hok p _ hp
  refine call_len_set ho hex hd hf ?_ ⟨.int es.size, H, I.tok _, ⟨_, rfl⟩, q⟩
  have : es.size < 4096 := hb
  omega
theorem bt_ty_set : bootBuiltins "set" = some (.type "set") := by decide +kernel
end
/-! xs[::-1] of a list: some of its items, no more than it has -/
end L2

set_option linter.all false
set_option maxRecDepth 100000
/-! THE HAND LAYER, for ints, bools, texts, own classes, DICTS (int and text keys), calls, loops. Paste it whole ahead of your own text; what your proof does not reach may be deleted. -/
namespace L2
open PySem PySem.Spec PyProof.Rows

end L2

namespace L2
open PySem PySem.Spec PyProof.Rows

section
variable (P : Program) (w : World)
end

section
variable {P : Program} {w : World} {H H' : Hp} {h h' : Heap} {a : Addr} {o : HO}
end

section
variable {P : Program} {w : World} {H : Hp} {h h' : Heap} {x e : Addr} {o' : HO}
end

/-! ### kept unless tracked; of the frames at fs (the callers') the slots may change (an exception that passes writes there); of the records at ex (iterators) nothing is said -/
section
variable {fs fs' ex ex' : List Addr} {H H1 H2 : Hp} {h h1 h2 h' : Heap} {a x e : Addr} {o : HO}
end

/-! ### the heap without what is tracked -/
/-! ### OpenK's ledger, filled with every new object but one -/
end L2

namespace L2
open PySem PySem.Spec PyProof.Rows

section
variable {X : Cx} {pins : List (Addr × Obj)} {σ : List (Option V)} {H H' : Hp} {s : Shared} {h' : Heap}

end

/-! ### the judgements -/
end L2

namespace L2
open PySem PySem.Spec PyProof.Rows
section
variable {X : Cx}

/-! ### names and constants -/
/-! ### arithmetic -/
variable {a b : Expr} {ta tb : TE} {pos : Pos}
/-! ### comparisons -/
/-! ### and, or, not -/
variable {tA tB' : TT} {rest : List Expr}
end
end L2

namespace L2
open PySem PySem.Spec PyProof.Rows

/-! ### a list, a tuple that is read: tracked, frozen, or an object of the module -/
section
variable {X : Cx} {pins : List (Addr × Obj)} {σ : St} {H : Hp} {s : Shared} {a : Addr} {xs ys : List V}
end

/-! ### another wish about exceptions -/
section
variable {X : Cx} {pins : List (Addr × Obj)} {σ : St} {H : Hp} {s : Shared} {E : Value → Shared → Prop}
end

/-! ### blocks and small statements -/
section
variable {X : Cx} {st : Stmt} {rest : List Stmt} {t u : TS} {e : Expr} {te : TE} {pos : Pos}
end

/-! ### targets -/
section
variable {X : Cx} {pos : Pos}
end

/-! ### while -/
section
variable {X : Cx} {pos : Pos}
end

/-! ### what a loop or a comprehension walks -/
end L2

namespace L2
open PySem PySem.Spec PyProof.Rows
section
variable {X : Cx} {tg : Expr}
/-! ### for -/
end

/-! ### the forms one uses -/
end L2

namespace L2
open PySem PySem.Spec PyProof.Rows

section
variable {X : Cx} {a b c : Expr} {ta tb tc : TE} {pos : Pos}

/-! ### ints -/
/-! ### bools among ints: n += (a < b) -/
end

/-! ### comparisons -/
section
variable {X : Cx} {a b c : Expr} {ta tb tc : TE} {pos : Pos}
/-! ### truth -/
/-! ### strs and bytes -/
/-! ### scalar builtins, by CallR -/
end
end L2

namespace L2
open PySem PySem.Spec PyProof.Rows

/-! ### an instance, its attributes a map -/
section
variable {prog : Program} {w : World} {A : Around} {E : Value → Shared → Prop} {s : Shared} {K : PySem.W.Frag} {x dx C f : Addr} {mA : Str → Option Value} {name : Str} {v : Value}

end

/-! ### the attributes as a list of pairs -/
section
variable {P : Program} {w : World} {H H' : Hp} {h h' : Heap} {a C dx : Addr} {fs fs' : List (Str × V)}
end

/-! ### what of the text a class must have -/
section
variable {X : Cx} {pins : List (Addr × Obj)} {σ : St} {H : Hp} {s : Shared} {a C dx : Addr} {fs : List (Str × V)} {f : Str} {v : V} {A : Around} {E : Value → Shared → Prop}

end

/-! ### readings and rules -/
section
variable {X : Cx} {o e value : Expr} {f : Str} {pos pos' tpos : Pos} {ta tv : TE}
end

/-! ### isinstance -/
section
variable {X : Cx} {pins : List (Addr × Obj)} {σ : St} {H : Hp} {s : Shared} {A : Around} {E : Value → Shared → Prop} {Q : Value → Shared → Prop} {c : Value} {b : Bool}
end
end L2

namespace L2
open PySem PySem.Spec PyProof.Rows

/-! ### room -/
/-! ### argument lists and displays -/
section
variable {X : Cx} {e : Expr} {es : List Expr} {te : TE} {t : TA} {pos : Pos}
end

/-! ### what a def promises -/
section
variable {X : Cx} {pins : List (Addr × Obj)} {σ : St} {H : Hp} {s s' : Shared}
end

/-! ### calls -/
section
variable {X : Cx} {CX : CXT} {k : Nat} {f C : Addr} {fd : FuncData} {ps : List Str} {sp : Sp} {dvs : List V} {ds : List Value} {E : XK} {x m : Str} {p pos apos : Pos} {e o : Expr} {es : List Expr} {ta : TE} {t : TA}

end

/-! ### keywords -/
section
variable {X : Cx} {CX : CXT} {k : Nat} {f C : Addr} {fd : FuncData} {ps ks : List Str} {sp : Sp} {E : XK} {x m : Str} {p pos apos kpos : Pos} {e o : Expr} {es : List Expr} {kws : List Keyword} {te ta : TE} {t tk : TA} {nm : Option Str}
variable {g : List Value → List Value → List Value} {gV : List V → List V → List V}
end

/-! ### a def's body keeps its promise -/
end L2

namespace L2
open PySem PySem.Spec PyProof.Rows
section
variable {X : Cx} {x : Str} {p pos : Pos} {e : Expr} {es : List Expr} {t : TA} {id T : String} {r : List V → Hp → VK → Prop}

end
end L2

namespace L2
open PySem PySem.Spec PyProof.Rows

/-! ### lists of pairs as tables -/
section
variable {κ : Type} [DecidableEq κ]
def valV (kvs : List (κ × V)) (k : κ) : Option V := (kvs.find? fun kv => decide (kv.1 = k)).map (·.2)
/-- in its place, or at the end -/
def putK (kvs : List (κ × V)) (k : κ) (v : V) : List (κ × V) :=
  if (kvs.any fun kv => decide (kv.1 = k)) = true then kvs.map (fun kv => if kv.1 = k then (kv.1, v) else kv) else kvs ++ [(k, v)]
theorem valV_pos {p : κ × V} {r : List (κ × V)} {k : κ} (e : p.1 = k) : valV (p :: r) k = some p.2 := by simp [valV, List.find?_cons, e]
theorem valV_neg {p : κ × V} {r : List (κ × V)} {k : κ} (e : ¬ p.1 = k) : valV (p :: r) k = valV r k := by simp [valV, List.find?_cons, e]
theorem valV_any (k : κ) : ∀ kvs : List (κ × V), (kvs.any fun kv => decide (kv.1 = k)) = (valV kvs k).isSome
  | [] => rfl
  | p :: r => by
    rw [List.any_cons]
    by_cases e : p.1 = k
    · simp only [valV_pos e, decide_eq_true e, Bool.true_or, Option.isSome_some]
    · rw [valV_neg e, decide_eq_false e, Bool.false_or]; exact valV_any k r
theorem valV_map (k j : κ) (y : V) : ∀ kvs : List (κ × V), valV (kvs.map fun kv => if kv.1 = k then (kv.1, y) else kv) j = (valV kvs j).map fun x => if j = k then y else x
  | [] => rfl
  | p :: r => by
    have ih := valV_map k j y r
    rw [List.map_cons]
    by_cases h : p.1 = k
    · rw [if_pos h]
      by_cases e : p.1 = j
      · rw [valV_pos (p := (p.1, y)) e, valV_pos e, Option.map_some, if_pos (e.symm.trans h)]
      · rw [valV_neg (p := (p.1, y)) e, valV_neg e, ih]
    · rw [if_neg h]
      by_cases e : p.1 = j
      · rw [valV_pos (p := p) e, valV_pos e, Option.map_some, if_neg (fun z => h (e.trans z))]
      · rw [valV_neg (p := p) e, valV_neg e, ih]
theorem valV_snoc (k j : κ) (y : V) : ∀ kvs : List (κ × V), valV kvs k = none → valV (kvs ++ [(k, y)]) j = if j = k then some y else valV kvs j
  | [], _ => by
    by_cases e : k = j
    · rw [if_pos e.symm]; exact valV_pos (p := (k, y)) e
    · rw [if_neg (fun z => e z.symm)]; exact valV_neg (p := (k, y)) e
  | p :: r, hn => by
    rw [List.cons_append]
    have hk : ¬ p.1 = k := fun z => by rw [valV_pos z] at hn; cases hn
    rw [valV_neg hk] at hn
    have ih := valV_snoc k j y r hn
    by_cases e : p.1 = j
    · rw [valV_pos e, valV_pos e, if_neg (fun z => hk (e.trans z))]
    · rw [valV_neg e, valV_neg e, ih]
theorem valV_put (kvs : List (κ × V)) (k j : κ) (y : V) : valV (putK kvs k y) j = if j = k then some y else valV kvs j := by
  unfold putK
  by_cases a : (kvs.any fun kv => decide (kv.1 = k)) = true
  · rw [if_pos a, valV_map]
    rw [valV_any] at a
    by_cases e : j = k
    · obtain ⟨x, hx⟩ := Option.isSome_iff_exists.mp a
      rw [if_pos e, e, hx, Option.map_some, if_pos rfl]
    · rw [if_neg e]
      cases valV kvs j with
      | none => rfl
      | some x => rw [Option.map_some, if_neg e]
  · rw [if_neg a]
    refine valV_snoc k j y kvs ?_
    rw [valV_any] at a
    cases q : valV kvs k with
    | none => rfl
    | some x => rw [q] at a; exact (a rfl).elim
theorem length_putK (kvs : List (κ × V)) (k : κ) (v : V) : (putK kvs k v).length ≤ kvs.length + 1 := by
  unfold putK
  split
  · rw [List.length_map]; omega
  · rw [List.length_append, List.length_cons, List.length_nil]; omega
theorem RelO.isSome_eq {o : Option V} {u : Option Value} (r : RelO o u) : o.isSome = u.isSome := by
  cases o with
  | none => cases u with
    | none => rfl
    | some _ => exact (show False from r).elim
  | some _ => cases u with
    | none => exact (show False from r).elim
    | some _ => rfl
theorem RelO.getD {o : Option V} {u : Option Value} {d : V} {d' : Value} (r : RelO o u) (rd : RelV d d') : RelV (o.getD d) (u.getD d') := by
  cases o with
  | none => cases u with
    | none => exact rd
    | some _ => exact (show False from r).elim
  | some _ => cases u with
    | none => exact (show False from r).elim
    | some _ => exact r

/-- raw tables of the same keys -/
theorem KV.val {kvs : List (κ × V)} {vs : List (κ × Value)} (r : KV kvs vs) (k : κ) : RelO (valV kvs k) (valueAt vs k) := by
  unfold KV at r
  induction r with
  | nil => exact True.intro
  | @cons p q ps qs h t ih =>
    obtain ⟨h1, h2⟩ := h
    by_cases e : p.1 = k
    · have e' : q.1 = k := h1.symm.trans e
      have b : valueAt (q :: qs) k = some q.2 := by simp [valueAt, List.find?_cons, e']
      rw [valV_pos e, b]; exact h2
    · have e' : ¬ q.1 = k := fun z => e (h1.trans z)
      have b : valueAt (q :: qs) k = valueAt qs k := by simp [valueAt, List.find?_cons, e']
      rw [valV_neg e, b]; exact ih
theorem KV.any {kvs : List (κ × V)} {vs : List (κ × Value)} (r : KV kvs vs) (k : κ) : (kvs.any fun kv => decide (kv.1 = k)) = vs.any fun kv => decide (kv.1 = k) := by
  unfold KV at r
  induction r with
  | nil => rfl
  | cons h t ih => rw [List.any_cons, List.any_cons, ih, h.1]
theorem KV.repl {kvs : List (κ × V)} {vs : List (κ × Value)} (r : KV kvs vs) (k : κ) {y : V} {u : Value} (ry : RelV y u) :
    KV (kvs.map fun kv => if kv.1 = k then (kv.1, y) else kv) (vs.map fun kv => if kv.1 = k then (kv.1, u) else kv) := by
  unfold KV at r ⊢
  induction r with
  | nil => exact .nil
  | @cons p q ps qs h t ih =>
    rw [List.map_cons, List.map_cons]
    refine .cons ?_ ih
    obtain ⟨h1, h2⟩ := h
    by_cases e : p.1 = k
    · rw [if_pos e, if_pos (h1.symm.trans e)]; exact ⟨h1, ry⟩
    · rw [if_neg e, if_neg (fun z => e (h1.trans z))]; exact ⟨h1, h2⟩
theorem KV.put {kvs : List (κ × V)} {vs : List (κ × Value)} (r : KV kvs vs) (k : κ) {y : V} {u : Value} (ry : RelV y u) : KV (putK kvs k y) (stored vs k u) := by
  unfold putK stored
  rw [r.any k]
  by_cases e : (vs.any fun kv => decide (kv.1 = k)) = true
  · rw [if_pos e, if_pos e]; exact r.repl k ry
  · rw [if_neg e, if_neg e]; exact Paired.snoc r ⟨rfl, ry⟩
theorem KV.length {kvs : List (κ × V)} {vs : List (κ × Value)} (r : KV kvs vs) : kvs.length = vs.length := Paired.length r
end


/-! ### a tracked dict, its keys ints and texts or tuples of these -/
theorem kV_is {P : Program} {w : World} {k : Key} {u : Value} (r : RelV (kV k) u) : (mixKind P w).is k u = true := by
  cases k with
  | inl i => obtain ⟨t, e⟩ := (show ∃ t, u = Value.int i t from r); subst e; exact mixKind_int P w i t
  | inr x => obtain ⟨t, e⟩ := (show ∃ t, u = Value.str x t from r); subst e; exact mixKind_str P w x t
theorem items_are {P : Program} {w : World} : ∀ {ks : List Key} {us : List Value}, Vals (ks.map kV) us → ItemsAre (mixKind P w) ks us
  | [], _, r => by rw [List.map_nil] at r; cases r; exact .nil
  | k :: ks, _, r => by
    rw [List.map_cons] at r
    cases r with
    | cons h t => exact .cons (kV_is h) (items_are t)

/-- raw entries of a dict with tuple keys -/
abbrev KT (H : Hp) : List (List Key × V) → List (List Key × Addr × Value) → Prop := Paired fun p q => p.1 = q.1 ∧ H q.2.1 = some (.tup (p.1.map kV)) ∧ RelV p.2 q.2.2
theorem KT.val {H : Hp} {kvs : List (List Key × V)} {xs : List (List Key × Addr × Value)} (r : KT H kvs xs) (k : List Key) : RelO (valV kvs k) ((atKey xs k).map (·.2)) := by
  induction r with
  | nil => exact True.intro
  | @cons p q ps qs h t ih =>
    obtain ⟨h1, _, h2⟩ := h
    by_cases e : p.1 = k
    · have e' : q.1 = k := h1.symm.trans e
      have b : atKey (q :: qs) k = some q.2 := by simp [atKey, List.find?_cons, e']
      rw [valV_pos e, b]; exact h2
    · have e' : ¬ q.1 = k := fun z => e (h1.trans z)
      have b : atKey (q :: qs) k = atKey qs k := by simp [atKey, List.find?_cons, e']
      rw [valV_neg e, b]; exact ih
theorem KT.repl {H : Hp} {kvs : List (List Key × V)} {xs : List (List Key × Addr × Value)} (r : KT H kvs xs) (k : List Key) {y : V} {u : Value} (ry : RelV y u) :
    KT H (kvs.map fun kv => if kv.1 = k then (kv.1, y) else kv) (xs.map (putAt k u)) := by
  induction r with
  | nil => exact .nil
  | @cons p q ps qs h t ih =>
    rw [List.map_cons, List.map_cons]
    refine .cons ?_ ih
    obtain ⟨h1, h2, h3⟩ := h
    unfold putAt
    by_cases e : p.1 = k
    · rw [if_pos e, if_pos (h1.symm.trans e)]; exact ⟨h1, h2, ry⟩
    · rw [if_neg e, if_neg (fun z => e (h1.trans z))]; exact ⟨h1, h2, h3⟩
theorem KT.put {H : Hp} {kvs : List (List Key × V)} {xs : List (List Key × Addr × Value)} (r : KT H kvs xs) (k : List Key) {b : Addr} {y : V} {u : Value} (hb : H b = some (.tup (k.map kV))) (ry : RelV y u) :
    KT H (putK kvs k y) (storedH xs k b u) := by
  have e : (kvs.any fun kv => decide (kv.1 = k)) = (atKey xs k).isSome := by
    rw [valV_any, (r.val k).isSome_eq, Option.isSome_map]
  unfold putK storedH
  rw [e]
  by_cases q : (atKey xs k).isSome = true
  · rw [if_pos q, if_pos q]; exact r.repl k ry
  · rw [if_neg q, if_neg q]; exact Paired.snoc r ⟨rfl, hb, ry⟩
theorem KT.keeps {H H' : Hp} {kvs : List (List Key × V)} {xs : List (List Key × Addr × Value)} (r : KT H kvs xs) (ht : ∀ b ys, H b = some (.tup ys) → H' b = some (.tup ys)) : KT H' kvs xs :=
  Paired.mapP r fun _ _ z => ⟨z.1, ht _ _ z.2.1, z.2.2⟩

section
variable {P : Program} {w : World} {H : Hp} {h : Heap} {a : Addr}
theorem rd_of {u : HO} (ok : HOk P w H h) (e : Rd H a u) : ObjOk P w H h a u := e.ok ok
theorem dk_rd {kvs : List (Key × V)} (ok : HOk P w H h) (e : Rd H a (.dK kvs)) : kvs.length ≤ sizeLine ∧ (a == sysModules) = false ∧ ∃ vs, KV kvs vs ∧ h.DictOf (mixKind P w) a vs :=
  show ObjOk P w H h a (.dK kvs) from rd_of ok e
theorem dk_of {kvs : List (Key × V)} (ok : HOk P w H h) (e : H a = some (.dK kvs)) : kvs.length ≤ sizeLine ∧ (a == sysModules) = false ∧ ∃ vs, KV kvs vs ∧ h.DictOf (mixKind P w) a vs := dk_rd ok (.inl e)
/-- a tracked tuple of ints and texts is a key -/
theorem key_of {ks : List Key} (ok : HOk P w H h) (e : H a = some (.tup (ks.map kV))) : (tupleKind (mixKind P w)).is h ks a := by
  obtain ⟨_, its, r, o, h1, h2, n, h3⟩ := (show ObjOk P w H h a (.tup (ks.map kV)) from ok a _ e)
  exact ⟨o, its.toArray, n, h1, h2, h3, by simpa using items_are r⟩
theorem dt_rd {kvs : List (List Key × V)} (ok : HOk P w H h) (e : Rd H a (.dT kvs)) : kvs.length ≤ sizeLine ∧ (a == sysModules) = false ∧
    ∃ xs, KT H kvs xs ∧ h.DictOfH (tupleKind (mixKind P w)) a xs := by
  obtain ⟨z, y, xs, r, o, es, ep, h1, h2, h3, h4, h5⟩ := (show ObjOk P w H h a (.dT kvs) from rd_of ok e)
  refine ⟨z, y, xs, r, o, es, ep, h1, h2, h3, h4, fun x hx => ?_, h5⟩
  have all : ∀ {l : List (List Key × V)} {m : List (List Key × Addr × Value)}, KT H l m → ∀ x ∈ m, (tupleKind (mixKind P w)).is h x.1 x.2.1 := by
    intro l m q
    induction q with
    | nil => intro x hx; exact nomatch hx
    | @cons p q ps qs hq t ih =>
      intro x hx
      rcases List.mem_cons.mp hx with e | hx
      · subst e
        exact key_of ok (by rw [← hq.1]; exact hq.2.1)
      · exact ih x hx
  exact all r x hx
theorem dt_of {kvs : List (List Key × V)} (ok : HOk P w H h) (e : H a = some (.dT kvs)) : kvs.length ≤ sizeLine ∧ (a == sysModules) = false ∧
    ∃ xs, KT H kvs xs ∧ h.DictOfH (tupleKind (mixKind P w)) a xs := dt_rd ok (.inl e)
end

/-- what the dict at a holds at the key y -/
def DGet (H : Hp) (a : Addr) (y : V) (r : Option V) : Prop :=
  (∃ kvs k, Rd H a (.dK kvs) ∧ y = kV k ∧ r = valV kvs k) ∨ ∃ kvs k b, Rd H a (.dT kvs) ∧ y = .ref b ∧ H b = some (.tup (k.map kV)) ∧ r = valV kvs k
/-- the heap behind a[y] = v -/
def DPut (H : Hp) (a : Addr) (y v : V) (H' : Hp) : Prop :=
  (∃ kvs k, H a = some (.dK kvs) ∧ y = kV k ∧ kvs.length < sizeLine ∧ H' = upd H a (.dK (putK kvs k v))) ∨
  ∃ kvs k b, H a = some (.dT kvs) ∧ y = .ref b ∧ H b = some (.tup (k.map kV)) ∧ kvs.length < sizeLine ∧ H' = upd H a (.dT (putK kvs k v))
theorem DGet.t {H : Hp} {a b : Addr} {kvs : List (List Key × V)} {k : List Key} (e : H a = some (.dT kvs)) (eb : H b = some (.tup (k.map kV))) : DGet H a (.ref b) (valV kvs k) := .inr ⟨kvs, k, b, .inl e, rfl, eb, rfl⟩
theorem DPut.t {H : Hp} {a b : Addr} {kvs : List (List Key × V)} {k : List Key} {v : V} (e : H a = some (.dT kvs)) (eb : H b = some (.tup (k.map kV))) (hl : kvs.length < sizeLine) :
    DPut H a (.ref b) v (upd H a (.dT (putK kvs k v))) := .inr ⟨kvs, k, b, e, rfl, eb, hl, rfl⟩


section
variable {X : Cx} {pins : List (Addr × Obj)} {σ : St} {H : Hp} {s : Shared} {a : Addr} {y v : V} {u r : Value} {o : Option V} {A : Around} {E : Value → Shared → Prop}

theorem Inv.big (I : Inv X pins σ H s) : sysModules < s.heap.objs.size := by
  have h : mainGlobals < s.heap.objs.size := (I.mod.glob.keeps I.bk).lt
  exact Nat.lt_trans (by decide) h

/-- d[y], there -/
theorem d_getItem {Q : Value → Shared → Prop} (hu : A.units + 1 < cLine) (I : Inv X pins σ H s) (g : DGet H a y (some v)) (ry : RelV y u) (h : ∀ w' s', Inv X pins σ H s' → RelV v w' → Q w' s') :
    wpAny (model X.prog X.w) A (getItem (.ref a) u) Q E s := by
  rcases g with ⟨kvs, k, e, ey, l⟩ | ⟨kvs, k, b, e, ey, eb, l⟩
  · subst ey
    obtain ⟨z, hd, vs, rel, dd⟩ := dk_rd I.hok e
    obtain ⟨w', hw, rw'⟩ := RelO.some_of (v := v) (o := valueAt vs k) (by rw [l]; exact rel.val k)
    exact wpAny_getItem_of (kV_is ry) dd.mapOf hw (h w' _ (I.tok _) rw')
  · subst ey
    cases (show u = Value.ref b from ry)
    obtain ⟨z, hd, xs, rel, dd⟩ := dt_rd I.hok e
    obtain ⟨w', hw, rw'⟩ := RelO.some_of (v := v) (o := (atKey xs k).map (·.2)) (by rw [l]; exact rel.val k)
    obtain ⟨p, hp, hp2⟩ := Option.map_eq_some_iff.mp hw
    refine wpAny_getItem_heap (tupleKind_room_in1 hu) (key_of I.hok eb) dd hp ?_
    rw [hp2]
    exact h w' _ (I.tok _) rw'
/-- a dict's object is replaced -/
theorem d_write {h' : Heap} {t' : Nat} {ob : HO} (I : Inv X pins σ H s) (mu : Mut (H a)) (hs : Heap.SameBut a s.heap h') (he : ∃ q, h'.get? a = some q) (new : ObjOk X.prog X.w (upd H a ob) h' a ob) :
    Inv X pins σ (upd H a ob) { s with heap := h', toks := t' } :=
  I.write (x := a) (e := a) mu (.inl rfl) (fun b q hb z => (hs.2 b hb).trans z) he new
theorem dk_new {P : Program} {w : World} {H' : Hp} {h' : Heap} {kvs : List (Key × V)} {vs : List (Key × Value)} (z : kvs.length ≤ sizeLine) (hd : (a == sysModules) = false) (rel : KV kvs vs) (dd : h'.DictOf (mixKind P w) a vs) :
    ObjOk P w H' h' a (.dK kvs) := ⟨z, hd, vs, rel, dd⟩
/-- d[y] = v -/
theorem d_setItem {H' : Hp} {Q : Unit → Shared → Prop} (hu : A.units + 1 < cLine) (I : Inv X pins σ H s) (g : DPut H a y v H') (ry : RelV y u) (rv : RelV v r) (h : ∀ s', Inv X pins σ H' s' → Q () s') :
    wpAny (model X.prog X.w) A (setItem (.ref a) u r) Q E s := by
  rcases g with ⟨kvs, k, e, ey, l, eH⟩ | ⟨kvs, k, b, e, ey, eb, l, eH⟩
  · subst ey eH
    obtain ⟨z, hd, vs, rel, dd⟩ := dk_of I.hok e
    have hz : vs.length ≤ sizeLine := by rw [← rel.length]; exact z
    have hl : (putK kvs k v).length ≤ sizeLine := by have := length_putK kvs k v; omega
    refine wpAny_setItem_pairs (hsz := hz) (kV_is ry) dd fun h' dd' hs => h _ ?_
    have he : ∃ q, h'.get? a = some q := let ⟨q, _, _, hq, _⟩ := dd'; ⟨q, hq⟩
    exact d_write I (by rw [e]; exact True.intro) hs he (dk_new hl hd (rel.put k rv) dd')
  · subst ey eH
    cases (show u = Value.ref b from ry)
    obtain ⟨z, hd, xs, rel, dd⟩ := dt_of I.hok e
    have hz : xs.length ≤ sizeLine := by rw [← Paired.length rel]; exact z
    have hl : (putK kvs k v).length ≤ sizeLine := by have := length_putK kvs k v; omega
    refine wpAny_setItem_heap (hsz := hz) (tupleKind_room_in1 hu) (key_of I.hok eb) dd fun h' dd' hs => h _ ?_
    obtain ⟨q, es, ep, hq, h2, h3, h4, _, h5⟩ := dd'
    refine d_write I (by rw [e]; exact True.intro) hs ⟨q, hq⟩ ⟨hl, hd, _, (rel.put k eb rv).keeps fun c ys ec => ?_, q, es, ep, hq, h2, h3, h4, h5⟩
    rw [upd_ne (ne_of ec e (fun z => nomatch z))]
    exact ec
end

section
variable {X : Cx} {pins : List (Addr × Obj)} {σ : St} {H : Hp} {s : Shared} {a : Addr} {kvs : List (Key × V)} {k : Key} {u : Value} {A : Around} {E : Value → Shared → Prop}
end


/-! ### readings and rules -/
/-- the element of a subscription, not a slice -/
def NoSl (i : Expr) : Prop := ∀ ov iv, subscripted i false ov iv = operate [ov, iv] (getItem ov iv)
theorem subD_of {prog : Program} {w : World} {A : Around} {E : Value → Shared → Prop} {s : Shared} {env : Env} {value slice : Expr} {pos : Pos} {T id : String} {Q : Value → Shared → Prop}
    (hl : typeLookup (.type T) "__getitem__" = pure (some (.builtin id))) (hs : NoSl slice)
    (h : wpAny (model prog w) A (eval value env) (fun o s₁ => wpAny (model prog w) A (eval slice env) (fun i s₂ => s₂.TypeIs o T ∧ wpAny (model prog w) A (getItem o i) Q E s₂) E s₁) E s) :
    wpAny (model prog w) A (eval (.Subscript value slice pos) env) Q E s := by
  refine Subscript_ (wpAny_mono h (fun o s₁ h₁ => wpAny_mono h₁ (fun i s₂ h₂ => ?_) fun _ _ x => x) fun _ _ x => x)
  obtain ⟨hT, h₂⟩ := h₂
  unfold subscriptTail
  refine wpAny_bind ?_
  rw [getitemInPython_of_ne hT.not_modules]
  refine wpAny_bind (wpAny_specialOf hT hl ?_)
  have fin : wpAny (model prog w) A (subscripted slice false o i) (fun r s₃ => wpAny (model prog w) A (letTemporaryGo value o r >>= fun _ => pure r) Q E s₃) E s₂ := by
    rw [hs o i]
    exact wpAny_operating (wpAny_mono h₂ (fun r s₃ h₃ => wpAny_bind (wpAny_letTemporaryGo (wpAny_pure h₃))) fun _ _ x => x)
  first
    | exact wpAny_pure (wpAny_bind fin)
    | exact wpAny_bind (wpAny_pure (wpAny_bind fin))
    | exact wpAny_bind fin

theorem dict_typeIs {X : Cx} {pins : List (Addr × Obj)} {σ : St} {H : Hp} {s : Shared} {a : Addr} {y : V} {o : Option V} (I : Inv X pins σ H s) (g : DGet H a y o) : s.TypeIs (.ref a) "dict" := by
  rcases g with ⟨kvs, k, e, _, _⟩ | ⟨kvs, k, b, e, _, _, _⟩
  · obtain ⟨_, _, vs, _, dd⟩ := dk_rd I.hok e
    exact dd.typeIs
  · obtain ⟨_, _, xs, _, dd⟩ := dt_rd I.hok e
    exact dd.typeIs
/-- d[y] -/
def tDGet (td ty : TE) : TE := fun σ H Q => td σ H fun x H1 => ty σ H1 fun y H2 => ∃ a v, x = .ref a ∧ DGet H2 a y (some v) ∧ Q v H2
/-- d[y] = v -/
def sDPut (td ty tv : TE) : TS := fun D σ H => tv σ H fun v H1 => td σ H1 fun x H2 => ty σ H2 fun y H3 => ∃ a H4, x = .ref a ∧ DPut H3 a y v H4 ∧ D.nx σ H4
section
variable {X : Cx} {o i e value : Expr} {pos pos' tpos : Pos} {td ty tv : TE}
theorem pe_dget (hu : X.A.units + 1 < cLine) (ho : PE X o td) (hi : PE X i ty) (hs : NoSl i) : PE X (.Subscript o i pos) (tDGet td ty) := by
  intro pins s σ H Q I h
  refine subD_of PySem.F.slot_dict_getitem.lookup hs (thn (ho pins s σ H _ I h) fun u s1 ⟨x, H1, I1, rx, q1⟩ => thn (hi pins s1 σ H1 _ I1 q1) fun iv s2 ⟨y, H2, I2, ry, a, v, ex, g, q2⟩ => ?_)
  subst ex
  obtain rfl : u = Value.ref a := rx
  exact ⟨dict_typeIs I2 g, d_getItem hu I2 g ry fun w' s3 I3 rw' => ⟨v, H2, I3, rw', q2⟩⟩
theorem ps_dput (hu : X.A.units + 1 < cLine) (ho : PE X o td) (hi : PE X i ty) (hv : PE X value tv) (hs : swapsWith value (some (.Subscript o i pos')) pos.line X.env = pure false) :
    PS X (.Assign [.Subscript o i pos'] value pos) (sDPut td ty tv) := by
  intro pins s σ H D I h
  refine wpAny_Assign_Subscript (thn (hv pins s σ H _ I h) fun r s1 ⟨v, H1, I1, rv, q1⟩ => thn (ho pins s1 σ H1 _ I1 q1) fun u s2 ⟨x, H2, I2, rx, q2⟩ => thn (hi pins s2 σ H2 _ I2 q2) fun iv s3 ⟨y, H3, I3, ry, a, H4, ex, g, q3⟩ => ?_) hs
  subst ex
  obtain rfl : u = Value.ref a := rx
  exact d_setItem hu I3 g ry rv fun s4 I4 => ⟨σ, H4, I4, q3⟩
end


/-! ### displays -/
theorem dt_empty {P : Program} {w : World} {H : Hp} (h : Heap) (hb : sysModules < h.objs.size) : ObjOk P w H (h.push { cls := .type "dict", data := .dict #[] }) h.objs.size (.dT []) :=
  ⟨Nat.zero_le _, beq_eq_false_iff_ne.mpr (Ne.symm (Nat.ne_of_lt hb)), [], .nil, _, #[], 0, Heap.get?_push_size _ rfl, ⟨rfl, rfl, rfl⟩, rfl, rfl, List.nodup_nil⟩
def tDNewT : TE := fun _ H Q => ∀ p, H p = none → Q (.ref p) (upd H p (.dT []))
section
variable {X : Cx} {pos : Pos}
theorem pe_dnewT : PE X (.Dict [] [] pos) tDNewT := fun pins s σ H Q I h =>
  wpAny_Dict_empty ⟨.ref s.heap.objs.size, _, I.laid (a := s.heap.objs.size) (o := .dT []) (t' := s.toks) (fun _ _ q => Heap.get?_push_of_some _ q) (Nat.le_refl _) (dt_empty s.heap I.big), rfl, h _ (I.hok.fresh (Nat.le_refl _))⟩
end

/-! ### methods -/
section
variable {X : Cx} {pins : List (Addr × Obj)} {σ : St} {H : Hp} {s : Shared} {a : Addr} {y d : V} {u r : Value} {o : Option V} {A : Around} {E : Value → Shared → Prop}
/-- d.get(y, x) -/
theorem d_get2 {Q : Value → Shared → Prop} (hu : A.units + 1 < cLine) (I : Inv X pins σ H s) (g : DGet H a y o) (ry : RelV y u) (rd : RelV d r) (h : ∀ w' s', Inv X pins σ H s' → RelV (o.getD d) w' → Q w' s') :
    wpAny (model X.prog X.w) A (call (.builtin "dict.get") [.ref a, u, r]) Q E s := by
  rcases g with ⟨kvs, k, e, ey, l⟩ | ⟨kvs, k, b, e, ey, eb, l⟩
  · subst ey
    obtain ⟨z, hd, vs, rel, dd⟩ := dk_rd I.hok e
    refine call_meetsIn PySem.F.slot_dict_get dd.typeIs PySem.F.entry_dict_get (PySem.F.args_dict_get_3 _ _ _) (meets_dict_get_default (mixKind X.prog X.w) a (kV_is ry) hd r) ⟨_, dd.mapOf, h _ _ (I.tok _) ?_⟩
    rw [l]
    exact (rel.val k).getD rd
  · subst ey
    cases (show u = Value.ref b from ry)
    obtain ⟨z, hd, xs, rel, dd⟩ := dt_rd I.hok e
    refine call_meetsIn PySem.F.slot_dict_get dd.typeIs PySem.F.entry_dict_get (PySem.F.args_dict_get_3 _ _ _) (meetsH_dict_get_default (tupleKind (mixKind X.prog X.w)) a b hd r) ⟨tupleKind_room_in1 hu, k, xs, key_of I.hok eb, dd, h _ _ (I.tok _) ?_⟩
    rw [l]
    exact (rel.val k).getD rd
end

section
variable {X : Cx} {o e f : Expr} {apos cpos : Pos} {td ty tx : TE}
end

/-! ### dict(d): a copy -/
section
variable {X : Cx} {pins : List (Addr × Obj)} {σ : St} {H : Hp} {s : Shared} {a : Addr} {kvs : List (Key × V)} {A : Around} {E : Value → Shared → Prop}
end


section
variable {X : Cx} {pins : List (Addr × Obj)} {σ : St} {H : Hp} {s : Shared} {a : Addr} {y : V} {u : Value} {A : Around} {E : Value → Shared → Prop}
end
end L2

namespace Att
open PySem PySem.W PySem.Calls PyProof.Rows

/-! ### the script -/
/-! ### the attachment: holds_open's last premise (the goal 'hc' behind k_head) from a wpAny of the law's body -/
/-! ### rules over ANY heap (no ledger) from facts about the written part K: the library's own take a ledger (News) for what they write -/
section
variable {prog : Program} {w : World} {A : Around} {E : Value → Shared → Prop} {s : Shared} {K : Frag}

/-! the whole heap as the ledger: makes every rule that writes through a ledger a rule over any heap -/
end
end Att

namespace L2
open PySem PySem.Spec PyProof.Rows

end L2

namespace L2
open PySem PySem.Spec PyProof.Rows

end L2

/-! SHORT WORDS over the layer: a def of the text, its body, what a loop and a test want. -/
namespace L2
open PySem PySem.Spec PyProof.Rows

/-! ### the text by places -/
/-! ### no exception leaves a def -/
/-! ### a def (or method) of the text as it stands behind the top -/
section
variable {P : Program} {w : World} {K : PySem.W.Frag} {mg : Str → Option Value} {base : Heap}
end
/-! ### expressions in short: the name that stands in the i-th slot -/
section
variable {X : Cx}
end

/-! ### tests -/
/-! ### heaps -/
/-! ### a dict's pairs: keys that differ -/
section
variable {κ : Type} [DecidableEq κ]
end
end L2

set_option linter.all false
set_option maxRecDepth 100000
set_option maxHeartbeats 4000000
/-! dicts by tuples: setdefault, get; isinstance of an own thing and a tuple of classes. -/
namespace L2
open PySem PySem.Spec PyProof.Rows
section
variable {prog : Program} {w : World} {K : Type} [DecidableEq K] {knd : HeapKind prog w K} {A : Around} {E : Value → Shared → Prop} {s : Shared} {d a : Addr} {xs : List (K × Addr × Value)} {k : K} {z : Value}
theorem sd_heap {Q : Value → Shared → Prop} (rm : knd.room A) (ky : knd.is s.heap k a) (dd : s.heap.DictOfH knd d xs) (sz : xs.length ≤ sizeLine)
    (there : ∀ p, atKey xs k = some p → Q p.2 { s with toks := s.toks + knd.draws k })
    (new : atKey xs k = none → ∀ h', h'.DictOfH knd d (storedH xs k a z) → Heap.SameBut d s.heap h' → Q z { s with heap := h', toks := s.toks + knd.draws k }) :
    wpAny (model prog w) A (dictSetDefault d (.ref a) z) Q E s := by
  obtain ⟨ob, ents, epo, g1, g2, g3, g4, g5, g6⟩ := dd
  unfold dictSetDefault
  first | (with_reducible refine wpAny_holding ?_) | skip
  refine wpAny_bind (knd.pyHash rm ky ?_)
  refine wpAny_bind (wpAny_dictFind_heap (s := { s with toks := s.toks + knd.draws k }) rm ky g1 g3 g4 g5 g6 (fun no => ?_) (fun j p hj => ?_))
  · have nk : atKey xs k = none := atKey_none_of_get no
    have nm : k ∉ xs.map (·.1) := not_mem_keys_of_get no
    refine wpAny_bind (wpAny_rule ?_)
    refine wpAny_bind (wpAny_updateDictKeys (s := { s with toks := s.toks + knd.draws k }) (hz := by have e := size_of_entries g4; omega) g1 g3 ?_)
    refine wpAny_pure (new nk _ ⟨_, _, epo + 1, Heap.get?_update_self _ g1 (Obj.isFreed_of_dict (Obj.data_mapDictKeys g3 _)), g2.mapDictKeys _, Obj.data_mapDictKeys g3 _, ?_, ?_, ?_⟩ (Heap.SameBut.update ..))
    · rw [storedH_new nk]
      simp only [Array.toList_push, g4, List.map_append, List.map_cons, List.map_nil]
      rfl
    · rw [storedH_new nk]
      intro x hx
      rcases List.mem_append.mp hx with y | y
      · exact knd.keeps (g5 x y) g1 g3 (Heap.SameBut.update ..)
      · have e : x = (k, a, z) := by simpa using y
        rw [e]
        exact knd.keeps ky g1 g3 (Heap.SameBut.update ..)
    · rw [storedH_new nk, List.map_append, List.nodup_append]
      refine ⟨g6, by simp, fun x hx y hy e => ?_⟩
      have e2 : y = k := by simpa using hy
      exact nm (e2 ▸ e ▸ hx)
  · have ak : atKey xs k = some p := atKey_of_get g6 hj
    refine wpAny_bind (wpAny_dictEntries (s := { s with toks := s.toks + knd.draws k }) g1 g3 ?_)
    rw [entry_at g4 j, hj]
    exact wpAny_bind (wpAny_rule (wpAny_pure (there p ak)))
theorem meetsH_sd (hd : (d == sysModules) = false) :
    MeetsIn prog w (Builtin.«dict.setdefault» ⟨[.ref d, .ref a, z], []⟩) (fun A R s => knd.room A.in1 ∧ ∃ k xs, knd.is s.heap k a ∧ s.heap.DictOfH knd d xs ∧ xs.length ≤ sizeLine ∧
      (∀ p, atKey xs k = some p → R (.ok (.ret p.2)) { s with toks := s.toks + knd.draws k }) ∧
      (atKey xs k = none → ∀ h', h'.DictOfH knd d (storedH xs k a z) → Heap.SameBut d s.heap h' → R (.ok (.ret z)) { s with heap := h', toks := s.toks + knd.draws k })) :=
  .of_wp fun A R s ⟨rm, k, xs, ky, dd, sz, h1, h2⟩ => by
    unfold Builtin.«dict.setdefault»
    refine wpAny_bind ?_
    unfold Builtin.Dict.keyAndDefault
    refine wpAny_bind (wpAny_notOrdered_dict dd.typeIs ?_)
    refine wpAny_pure ?_
    show wpAny _ _ (if (d == sysModules) = true then _ else (dictSetDefault d (.ref a) z >>= _)) _ _ s
    rw [hd, if_neg Bool.false_ne_true]
    exact wpAny_bind (sd_heap rm ky dd sz (fun p e => wpAny_pure ⟨_, rfl, h1 p e⟩) fun e h' g1 g2 => wpAny_pure ⟨_, rfl, h2 e h' g1 g2⟩)
end
section
variable {X : Cx} {K : PySem.W.Frag}
/-- d.setdefault(k, z), k a tuple of numbers and texts -/
def rSetDef : V → List V → Hp → VK → Prop := fun x vs H Q => ∃ (a b : Addr) (kvs : List (List Key × V)) (k : List Key) (z : V), x = .ref a ∧ vs = [.ref b, z] ∧ H a = some (.dT kvs) ∧ H b = some (.tup (k.map kV)) ∧ kvs.length < 1000 ∧ (∀ v, valV kvs k = some v → Q v H) ∧ (valV kvs k = none → Q z (upd H a (.dT (putK kvs k z))))
theorem mt_setdef (hu : X.A.units + 1 < cLine) : MtM X "dict.setdefault" rSetDef := by
  intro pins s σ H x vs v us Q I rx rv h
  obtain ⟨a, b, kvs, k, z, rfl, rfl, e, eb, hl, q1, q2⟩ := h
  cases rx
  obtain ⟨u, r, rfl, ru, rr⟩ := rv.two
  cases ru
  obtain ⟨hz, hd, xs, rel, dd⟩ := dt_of I.hok e
  have hlen : xs.length ≤ sizeLine := by rw [← Paired.length rel]; exact hz
  refine call_meetsIn PySem.F.slot_dict_setdefault dd.typeIs PySem.F.entry_dict_setdefault (PySem.F.args_dict_setdefault_3 _ _ _) (meetsH_sd (knd := tupleKind (mixKind X.prog X.w)) (z := r) hd) ⟨tupleKind_room_in1 hu, k, xs, key_of I.hok eb, dd, hlen, fun p hp => ?_, fun hn h' dd' hs => ?_⟩
  · have rl := rel.val k
    rw [hp] at rl
    cases hv : valV kvs k with
    | none => rw [hv] at rl; exact absurd rl (by simp [RelO])
    | some y =>
      rw [hv] at rl
      exact ⟨y, H, I.tok _, rl, q1 y hv⟩
  · have rl := rel.val k
    rw [hn] at rl
    have hv : valV kvs k = none := by
      cases hv : valV kvs k with
      | none => rfl
      | some y => rw [hv] at rl; exact absurd rl (by simp [RelO])
    have hl2 : (putK kvs k z).length ≤ sizeLine := by
      have := length_putK kvs k z
      have := small1000 (n := 1000) (by omega)
      omega
    refine ⟨z, _, ?_, rr, q2 hv⟩
    obtain ⟨q, es, ep, hq, h2, h3, h4, _, h5⟩ := dd'
    have J := d_write (t' := s.toks + (tupleKind (mixKind X.prog X.w)).draws k) (ob := .dT (putK kvs k z)) I (by rw [e]; exact True.intro) hs ⟨q, hq⟩ ⟨hl2, hd, _, (rel.put k eb rr).keeps fun c ys ec => ?_, q, es, ep, hq, h2, h3, h4, h5⟩
    · exact J
    · rw [upd_ne (ne_of ec e (fun z => nomatch z))]
      exact ec
/-- d.get(k, z) -/
def rGetD : V → List V → Hp → VK → Prop := fun x vs H Q => ∃ (a : Addr) (y z : V) (o : Option V), x = .ref a ∧ vs = [y, z] ∧ DGet H a y o ∧ Q (o.getD z) H
theorem mt_getD (hu : X.A.units + 1 < cLine) : MtM X "dict.get" rGetD := by
  intro pins s σ H x vs v us Q I rx rv h
  obtain ⟨a, y, z, o, rfl, rfl, g, q⟩ := h
  cases rx
  obtain ⟨u, r, rfl, ru, rr⟩ := rv.two
  exact d_get2 hu I g ru rr fun w' s' I' rw' => ⟨_, H, I', rw', q⟩
end
/-! C(), where C has no __init__ of its own -/
open PySem.W in
def tMkO (C : Addr) : TE := fun _ H Q => ∀ x dx, H x = none → H dx = none → dx ≠ x → Q (.ref x) (upd (upd H dx (.own x)) x (.ins C dx []))
open PySem.W in
theorem pe_mkO {X : Cx} {K : PySem.W.Frag} {x : Str} {C : Addr} {p pos : Pos} (hK : X.K = K) (mk : makesIn K C = true) (kc : keepIn K (.ref C) = true) (hi : findIn K (.ref C) "__init__" = some (some (.builtin "object.__init__"))) (hm : X.mg x = some (.ref C)) (hg : Gl X x := by rfl)
    (hdb : (x == ("__debug__" : Str)) = false := by decide) : PE X (.Call (.Name x p) [] [] pos) (tMkO C) := by
  subst hK
  intro pins s σ H Q I h
  have q := h (s.heap.objs.size + 1) s.heap.objs.size (I.hok.fresh (Nat.le_succ _)) (I.hok.fresh (Nat.le_refl _)) (Nat.ne_of_lt (Nat.lt_succ_self _))
  have I2 := Inv.made (C := C) I
  refine wpAny_Call_Name_kw (ld_glob I hg hm ?_ hdb)
  refine callWith_K0 I.kIn kc (wpAny_call (make_map0 I.kIn mk hi (fun self => Looks.of_pure (oi_bind self)) ?_))
  have Y := makes_of (M := model X.prog X.w) I.kIn mk
  have g : ((s.heap.push emptyDict).push (instObj C s.heap.objs.size)).get? (s.heap.objs.size + 1) = some (instObj C s.heap.objs.size) := by
    have := Heap.get?_push_size (s.heap.push emptyDict) (o := instObj C s.heap.objs.size) rfl
    rwa [Heap.size_push] at this
  have t1 : Looks (model X.prog X.w) ((s.heap.push emptyDict).push (instObj C s.heap.objs.size)) (typeOf (.ref (s.heap.objs.size + 1))) (.ref C) := (Looks.ld g).andThen .now
  have t2 : Looks (model X.prog X.w) ((s.heap.push emptyDict).push (instObj C s.heap.objs.size)) (isInstance (.ref (s.heap.objs.size + 1)) (.type "object")) true := t1.andThen (Y.top.keeps fun b o e => Heap.get?_push_of_some _ (Heap.get?_push_of_some _ e))
  refine codeAny_call_builtin oi_plain entry_oi (@check_slot (model X.prog X.w) _ _ _ "object.__init__" "object" "__init__" (.ref (s.heap.objs.size + 1)) [] [] _ oi_kind oi_split t2 (oi_args _) ?_)
  rw [oi_run]
  exact wpAny_pure ⟨rfl, ⟨V.ref (s.heap.objs.size + 1), _, I2, rfl, q⟩⟩
/-! products and powers of long numbers -/
def CMulB (i j : Int) : Prop := i.natAbs < 2 ^ 1000 ∧ j.natAbs < 2 ^ 1000
theorem CMulB.ok {i j : Int} (h : CMulB i j) : IntMulOk i j := by
  have h1 : Builtin.Int.intBits i ≤ 1000 := intBits_le h.1
  have h2 : Builtin.Int.intBits j ≤ 1000 := intBits_le h.2
  unfold IntMulOk
  have h3 : Builtin.Int.intTooBig ((Builtin.Int.intBits i : Int) + (Builtin.Int.intBits j : Int)) = false := by
    unfold Builtin.Int.intTooBig
    refine decide_eq_false ?_
    have : (2000 : Int) ≤ (PySem.bitsLine : Int) := by decide
    omega
  rw [h3, Bool.and_false]
  exact Bool.false_ne_true
theorem op_mulB {X : Cx} : OpR X (binaryOp .Mult) (rI CMulB fun i j => .int (i * j)) := opI fun _ _ _ _ _ _ _ hc q => mul_int q hc.ok
def CPowB (i j : Int) : Prop := 0 ≤ j ∧ j ≤ 1000 ∧ i.natAbs < 2 ^ 1000
theorem op_powB {X : Cx} : OpR X (binaryOp .Pow) (rI CPowB fun i j => .int (i ^ j.toNat)) := opI fun i j _ _ _ _ _ hc q => by
  refine pow_int hc.1 ?_ q
  have h1 : Builtin.Int.intBits i ≤ 1000 := intBits_le hc.2.2
  have h2 : (Builtin.Int.intBits i : Int) * j ≤ 1000 * j := Int.mul_le_mul_of_nonneg_right (by omega) hc.1
  have := hc.2.1
  omega
end L2

set_option linter.all false
set_option maxRecDepth 100000
set_option maxHeartbeats 4000000
/-! pairs of numbers by <; enumerate of a text. -/
namespace L2
open PySem PySem.Spec PyProof.Rows
section
variable {X : Cx} {K : PySem.W.Frag}
end
/-- numbers and signs: a new tuple each -/
def Iet (l : List Nat) : It :=
  ⟨fun i _ => i < l.length, fun i H x H' => ∃ p c, H p = none ∧ l[i]? = some c ∧ x = .ref p ∧ H' = upd H p (.tup [.int i, T [c]]), fun i _ => i = l.length⟩
theorem turn_enumT {P : Program} {w : World} {K : PySem.W.Frag} {es : List Expr} {k : Nat} {pos : Pos} {z it : Addr} {l : List Nat} {t : Tok} {nm : String} (zi : z ≠ it) (hn : nm = "str_ascii_iterator" ∨ nm = "str_iterator") :
    Turn P w K (.Tuple es k pos) (Iet l) [z, it] z (fun i h => (∃ old, IsEnum h z it (i : Int) old) ∧ h.IsStrIter it nm ⟨l.toArray⟩ t i) where
  mem := by simp
  obj := fun i h st b hb => by
    obtain ⟨⟨old, hz⟩, o1, e1, c1, d1⟩ := st
    simp only [List.mem_cons, List.not_mem_nil, or_false] at hb
    rcases hb with rfl | rfl
    · exact ⟨_, hz, fun v q => by cases q⟩
    · exact ⟨o1, e1, fun v q => by rw [d1] at q; cases q⟩
  keep := fun i h h' st kk => by
    obtain ⟨⟨old, hz⟩, o1, e1, r1⟩ := st
    exact ⟨⟨old, kk z (by simp) _ hz⟩, ⟨o1, kk it (by simp) _ e1, r1⟩⟩
  item := by
    intro X hP hw hK hc i pins s σ H E I hf st hg
    subst hP hw hK
    obtain ⟨⟨old, hz⟩, h1⟩ := st
    have hh : X.A.in1.handled = none := I.ok.hd hc
    have D1 := drawsTxt (prog := X.prog) (w := X.w) (it := it) (l := l) (t := t) hh hn
    refine wpAny_pyNext_enum_itemD D1 hz h1 hg zi (fun q => zi (by simpa using q)) fun x h' tk hx a1 a2 a3 a4 kp => ?_
    obtain ⟨c, u, hc1, rfl⟩ := hx
    refine ⟨_, rfl, ?_⟩
    refine wpAny_letOwnedTupleGo_enum (s := { s with heap := h', toks := tk + 1 }) a1 fun h2' hz' hs' => ?_
    replace hs' : Heap.SameBut z h' h2' := hs'
    have zlt : z < s.heap.objs.size := Heap.lt_size hz
    have far : ∀ q ∈ [z, it], q < s.heap.objs.size := by
      intro q hq
      obtain ⟨o1, e1, _⟩ := h1
      simp only [List.mem_cons, List.not_mem_nil, or_false] at hq
      rcases hq with rfl | rfl
      · exact zlt
      · exact Heap.lt_size e1
    have fz := hf z (by simp)
    have f1 := hf it (by simp)
    have keepAll : ∀ b o, b ≠ z → b ≠ it → s.heap.get? b = some o → h2'.get? b = some o := fun b o b1 b2 e => hs'.extBut _ _ b1 (kp b o b1 b2 e)
    have hnew : H s.heap.objs.size = none := I.hok.fresh (Nat.le_refl _)
    have Tz : s.heap.objs.size ≠ z := Nat.ne_of_gt zlt
    have ht2 : h2'.get? s.heap.objs.size = some { cls := .type "tuple", data := .seq #[.int i tk, .str ⟨#[c]⟩ u] } := hs'.extBut _ _ Tz a3
    have I2 : Inv X pins σ (upd H s.heap.objs.size (.tup [.int i, T [c]])) { s with heap := h2', toks := tk + 1 } := by
      have nch : ∀ b, b ∉ [z, it] → b ≠ z ∧ b ≠ it := fun b hb => by
        simp only [List.mem_cons, List.not_mem_nil, or_false, not_or] at hb
        exact hb
      have trk : ∀ b u', H b = some u' → b ≠ z ∧ b ≠ it := fun b u' e =>
        ⟨fun q => (by rw [q, fz.1] at e; cases e), fun q => (by rw [q, f1.1] at e; cases e)⟩
      have okH : HOk X.prog X.w (upd H s.heap.objs.size (.tup [.int i, T [c]])) h2' := fun b u' e => by
        by_cases hb : b = s.heap.objs.size
        · subst hb
          rw [upd_same] at e
          cases e
          exact ⟨(show 2 ≤ sizeLine by decide), [.int i tk, .str ⟨#[c]⟩ u], .cons ⟨_, rfl⟩ (.cons ⟨u, rfl⟩ .nil), ⟨_, ht2, rfl, _, rfl⟩⟩
        · rw [upd_ne hb] at e
          have hx := I.hok b u' e
          refine hx.stay (fun q o hq e2 => ?_) (fun q e2 => ?_) (fun q xs e2 => ?_)
          · rcases hq with rfl | hq
            · obtain ⟨b1, b2⟩ := trk q _ e
              exact keepAll q o b1 b2 e2
            · obtain ⟨b1, b2⟩ := trk q _ hq
              exact keepAll q o b1 b2 e2
          · rw [upd_ne (ne_of_none e2 hnew)]; exact e2
          · rw [upd_ne (ne_of_none e2 hnew)]; exact e2
      refine I.step (g' := s.gens) (d' := s.drawn) (ch := [z, it]) (fun b hb => ?_) (fun b o _ _ hcb e n => ?_) (fun b o _ _ hcb e n => ?_) (fun b o hcb e n => ?_) (fun b o hcb e => ?_) (fun b xs e => ?_) (fun b o u' e => ?_) (fun b ps e => ?_) (fun m hm => ?_) okH I.bare
      · simp only [List.mem_cons, List.not_mem_nil, or_false] at hb
        rcases hb with rfl | rfl
        · exact ⟨fz.2.2.2.1, fz.2.1, fz.2.2.2.2.1, fz.2.2.2.2.2⟩
        · exact ⟨f1.2.2.2.1, f1.2.1, f1.2.2.2.2.1, f1.2.2.2.2.2⟩
      · obtain ⟨b1, b2⟩ := nch b hcb
        exact keepAll b o b1 b2 e
      · obtain ⟨b1, b2⟩ := nch b hcb
        exact ⟨o.slots, keepAll b o b1 b2 e⟩
      · rw [upd_ne (Nat.ne_of_lt (Heap.lt_size e))]; exact n
      · obtain ⟨b1, b2⟩ := nch b hcb
        exact ⟨o, keepAll b o b1 b2 e⟩
      · rw [upd_ne (ne_of_none e hnew)]; exact e
      · rw [upd_ne (ne_of_none e hnew)]; exact e
      · exact ⟨#[], by rw [upd_ne (ne_of_none e hnew), e]; simp⟩
      · obtain ⟨o, es', ep, ho, r⟩ := hm
        exact ⟨o, es', ep, keepAll _ o fz.2.1.symm f1.2.1.symm ho, r⟩
    refine ⟨.ref s.heap.objs.size, _, I2, rfl, ⟨_, c, hnew, hc1, rfl, rfl⟩, ⟨⟨_, by rw [Int.natCast_add]; exact hz'⟩, ?_⟩, fun b hb => ?_⟩
    · obtain ⟨o, e, r⟩ := a2; exact ⟨o, hs'.extBut _ _ zi.symm e, r⟩
    · rw [upd_ne (Nat.ne_of_lt (far b hb))]; exact (hf b hb).1
  done := by
    intro X hP hw hK hc i pins s σ H E I hf st hg
    subst hP hw hK
    obtain ⟨⟨old, hz⟩, h1⟩ := st
    have hh : X.A.in1.handled = none := I.ok.hd hc
    have D1 := drawsTxt (prog := X.prog) (w := X.w) (it := it) (l := l) (t := t) hh hn
    obtain ⟨f0, f1, f2, f3, f4, f5⟩ := hf it (by simp)
    have hg' : i = l.length := hg
    subst hg'
    refine wpAny_pyNext_enum_endD D1 hz h1 fun h' eb => ⟨rfl, I.turned (t' := s.toks) (fun b o hb e => eb b o hb e) f0 f1 f3 f4 f5⟩
  self := fun _ _ _ _ _ st h => by
    obtain ⟨⟨old, hz⟩, _⟩ := st
    exact wpAny_pyIter_enum hz h
section
variable {X : Cx} {es : List Expr} {k : Nat} {tpos : Pos}
def iEnumT (ta : TA) : TI := fun σ H R => ta σ H fun vs H1 => ∃ l, vs = [T l] ∧ R (Iet l) H1
theorem pi_enumT {a : Expr} {ta : TA} {p pos : Pos} (hg : Gl X "enumerate") (hm : X.mg "enumerate" = none) (ha : PA X [a] ta) (hv : bootBuiltins "enumerate" = some (.type "enumerate") := by decide +kernel) (hs : starEach [a] X.env = [(false, eval a X.env)] := by rfl) :
    PI X (.Tuple es k tpos) (.Call (.Name "enumerate" p) [a] [] pos) (iEnumT ta) := by
  intro pins s σ H R I h
  refine Call_ (ld_blt I hg hm hv (PyProof.Rows.callWith_type1 (thn (ha pos pins s σ H _ I h) fun us s1 ⟨vs, H1, I1, r1, q1⟩ => ?_) (by rw [hs]; rfl) (by rfl)))
  obtain ⟨l1, e, q⟩ := q1
  subst e
  obtain ⟨u, rfl, ru⟩ := r1.one
  obtain ⟨t, rfl⟩ := ru
  refine call_enumerate_str fun h' a1 a2 a3 kp => ?_
  have I2 : Inv X pins σ H1 { s1 with heap := h' } := I1.kept (t' := s1.toks) kp
  have hn : strIterType ⟨l1.toArray⟩ = "str_ascii_iterator" ∨ strIterType ⟨l1.toArray⟩ = "str_iterator" := by
    unfold strIterType; split
    · exact .inl rfl
    · exact .inr rfl
  refine wpAny_pyIter_enum a1 ⟨s1.heap.objs.size + 1, [s1.heap.objs.size + 1, s1.heap.objs.size], _, _, H1, rfl, I2, turn_enumT (t := t) (Nat.ne_of_gt (Nat.lt_succ_self _)) hn, ⟨⟨_, a1⟩, a2⟩, fun b hb => ?_, q⟩
  have hb' : s1.heap.objs.size ≤ b := by
    simp only [List.mem_cons, List.not_mem_nil, or_false] at hb
    rcases hb with rfl | rfl
    · exact Nat.le_add_right _ _
    · exact Nat.le_refl _
  exact I1.fpOk hb' (I1.hok.fresh hb')
end
/-- [e for i, c in enumerate(text)] -/
theorem comp_enumTG {l : List Nat} {H : Hp} {σ0 : St} {g : TG} {tc : TT} {te : TE} {Q : VK} (p : Nat → Bool) (P : Nat → V → Hp → Prop) (sh : St → Prop) (hx : l.length ≤ 1000000) (h0 : sh σ0)
    (hk : ∀ a y Ha Hb, Keeps Ha Hb → P a y Ha → P a y Hb)
    (step : ∀ (i : Nat) c q σ H', l[i]? = some c → sh σ → Same H H' → H' q = none → ∀ (Rf : St → Hp → Prop) (Rt : St → V → Hp → Prop),
      (∀ σ2 H3, p i = false → sh σ2 → Same H' H3 → Rf σ2 H3) → (∀ σ2 y H4, p i = true → sh σ2 → Same H' H4 → P i y H4 → Rt σ2 y H4) →
      g (.ref q) σ (upd H' q (.tup [.int i, T [c]])) fun σ2 H2 => tc σ2 H2 fun b H3 => if b = true then te σ2 H3 (fun y H4 => Rt σ2 y H4) else Rf σ2 H3)
    (hQ : ∀ D H' ys, H D = none → Same H H' → All2 P H' ((List.range l.length).filter p) ys → H' D = some (.lst ys) → Q (.ref D) H') : CompW (Iet l) H σ0 g tc te Q := by
  refine comp_gen (List.range l.length) p P sh (by rw [List.length_range]; exact hx) h0 (fun i H' s hi => by rw [List.length_range] at hi; exact hi) (fun H' s => by rw [List.length_range]; rfl) hk (fun i a σ x H' H'' ha hσ s hy => ?_) hQ
  obtain ⟨q, c, hq, e1, rfl, rfl⟩ := hy
  have hi := (List.getElem?_eq_some_iff.mp ha).1
  rw [List.length_range] at hi
  rw [List.getElem?_range hi] at ha
  cases ha
  exact step i c q σ H' e1 hσ s hq
section
variable {elt tg iter : Expr} {ifs : List Expr} {scope : Scope} {pos : Pos} {N : List Str} {js : List (Option Nat)} {wi : TI} {g : TG} {tc : TT} {te : TE}
end
end L2

set_option linter.all false
set_option maxRecDepth 100000
set_option maxHeartbeats 4000000
/-! max of a list of numbers, with and without a default; a built-in function called with keywords; a method within try. -/
namespace L2
open PySem PySem.Spec PyProof.Rows
section
variable {p : Program} {w : World} {A : Around} {R : Result → Shared → Prop} {it bst : Addr} {fp wr : List Addr} {n : Nat} {G : Nat → Value → Prop} {St : Nat → Heap → Prop} {bt : Nat → Nat → Bool} {kw : List (Str × Value)}
end
section
variable {p : Program} {w : World} {A : Around} {E : Value → Shared → Prop} {s : Shared} {l : Addr} {xs : Array (Int × Tok)} {Q : Value → Shared → Prop} {d : Value}
end
section
variable {X : Cx} {K : PySem.W.Frag}
/-! keywords of a built-in function -/
/-! a method within try -/
end
/-! one letter, up to nine times -/
end L2

set_option linter.all false
set_option maxRecDepth 100000
set_option maxHeartbeats 4000000
/-! zip of three lists. -/
namespace L2
open PySem PySem.Spec PyProof.Rows
open Builtin Builtin.Str
theorem z3_type (p q r : Value) : checkTypeCall "zip" ⟨[p, q, r], []⟩ = pure () := by kernel_rfl
theorem z3_new (p q r : Value) : checkBuiltinCall "zip.__new__" ⟨[.type "zip", p, q, r], []⟩ = pure () := by kernel_rfl
theorem z3_init (p q r t : Value) : argsOk "object.__init__" ⟨[p, q, r, t], []⟩ := by
  unfold argsOk
  rw [signature?_of (id := "object.__init__") (n := ['_', '_', 't', 'i', 'n', 'i', '_', '_']) (o := ['t', 'c', 'e', 'j', 'b', 'o']) (by kernel_rfl) PySem.F.owner_object]
  kernel_rfl
abbrev IsTrip (h : Heap) (t : Addr) (p q r : Value) : Prop := h.get? t = some { cls := .type "tuple", data := .seq #[p, q, r] }
structure Far3 (z TI TO i1 i2 i3 : Addr) : Prop where
  TIz : TI ≠ z
  TOz : TO ≠ z
  i1z : i1 ≠ z
  i2z : i2 ≠ z
  i3z : i3 ≠ z
  TITO : TI ≠ TO
  TI1 : TI ≠ i1
  TI2 : TI ≠ i2
  TI3 : TI ≠ i3
  TO1 : TO ≠ i1
  TO2 : TO ≠ i2
  TO3 : TO ≠ i3
  i12 : i1 ≠ i2
  i13 : i1 ≠ i3
  i23 : i2 ≠ i3
theorem far3_new (n : Nat) : Far3 (n + 5) (n + 3) (n + 4) n (n + 1) (n + 2) := by
  constructor <;> (intro z; have : (_ : Nat) = _ := z; omega)
section
variable {prog : Program} {w : World} {A : Around} {E : Value → Shared → Prop} {s : Shared}
theorem upd_trip {t : Addr} {p q r x : Value} {k : Nat} {Q : Unit → Shared → Prop} (hT : IsTrip s.heap t p q r)
    (h : ∀ h', h'.get? t = some { cls := .type "tuple", data := .seq ((#[p, q, r] : Array Value).setIfInBounds k x) } → Heap.SameBut t s.heap h' → Q () { s with heap := h' }) :
    wpAny (model prog w) A (updateSeq t (·.setIfInBounds k x)) Q E s := by
  refine wpAny_updateSeq hT rfl (h _ ?_ (Heap.SameBut.update ..))
  rw [Heap.get?_update_self _ hT rfl]
  simp [Obj.mapSeq]
theorem zip3_item {z TI TO i1 i2 i3 : Addr} {k n1 n2 n3 : Nat} {P1 P2 P3 : Nat → Value → Prop} {S1 S2 S3 : Nat → Heap → Prop} {p q r : Value} {f1 f2 f3 : List Addr} {Q : Value → Shared → Prop} (F : Far3 z TI TO i1 i2 i3)
    (D1 : Draws prog w A i1 f1 n1 P1 S1) (D2 : Draws prog w A i2 f2 n2 P2 S2) (D3 : Draws prog w A i3 f3 n3 P3 S3)
    (o1 : ∀ c ∈ f1, c ≠ z ∧ c ≠ TO ∧ c ≠ i2 ∧ c ≠ i3) (o2 : ∀ c ∈ f2, c ≠ z ∧ c ≠ TO ∧ c ≠ i1 ∧ c ≠ i3) (o3 : ∀ c ∈ f3, c ≠ z ∧ c ≠ TO ∧ c ≠ i1 ∧ c ≠ i2)
    (hz : IsZip s.heap z TI TO .none) (hTI : IsTrip s.heap TI (.ref i1) (.ref i2) (.ref i3)) (hTO : IsTrip s.heap TO p q r)
    (h1 : S1 k s.heap) (h2 : S2 k s.heap) (h3 : S3 k s.heap) (hk1 : k < n1) (hk2 : k < n2) (hk3 : k < n3)
    (hQ : ∀ x y v h' tk, P1 k x → P2 k y → P3 k v → IsZip h' z TI TO (rawInt s.heap.objs.size) → IsTrip h' TO x y v → S1 (k + 1) h' → S2 (k + 1) h' → S3 (k + 1) h' → IsTrip h' s.heap.objs.size x y v → h'.objs.size = s.heap.objs.size + 1 →
      (∀ c o, c ≠ z → c ≠ TO → c ≠ i1 → c ≠ i2 → c ≠ i3 → s.heap.get? c = some o → h'.get? c = some o) → Q (.ref s.heap.objs.size) { s with heap := h', toks := tk }) :
    wpAny (model prog w) A (Builtin.«zip.__next__» ⟨[.ref z], []⟩) (fun fin s' => ∃ v, fin = .done (.ret v) ∧ Q v s') E s := by
  have g1 : ∀ i h h', S1 i h → (∀ c o, c ≠ z → c ≠ TO → c ≠ i2 → c ≠ i3 → h.get? c = some o → h'.get? c = some o) → S1 i h' := fun i h h' st hk => D1.frame i h h' st fun b hb o e => hk b o (o1 b hb).1 (o1 b hb).2.1 (o1 b hb).2.2.1 (o1 b hb).2.2.2 e
  have g2 : ∀ i h h', S2 i h → (∀ c o, c ≠ z → c ≠ TO → c ≠ i1 → c ≠ i3 → h.get? c = some o → h'.get? c = some o) → S2 i h' := fun i h h' st hk => D2.frame i h h' st fun b hb o e => hk b o (o2 b hb).1 (o2 b hb).2.1 (o2 b hb).2.2.1 (o2 b hb).2.2.2 e
  have g3 : ∀ i h h', S3 i h → (∀ c o, c ≠ z → c ≠ TO → c ≠ i1 → c ≠ i2 → h.get? c = some o → h'.get? c = some o) → S3 i h' := fun i h h' st hk => D3.frame i h h' st fun b hb o e => hk b o (o3 b hb).1 (o3 b hb).2.1 (o3 b hb).2.2.1 (o3 b hb).2.2.2 e
  show wpAny _ _ (field (.ref z) 2 >>= _) _ _ _
  refine wpAny_bind (wpAny_field hz rfl (x := .bool false) rfl ?_)
  show wpAny _ _ (field (.ref z) 3 >>= _) _ _ _
  refine wpAny_bind (wpAny_field hz rfl (x := .ref TI) rfl ?_)
  refine wpAny_bind (wpAny_seqItems hTI rfl ?_)
  show wpAny _ _ (Builtin.SmallTypes.ownedTupleIsFree (.ref z) >>= _) _ _ _
  refine wpAny_bind ?_
  unfold Builtin.SmallTypes.ownedTupleIsFree
  refine wpAny_bind (wpAny_field hz rfl (x := .none) rfl (wpAny_pure ?_))
  simp only [if_true]
  refine wpAny_bind (wpAny_rule ?_)
  refine wpAny_bind (wpAny_field hz rfl (x := .ref TO) rfl ?_)
  refine wpAny_bind (wpAny_setField_rec hz (by simp) fun ha hza sa => ?_)
  replace hza : IsZip ha z TI TO .ellipsis := hza
  refine wpAny_bind ?_
  simp only [List.zipIdx_cons, List.zipIdx_nil, List.forIn_cons, List.forIn_nil]
  -- the first
  refine wpAny_bind (wpAny_bind (wpAny_onRaise ?_))
  show wpAny _ _ (Builtin.SmallTypes.nextOf (.ref i1) >>= _) _ _ _
  refine wpAny_bind (D1.item k _ _ _ hk1 (g1 _ _ _ h1 fun c o c1 _ _ _ e => sa.extBut _ _ c1 e) fun x hb tb px sb1 sb => wpAny_pure ?_)
  replace sb : Heap.SameBut i1 ha hb := sb
  have tb1 : IsTrip hb TO p q r := sb.extBut _ _ F.TO1 (sa.extBut _ _ F.TOz hTO)
  refine wpAny_bind (wpAny_seqItems tb1 rfl ?_)
  refine wpAny_bind (upd_trip tb1 fun hc tc sc => ?_)
  replace tc : IsTrip hc TO x q r := tc
  replace sc : Heap.SameBut TO hb hc := sc
  refine wpAny_bind (wpAny_letGo (wpAny_pure ?_))
  -- the second
  refine wpAny_bind (wpAny_bind (wpAny_onRaise ?_))
  show wpAny _ _ (Builtin.SmallTypes.nextOf (.ref i2) >>= _) _ _ _
  refine wpAny_bind (D2.item k _ _ _ hk2 (g2 _ _ _ h2 fun c o c1 c2 c3 _ e => sc.extBut _ _ c2 (sb.extBut _ _ c3 (sa.extBut _ _ c1 e))) fun y hd td py sd2 sd => wpAny_pure ?_)
  replace sd : Heap.SameBut i2 hc hd := sd
  have td1 : IsTrip hd TO x q r := sd.extBut _ _ F.TO2 tc
  refine wpAny_bind (wpAny_seqItems td1 rfl ?_)
  refine wpAny_bind (upd_trip td1 fun he te se => ?_)
  replace te : IsTrip he TO x y r := te
  replace se : Heap.SameBut TO hd he := se
  refine wpAny_bind (wpAny_letGo (wpAny_pure ?_))
  -- the third
  refine wpAny_bind (wpAny_bind (wpAny_onRaise ?_))
  show wpAny _ _ (Builtin.SmallTypes.nextOf (.ref i3) >>= _) _ _ _
  refine wpAny_bind (D3.item k _ _ _ hk3 (g3 _ _ _ h3 fun c o c1 c2 c3 c4 e => se.extBut _ _ c2 (sd.extBut _ _ c4 (sc.extBut _ _ c2 (sb.extBut _ _ c3 (sa.extBut _ _ c1 e))))) fun v hf tf pv sf3 sf => wpAny_pure ?_)
  replace sf : Heap.SameBut i3 he hf := sf
  have tf1 : IsTrip hf TO x y r := sf.extBut _ _ F.TO3 te
  refine wpAny_bind (wpAny_seqItems tf1 rfl ?_)
  refine wpAny_bind (upd_trip tf1 fun hg tg sg => ?_)
  replace tg : IsTrip hg TO x y v := tg
  replace sg : Heap.SameBut TO hf hg := sg
  refine wpAny_bind (wpAny_letGo (wpAny_pure (wpAny_pure ?_)))
  refine wpAny_bind (wpAny_seqItems tg rfl ?_)
  refine wpAny_bind (wpAny_newTuple ?_)
  have hsz : hg.objs.size = s.heap.objs.size := by rw [sg.1, sf.1, se.1, sd.1, sc.1, sb.1, sa.1]
  have zg : IsZip hg z TI TO .ellipsis := sg.extBut _ _ F.TOz.symm (sf.extBut _ _ F.i3z.symm (se.extBut _ _ F.TOz.symm (sd.extBut _ _ F.i2z.symm (sc.extBut _ _ F.TOz.symm (sb.extBut _ _ F.i1z.symm hza)))))
  have kg : ∀ c o, c ≠ z → c ≠ TO → c ≠ i1 → c ≠ i2 → c ≠ i3 → s.heap.get? c = some o → hg.get? c = some o := fun c o c1 c2 c3 c4 c5 e =>
    sg.extBut _ _ c2 (sf.extBut _ _ c5 (se.extBut _ _ c2 (sd.extBut _ _ c4 (sc.extBut _ _ c2 (sb.extBut _ _ c3 (sa.extBut _ _ c1 e))))))
  have t1 : S1 (k + 1) hg := g1 _ _ _ sb1 fun c o _ c2 c3 c4 e => sg.extBut _ _ c2 (sf.extBut _ _ c4 (se.extBut _ _ c2 (sd.extBut _ _ c3 (sc.extBut _ _ c2 e))))
  have t2 : S2 (k + 1) hg := g2 _ _ _ sd2 fun c o _ c2 _ c4 e => sg.extBut _ _ c2 (sf.extBut _ _ c4 (se.extBut _ _ c2 e))
  have t3 : S3 (k + 1) hg := g3 _ _ _ sf3 fun c o _ c2 _ _ e => sg.extBut _ _ c2 e
  have zlt : z < hg.objs.size := Heap.lt_size zg
  show wpAny _ _ (Builtin.SmallTypes.ownedTupleHandOut (.ref z) (.ref hg.objs.size) >>= _) _ _ _
  refine wpAny_bind ?_
  unfold Builtin.SmallTypes.ownedTupleHandOut
  have zh : IsZip (hg.push { cls := .type "tuple", data := .seq #[x, y, v] }) z TI TO .ellipsis := Heap.get?_push_of_some _ zg
  refine wpAny_bind (wpAny_setField_rec zh (by simp) fun hi zi si => ?_)
  replace zi : IsZip hi z TI TO (rawInt hg.objs.size) := zi
  replace si : Heap.SameBut z (hg.push { cls := .type "tuple", data := .seq #[x, y, v] }) hi := si
  refine wpAny_setField_rec zi (by simp) fun hj zj sj => ?_
  replace zj : IsZip hj z TI TO (rawInt hg.objs.size) := zj
  replace sj : Heap.SameBut z hi hj := sj
  have up : ∀ c o, c ≠ z → hg.get? c = some o → hj.get? c = some o := fun c o c1 e => sj.extBut _ _ c1 (si.extBut _ _ c1 (Heap.get?_push_of_some _ e))
  have tj : IsTrip hj hg.objs.size x y v := sj.extBut _ _ (Nat.ne_of_gt zlt) (si.extBut _ _ (Nat.ne_of_gt zlt) (Heap.get?_push_size _ rfl))
  have zs : hj.objs.size = hg.objs.size + 1 := by rw [sj.1, si.1, Heap.size_push]
  rw [hsz] at zj tj zs
  refine wpAny_pure ⟨_, rfl, ?_⟩
  show Q (.ref hg.objs.size) _
  rw [hsz]
  exact hQ x y v hj tf px py pv zj (up _ _ F.TOz tg) (g1 _ _ _ t1 fun c o c1 _ _ _ e => up c o c1 e) (g2 _ _ _ t2 fun c o c1 _ _ _ e => up c o c1 e) (g3 _ _ _ t3 fun c o c1 _ _ _ e => up c o c1 e) tj zs fun c o c1 c2 c3 c4 c5 e => up c o c1 (kg c o c1 c2 c3 c4 c5 e)
/-- three of the same length: it ends at the first -/
theorem zip3_end {z TI TO i1 i2 i3 : Addr} {n1 : Nat} {P1 : Nat → Value → Prop} {S1 : Nat → Heap → Prop} {f1 : List Addr} {Q : Fin → Shared → Prop} (F : Far3 z TI TO i1 i2 i3)
    (D1 : Draws prog w A i1 f1 n1 P1 S1) (o1 : ∀ c ∈ f1, c ≠ z) (hz : IsZip s.heap z TI TO .none) (hTI : IsTrip s.heap TI (.ref i1) (.ref i2) (.ref i3)) (h1 : S1 n1 s.heap)
    (hE : ∀ h' tk e, (∀ c o, c ≠ z → c ≠ i1 → s.heap.get? c = some o → h'.get? c = some o) → (∃ o, h'.get? e = some o ∧ o.cls = .type "StopIteration") → E (.ref e) { s with heap := h', toks := tk }) :
    wpAny (model prog w) A (Builtin.«zip.__next__» ⟨[.ref z], []⟩) Q E s := by
  show wpAny _ _ (field (.ref z) 2 >>= _) _ _ _
  refine wpAny_bind (wpAny_field hz rfl (x := .bool false) rfl ?_)
  show wpAny _ _ (field (.ref z) 3 >>= _) _ _ _
  refine wpAny_bind (wpAny_field hz rfl (x := .ref TI) rfl ?_)
  refine wpAny_bind (wpAny_seqItems hTI rfl ?_)
  show wpAny _ _ (Builtin.SmallTypes.ownedTupleIsFree (.ref z) >>= _) _ _ _
  refine wpAny_bind ?_
  unfold Builtin.SmallTypes.ownedTupleIsFree
  refine wpAny_bind (wpAny_field hz rfl (x := .none) rfl (wpAny_pure ?_))
  simp only [if_true]
  refine wpAny_bind (wpAny_rule ?_)
  refine wpAny_bind (wpAny_field hz rfl (x := .ref TO) rfl ?_)
  refine wpAny_bind (wpAny_setField_rec hz (by simp) fun ha hza sa => ?_)
  replace hza : IsZip ha z TI TO .ellipsis := hza
  refine wpAny_bind ?_
  simp only [List.zipIdx_cons, List.zipIdx_nil, List.forIn_cons, List.forIn_nil]
  refine wpAny_bind (wpAny_bind (wpAny_onRaise ?_))
  show wpAny _ _ (Builtin.SmallTypes.nextOf (.ref i1) >>= _) _ _ _
  refine wpAny_bind (D1.done _ _ _ (D1.frame _ _ _ h1 fun b hb o e => sa.extBut _ _ (o1 b hb) e) fun hb e sb he => ?_)
  obtain ⟨oe, hoe, hce⟩ := he
  replace sb : Heap.ExtBut i1 ha hb := sb
  have zb : IsZip hb z TI TO .ellipsis := sb _ _ F.i1z.symm hza
  have hez : e ≠ z := fun x => by subst x; rw [zb] at hoe; cases hoe; simp at hce
  exact wpAny_setField_rec zb (by simp) fun hc _ sc => hE hc _ e (fun c o c1 c3 x => sc.extBut _ _ c1 (sb _ _ c3 (sa.extBut _ _ c1 x))) ⟨oe, sc.extBut _ _ hez hoe, hce⟩
/-! zip(l1, l2, l3) is made -/
abbrev z3A (h : Heap) (l1 : Addr) : Heap := h.push { cls := .type "list_iterator", data := .fields #[.ref l1, .int 0 0] }
abbrev z3B (h : Heap) (l1 l2 : Addr) : Heap := (z3A h l1).push { cls := .type "list_iterator", data := .fields #[.ref l2, .int 0 0] }
abbrev z3C (h : Heap) (l1 l2 l3 : Addr) : Heap := (z3B h l1 l2).push { cls := .type "list_iterator", data := .fields #[.ref l3, .int 0 0] }
abbrev z3D (h : Heap) (l1 l2 l3 : Addr) : Heap := (z3C h l1 l2 l3).push { cls := .type "tuple", data := .seq #[.ref h.objs.size, .ref (z3A h l1).objs.size, .ref (z3B h l1 l2).objs.size] }
abbrev z3E (h : Heap) (l1 l2 l3 : Addr) : Heap := (z3D h l1 l2 l3).push { cls := .type "tuple", data := .seq #[.none, .none, .none] }
abbrev z3F (h : Heap) (l1 l2 l3 : Addr) : Heap := (z3E h l1 l2 l3).push { cls := .type "zip", data := .fields #[.none, .bool false, .bool false, .ref (z3C h l1 l2 l3).objs.size, .ref (z3D h l1 l2 l3).objs.size] }
theorem meets_zip3 (l1 l2 l3 : Addr) (xs ys us : Array Value) :
    Meets (Builtin.«zip.__new__» ⟨[.type "zip", .ref l1, .ref l2, .ref l3], []⟩) (fun _ R s => s.heap.IsList l1 xs ∧ s.heap.IsList l2 ys ∧ s.heap.IsList l3 us ∧
      R (.ok (.ret (.ref (z3E s.heap l1 l2 l3).objs.size))) { s with heap := z3F s.heap l1 l2 l3 }) :=
  .of_wp fun prog w A R s h => by
    obtain ⟨hp, g, d, tk, os⟩ := s
    obtain ⟨a1, a2, a3, h⟩ := h
    have hsub := sub_zip
    have b1 : Heap.IsList (Shared.heap ⟨hp, g, d, tk, os⟩) l1 xs := a1
    have b2 : Heap.IsList (Shared.heap ⟨hp.push { cls := .type "list_iterator", data := .fields #[.ref l1, .int 0 0] }, g, d, tk, os⟩) l2 ys := Heap.IsList.push a2 _
    have b3 : Heap.IsList (Shared.heap ⟨(hp.push { cls := .type "list_iterator", data := .fields #[.ref l1, .int 0 0] }).push { cls := .type "list_iterator", data := .fields #[.ref l2, .int 0 0] }, g, d, tk, os⟩) l3 us := Heap.IsList.push (Heap.IsList.push a3 _) _
    wp_walk using wpAny_pyIter_list b1, wpAny_pyIter_list b2, wpAny_pyIter_list b3
    exact ⟨_, rfl, h⟩
theorem call_zip3 {l1 l2 l3 : Addr} {xs ys us : Array Value} {Q : Value → Shared → Prop} (a1 : s.heap.IsList l1 xs) (a2 : s.heap.IsList l2 ys) (a3 : s.heap.IsList l3 us)
    (h : ∀ h', IsZip h' (s.heap.objs.size + 5) (s.heap.objs.size + 3) (s.heap.objs.size + 4) .none → IsTrip h' (s.heap.objs.size + 3) (.ref s.heap.objs.size) (.ref (s.heap.objs.size + 1)) (.ref (s.heap.objs.size + 2)) →
      IsTrip h' (s.heap.objs.size + 4) .none .none .none → h'.IsListIter s.heap.objs.size l1 0 → h'.IsListIter (s.heap.objs.size + 1) l2 0 → h'.IsListIter (s.heap.objs.size + 2) l3 0 →
      (∀ c o, s.heap.get? c = some o → h'.get? c = some o) → Q (.ref (s.heap.objs.size + 5)) { s with heap := h' }) :
    wpAny (model prog w) A (call (.type "zip") [.ref l1, .ref l2, .ref l3]) Q E s := by
  refine callType_new F.called_zip (by decide) (z3_type _ _ _) (z3_new _ _ _) (fun obj => z3_init obj _ _ _) F.entry_zip_new (meets_zip3 l1 l2 l3 xs ys us) ⟨a1, a2, a3, ?_⟩
  have e1 : (z3A s.heap l1).objs.size = s.heap.objs.size + 1 := Heap.size_push ..
  have e2 : (z3B s.heap l1 l2).objs.size = s.heap.objs.size + 2 := by rw [Heap.size_push, e1]
  have e3 : (z3C s.heap l1 l2 l3).objs.size = s.heap.objs.size + 3 := by rw [Heap.size_push, e2]
  have e4 : (z3D s.heap l1 l2 l3).objs.size = s.heap.objs.size + 4 := by rw [Heap.size_push, e3]
  have e5 : (z3E s.heap l1 l2 l3).objs.size = s.heap.objs.size + 5 := by rw [Heap.size_push, e4]
  have k6 : (z3F s.heap l1 l2 l3).get? (z3E s.heap l1 l2 l3).objs.size = some _ := Heap.get?_push_size _ rfl
  have k5 : (z3F s.heap l1 l2 l3).get? (z3D s.heap l1 l2 l3).objs.size = some _ := Heap.get?_push_of_some _ (Heap.get?_push_size _ rfl)
  have k4 : (z3F s.heap l1 l2 l3).get? (z3C s.heap l1 l2 l3).objs.size = some _ := Heap.get?_push_of_some _ (Heap.get?_push_of_some _ (Heap.get?_push_size _ rfl))
  have k3 : (z3F s.heap l1 l2 l3).get? (z3B s.heap l1 l2).objs.size = some _ := Heap.get?_push_of_some _ (Heap.get?_push_of_some _ (Heap.get?_push_of_some _ (Heap.get?_push_size _ rfl)))
  have k2 : (z3F s.heap l1 l2 l3).get? (z3A s.heap l1).objs.size = some _ := Heap.get?_push_of_some _ (Heap.get?_push_of_some _ (Heap.get?_push_of_some _ (Heap.get?_push_of_some _ (Heap.get?_push_size _ rfl))))
  have k1 : (z3F s.heap l1 l2 l3).get? s.heap.objs.size = some _ := Heap.get?_push_of_some _ (Heap.get?_push_of_some _ (Heap.get?_push_of_some _ (Heap.get?_push_of_some _ (Heap.get?_push_of_some _ (Heap.get?_push_size _ rfl)))))
  show _ ∧ _
  rw [e3, e4, e5] at k6
  rw [e1, e2, e3] at k4
  rw [e4] at k5
  rw [e2] at k3
  rw [e1] at k2
  rw [e5]
  exact ⟨⟨_, k6, rfl⟩, h _ k6 k4 k5 ⟨_, k1, rfl, rfl⟩ ⟨_, k2, rfl, rfl⟩ ⟨_, k3, rfl, rfl⟩ fun c o x =>
    Heap.get?_push_of_some _ (Heap.get?_push_of_some _ (Heap.get?_push_of_some _ (Heap.get?_push_of_some _ (Heap.get?_push_of_some _ (Heap.get?_push_of_some _ x)))))⟩
end
/-- triples of items of three lists that are of one length: a new tuple each -/
def Iz3 (K : PySem.W.Frag) (a b c : Addr) : It :=
  ⟨fun i H => ∃ xs ys zs x y z, SqL K H a xs ∧ SqL K H b ys ∧ SqL K H c zs ∧ xs[i]? = some x ∧ ys[i]? = some y ∧ zs[i]? = some z,
   fun i H v H' => ∃ p x y z, H p = none ∧ (∀ xs, SqL K H a xs → xs[i]? = some x) ∧ (∀ ys, SqL K H b ys → ys[i]? = some y) ∧ (∀ zs, SqL K H c zs → zs[i]? = some z) ∧ v = .ref p ∧ H' = upd H p (.tup [x, y, z]),
   fun i H => ∃ xs, SqL K H a xs ∧ xs.length = i⟩
theorem lit_ne {h : Heap} {i l l' : Addr} {k : Nat} {xs : Array Value} (hi : h.IsListIter i l' k) (hl : h.IsList l xs) : l ≠ i := by
  obtain ⟨o1, e1, c1, _⟩ := hi
  obtain ⟨p1, q1, d1, _⟩ := hl
  exact ne_cls q1 e1 (by rw [d1, c1]; intro z; injection z with z; revert z; decide)
theorem ltp_ne {h : Heap} {t l : Addr} {o : Obj} {xs : Array Value} (ht : h.get? t = some o) (hc : o.cls = .type "tuple" ∨ o.cls = .type "zip") (hl : h.IsList l xs) : l ≠ t := by
  obtain ⟨p1, q1, d1, _⟩ := hl
  refine ne_cls q1 ht ?_
  rw [d1]
  rcases hc with e | e <;> (rw [e]; intro z; injection z with z; revert z; decide)
theorem turn_zip3 {P : Program} {w : World} {K : PySem.W.Frag} {es : List Expr} {k : Nat} {pos : Pos} {z TI TO i1 i2 i3 l1 l2 l3 : Addr} (F : Far3 z TI TO i1 i2 i3) :
    Turn P w K (.Tuple es k pos) (Iz3 K l1 l2 l3) [z, TI, TO, i1, i2, i3] z (fun i h => IsZip h z TI TO .none ∧ IsTrip h TI (.ref i1) (.ref i2) (.ref i3) ∧ (∃ a b c, IsTrip h TO a b c) ∧ h.IsListIter i1 l1 i ∧ h.IsListIter i2 l2 i ∧ h.IsListIter i3 l3 i) where
  mem := by simp
  obj := fun i h st b hb => by
    obtain ⟨hz, hTI, ⟨a, b', c', hTO⟩, ⟨o1, e1, c1, d1⟩, ⟨o2, e2, c2, d2⟩, o3, e3, c3, d3⟩ := st
    simp only [List.mem_cons, List.not_mem_nil, or_false] at hb
    rcases hb with rfl | rfl | rfl | rfl | rfl | rfl
    · exact ⟨_, hz, fun v q => by cases q⟩
    · exact ⟨_, hTI, fun v q => by cases q⟩
    · exact ⟨_, hTO, fun v q => by cases q⟩
    · exact ⟨o1, e1, fun v q => by rw [d1] at q; cases q⟩
    · exact ⟨o2, e2, fun v q => by rw [d2] at q; cases q⟩
    · exact ⟨o3, e3, fun v q => by rw [d3] at q; cases q⟩
  keep := fun i h h' st kk => by
    obtain ⟨hz, hTI, ⟨a, b', c', hTO⟩, ⟨o1, e1, r1⟩, ⟨o2, e2, r2⟩, o3, e3, r3⟩ := st
    exact ⟨kk z (by simp) _ hz, kk TI (by simp) _ hTI, ⟨a, b', c', kk TO (by simp) _ hTO⟩, ⟨o1, kk i1 (by simp) _ e1, r1⟩, ⟨o2, kk i2 (by simp) _ e2, r2⟩, o3, kk i3 (by simp) _ e3, r3⟩
  item := by
    intro X hP hw hK hc i pins s σ H E I hf st hg
    subst hP hw hK
    obtain ⟨hz, hTI, ⟨a, b, c, hTO⟩, h1, h2, h3⟩ := st
    obtain ⟨xs, ys, us, x, y, v, hq1, hq2, hq3, hx, hy, hv⟩ := hg
    obtain ⟨ia, ra, pa, _⟩ := I.list hq1
    obtain ⟨ib, rb, pb, _⟩ := I.list hq2
    obtain ⟨ic, rc, pc, _⟩ := I.list hq3
    obtain ⟨x', hx', rx⟩ := ra.get hx
    obtain ⟨y', hy', ry⟩ := rb.get hy
    obtain ⟨v', hv', rv⟩ := rc.get hv
    have hh : X.A.in1.handled = none := I.ok.hd hc
    have hT : s.TypeIs (.ref z) "zip" := ⟨_, hz, rfl⟩
    have D1 := Draws.list (prog := X.prog) (w := X.w) hh i1 l1 (lit_ne h1 pa.isList) ia.toArray
    have D2 := Draws.list (prog := X.prog) (w := X.w) hh i2 l2 (lit_ne h2 pb.isList) ib.toArray
    have D3 := Draws.list (prog := X.prog) (w := X.w) hh i3 l3 (lit_ne h3 pc.isList) ic.toArray
    have lz : ∀ {l : Addr} {zs : Array Value}, s.heap.IsList l zs → l ≠ z ∧ l ≠ TO ∧ l ≠ i1 ∧ l ≠ i2 ∧ l ≠ i3 := fun q => ⟨ltp_ne hz (.inr rfl) q, ltp_ne hTO (.inl rfl) q, lit_ne h1 q, lit_ne h2 q, lit_ne h3 q⟩
    have q1 := lz pa.isList
    have q2 := lz pb.isList
    have q3 := lz pc.isList
    unfold pyNext
    refine wpAny_bind (wpAny_attempt (wpAny_callSpecial?_slot (name := Str.ofString "__next__") hT PySem.F.slot_zip_next (wpAny_call_entry PySem.F.slot_zip_next hT PySem.F.entry_zip_next
      (zip3_item F D1 D2 D3 (fun q hq => ?_) (fun q hq => ?_) (fun q hq => ?_) hz hTI hTO ⟨h1, pa.isList⟩ ⟨h2, pb.isList⟩ ⟨h3, pc.isList⟩ (by simpa using (List.getElem?_eq_some_iff.mp hx').1) (by simpa using (List.getElem?_eq_some_iff.mp hy').1) (by simpa using (List.getElem?_eq_some_iff.mp hv').1) fun x2 y2 v2 h' tk gx gy gv a1 a2 a3 a4 a4' a5 a6 kp => wpAny_pure ?_) (PySem.F.args_zip_next_1 _))))
    · simp only [List.mem_cons, List.not_mem_nil, or_false] at hq
      rcases hq with rfl | rfl
      · exact ⟨F.i1z, F.TO1.symm, F.i12, F.i13⟩
      · exact ⟨q1.1, q1.2.1, q1.2.2.2.1, q1.2.2.2.2⟩
    · simp only [List.mem_cons, List.not_mem_nil, or_false] at hq
      rcases hq with rfl | rfl
      · exact ⟨F.i2z, F.TO2.symm, F.i12.symm, F.i23⟩
      · exact ⟨q2.1, q2.2.1, q2.2.2.1, q2.2.2.2.2⟩
    · simp only [List.mem_cons, List.not_mem_nil, or_false] at hq
      rcases hq with rfl | rfl
      · exact ⟨F.i3z, F.TO3.symm, F.i13.symm, F.i23.symm⟩
      · exact ⟨q3.1, q3.2.1, q3.2.2.1, q3.2.2.2.1⟩
    obtain rfl : x2 = x' := Option.some.inj ((show ia.toArray[i]? = some x2 from gx).symm.trans (by simpa using hx'))
    obtain rfl : y2 = y' := Option.some.inj ((show ib.toArray[i]? = some y2 from gy).symm.trans (by simpa using hy'))
    obtain rfl : v2 = v' := Option.some.inj ((show ic.toArray[i]? = some v2 from gv).symm.trans (by simpa using hv'))
    refine ⟨_, rfl, ?_⟩
    refine wpAny_letOwnedTupleGo_zip (s := { s with heap := h', toks := tk }) a1 fun h2' hz' hs' => ?_
    replace hs' : Heap.SameBut z h' h2' := hs'
    have zlt : z < s.heap.objs.size := Heap.lt_size hz
    have far : ∀ q ∈ [z, TI, TO, i1, i2, i3], q < s.heap.objs.size := by
      intro q hq
      obtain ⟨o1, e1, _⟩ := h1
      obtain ⟨o2, e2, _⟩ := h2
      obtain ⟨o3, e3, _⟩ := h3
      simp only [List.mem_cons, List.not_mem_nil, or_false] at hq
      rcases hq with rfl | rfl | rfl | rfl | rfl | rfl
      · exact zlt
      · exact Heap.lt_size hTI
      · exact Heap.lt_size hTO
      · exact Heap.lt_size e1
      · exact Heap.lt_size e2
      · exact Heap.lt_size e3
    have fz := hf z (by simp)
    have fTO := hf TO (by simp)
    have f1 := hf i1 (by simp)
    have f2 := hf i2 (by simp)
    have f3 := hf i3 (by simp)
    have keepAll : ∀ b o, b ≠ z → b ≠ TO → b ≠ i1 → b ≠ i2 → b ≠ i3 → s.heap.get? b = some o → h2'.get? b = some o := fun b o b1 b2 b3 b4 b5 e => hs'.extBut _ _ b1 (kp b o b1 b2 b3 b4 b5 e)
    have hnew : H s.heap.objs.size = none := I.hok.fresh (Nat.le_refl _)
    have Tz : s.heap.objs.size ≠ z := Nat.ne_of_gt zlt
    have ht2 : h2'.get? s.heap.objs.size = some { cls := .type "tuple", data := .seq #[x2, y2, v2] } := hs'.extBut _ _ Tz a5
    have I2 : Inv X pins σ (upd H s.heap.objs.size (.tup [x, y, v])) { s with heap := h2', toks := tk } := by
      have nch : ∀ b, b ∉ [z, TO, i1, i2, i3] → b ≠ z ∧ b ≠ TO ∧ b ≠ i1 ∧ b ≠ i2 ∧ b ≠ i3 := fun b hb => by
        simp only [List.mem_cons, List.not_mem_nil, or_false, not_or] at hb
        exact hb
      have trk : ∀ b u', H b = some u' → b ≠ z ∧ b ≠ TO ∧ b ≠ i1 ∧ b ≠ i2 ∧ b ≠ i3 := fun b u' e =>
        ⟨fun q => (by rw [q, fz.1] at e; cases e), fun q => (by rw [q, fTO.1] at e; cases e), fun q => (by rw [q, f1.1] at e; cases e), fun q => (by rw [q, f2.1] at e; cases e), fun q => (by rw [q, f3.1] at e; cases e)⟩
      have okH : HOk X.prog X.w (upd H s.heap.objs.size (.tup [x, y, v])) h2' := fun b u' e => by
        by_cases hb : b = s.heap.objs.size
        · subst hb
          rw [upd_same] at e
          cases e
          exact ⟨(show 3 ≤ sizeLine by decide), [x2, y2, v2], .cons rx (.cons ry (.cons rv .nil)), ⟨_, ht2, rfl, _, rfl⟩⟩
        · rw [upd_ne hb] at e
          have hx := I.hok b u' e
          refine hx.stay (fun q o hq e2 => ?_) (fun q e2 => ?_) (fun q xs e2 => ?_)
          · rcases hq with rfl | hq
            · obtain ⟨b1, b2, b3, b4, b5⟩ := trk q _ e
              exact keepAll q o b1 b2 b3 b4 b5 e2
            · obtain ⟨b1, b2, b3, b4, b5⟩ := trk q _ hq
              exact keepAll q o b1 b2 b3 b4 b5 e2
          · rw [upd_ne (ne_of_none e2 hnew)]; exact e2
          · rw [upd_ne (ne_of_none e2 hnew)]; exact e2
      refine I.step (g' := s.gens) (d' := s.drawn) (ch := [z, TO, i1, i2, i3]) (fun b hb => ?_) (fun b o _ _ hcb e n => ?_) (fun b o _ _ hcb e n => ?_) (fun b o hcb e n => ?_) (fun b o hcb e => ?_) (fun b xs e => ?_) (fun b o u' e => ?_) (fun b ps e => ?_) (fun m hm => ?_) okH I.bare
      · simp only [List.mem_cons, List.not_mem_nil, or_false] at hb
        rcases hb with rfl | rfl | rfl | rfl | rfl
        · exact ⟨fz.2.2.2.1, fz.2.1, fz.2.2.2.2.1, fz.2.2.2.2.2⟩
        · exact ⟨fTO.2.2.2.1, fTO.2.1, fTO.2.2.2.2.1, fTO.2.2.2.2.2⟩
        · exact ⟨f1.2.2.2.1, f1.2.1, f1.2.2.2.2.1, f1.2.2.2.2.2⟩
        · exact ⟨f2.2.2.2.1, f2.2.1, f2.2.2.2.2.1, f2.2.2.2.2.2⟩
        · exact ⟨f3.2.2.2.1, f3.2.1, f3.2.2.2.2.1, f3.2.2.2.2.2⟩
      · obtain ⟨b1, b2, b3, b4, b5⟩ := nch b hcb
        exact keepAll b o b1 b2 b3 b4 b5 e
      · obtain ⟨b1, b2, b3, b4, b5⟩ := nch b hcb
        exact ⟨o.slots, keepAll b o b1 b2 b3 b4 b5 e⟩
      · rw [upd_ne (Nat.ne_of_lt (Heap.lt_size e))]; exact n
      · obtain ⟨b1, b2, b3, b4, b5⟩ := nch b hcb
        exact ⟨o, keepAll b o b1 b2 b3 b4 b5 e⟩
      · rw [upd_ne (ne_of_none e hnew)]; exact e
      · rw [upd_ne (ne_of_none e hnew)]; exact e
      · exact ⟨#[], by rw [upd_ne (ne_of_none e hnew), e]; simp⟩
      · obtain ⟨o, es', ep, ho, r⟩ := hm
        exact ⟨o, es', ep, keepAll _ o fz.2.1.symm fTO.2.1.symm f1.2.1.symm f2.2.1.symm f3.2.1.symm ho, r⟩
    refine ⟨.ref s.heap.objs.size, _, I2, rfl, ⟨_, x, y, v, hnew, fun zs hz => by rw [I.list_inj hz hq1]; exact hx, fun zs hz => by rw [I.list_inj hz hq2]; exact hy, fun zs hz => by rw [I.list_inj hz hq3]; exact hv, rfl, rfl⟩, ⟨hz', hs'.extBut _ _ F.TIz (kp _ _ F.TIz F.TITO F.TI1 F.TI2 F.TI3 hTI), ⟨_, _, _, hs'.extBut _ _ F.TOz a2⟩, ?_, ?_, ?_⟩, fun b hb => ?_⟩
    · obtain ⟨⟨o, e, r⟩, _⟩ := a3; exact ⟨o, hs'.extBut _ _ F.i1z e, r⟩
    · obtain ⟨⟨o, e, r⟩, _⟩ := a4; exact ⟨o, hs'.extBut _ _ F.i2z e, r⟩
    · obtain ⟨⟨o, e, r⟩, _⟩ := a4'; exact ⟨o, hs'.extBut _ _ F.i3z e, r⟩
    · rw [upd_ne (Nat.ne_of_lt (far b hb))]; exact (hf b hb).1
  done := by
    intro X hP hw hK hc i pins s σ H E I hf st hg
    subst hP hw hK
    obtain ⟨hz, hTI, ⟨a, b, c, hTO⟩, h1, h2, h3⟩ := st
    obtain ⟨xs, hq1, hl⟩ := hg
    obtain ⟨ia, ra, pa, _⟩ := I.list hq1
    have la := ra.length
    have hh : X.A.in1.handled = none := I.ok.hd hc
    have hT : s.TypeIs (.ref z) "zip" := ⟨_, hz, rfl⟩
    have D1 := Draws.list (prog := X.prog) (w := X.w) hh i1 l1 (lit_ne h1 pa.isList) ia.toArray
    have hn : ia.toArray.size = i := by rw [List.size_toArray]; omega
    unfold pyNext
    refine wpAny_bind (wpAny_attempt (wpAny_callSpecial?_slot (name := Str.ofString "__next__") hT PySem.F.slot_zip_next (wpAny_call_entry PySem.F.slot_zip_next hT PySem.F.entry_zip_next
      (zip3_end F D1 (fun q hq => ?_) hz hTI ⟨by rw [hn]; exact h1, pa.isList⟩ fun h' tk e kp he => ?_) (PySem.F.args_zip_next_1 _))))
    · simp only [List.mem_cons, List.not_mem_nil, or_false] at hq
      rcases hq with rfl | rfl
      · exact F.i1z
      · exact ltp_ne hz (.inr rfl) pa.isList
    obtain ⟨o, ho, hc'⟩ := he
    refine wpAny_bind (wpAny_isInstance (T := "StopIteration") (b := true) ⟨o, ho, hc'⟩ isSubtype_stop ?_)
    refine wpAny_pure ⟨rfl, ?_⟩
    refine I.turnedN (ch := [z, i1]) (fun b o hb q => ?_) fun b hb => hf b ?_
    · simp only [List.mem_cons, List.not_mem_nil, or_false, not_or] at hb
      exact kp b o hb.1 hb.2 q
    · simp only [List.mem_cons, List.not_mem_nil, or_false] at hb ⊢
      rcases hb with q | q
      · exact .inl q
      · exact .inr (.inr (.inr (.inl q)))
  self := fun _ _ _ _ _ st h => wpAny_pyIter_zip st.1 h
theorem Vals.three : ∀ {x y z : V} {us : List Value}, Vals [x, y, z] us → ∃ u v t, us = [u, v, t] ∧ RelV x u ∧ RelV y v ∧ RelV z t
  | _, _, _, _, .cons r (.cons q (.cons p .nil)) => ⟨_, _, _, rfl, r, q, p⟩
def iZip3 (K : PySem.W.Frag) (ta : TA) : TI := fun σ H R => ta σ H fun vs H1 => ∃ a b c, vs = [.ref a, .ref b, .ref c] ∧ (∃ xs, SqL K H1 a xs) ∧ (∃ ys, SqL K H1 b ys) ∧ (∃ zs, SqL K H1 c zs) ∧ R (Iz3 K a b c) H1
theorem pi_zip3K {X : Cx} {es : List Expr} {k : Nat} {tpos : Pos} {K : PySem.W.Frag} {a b c : Expr} {ta : TA} {p pos : Pos} (hK : X.K = K) (hg : Gl X "zip") (hm : X.mg "zip" = none) (ha : PA X [a, b, c] ta) (hv : bootBuiltins "zip" = some (.type "zip") := by decide +kernel)
    (hs : starEach [a, b, c] X.env = [(false, eval a X.env), (false, eval b X.env), (false, eval c X.env)] := by rfl) (hs2 : starEach [b, c] X.env = [(false, eval b X.env), (false, eval c X.env)] := by rfl) :
    PI X (.Tuple es k tpos) (.Call (.Name "zip" p) [a, b, c] [] pos) (iZip3 K ta) := by
  subst hK
  intro pins s σ H R I h
  refine Call_ (ld_blt I hg hm hv (PyProof.Rows.callWith_type1 (thn (ha pos pins s σ H _ I h) fun us s1 ⟨vs, H1, I1, r1, q1⟩ => ?_) (by rw [hs, hs2]) (by rw [hs2]; rfl)))
  obtain ⟨l1, l2, l3, e, ⟨xs, hq1⟩, ⟨ys, hq2⟩, ⟨zs, hq3⟩, q⟩ := q1
  subst e
  obtain ⟨u, v, t, rfl, ru, rv, rt⟩ := r1.three
  cases ru; cases rv; cases rt
  obtain ⟨ia, ra, pa, _⟩ := I1.list hq1
  obtain ⟨ib, rb, pb, _⟩ := I1.list hq2
  obtain ⟨ic, rc, pc, _⟩ := I1.list hq3
  refine call_zip3 pa.isList pb.isList pc.isList fun h' a1 a2 a3 a4 a5 a6 kp => ?_
  have I2 : Inv X pins σ H1 { s1 with heap := h' } := I1.kept (t' := s1.toks) kp
  refine wpAny_pyIter_zip a1 ⟨s1.heap.objs.size + 5, [s1.heap.objs.size + 5, s1.heap.objs.size + 3, s1.heap.objs.size + 4, s1.heap.objs.size, s1.heap.objs.size + 1, s1.heap.objs.size + 2], _, _, H1, rfl, I2, turn_zip3 (far3_new _), ⟨a1, a2, ⟨_, _, _, a3⟩, a4, a5, a6⟩, fun b hb => ?_, q⟩
  have hb' : s1.heap.objs.size ≤ b := by
    simp only [List.mem_cons, List.not_mem_nil, or_false] at hb
    rcases hb with rfl | rfl | rfl | rfl | rfl | rfl
    · exact Nat.le_add_right _ _
    · exact Nat.le_add_right _ _
    · exact Nat.le_add_right _ _
    · exact Nat.le_refl _
    · exact Nat.le_add_right _ _
    · exact Nat.le_add_right _ _
  exact I1.fpOk hb' (I1.hok.fresh hb')
/-- for x, y, z in zip(a, b, c): lists of one length that stay -/
theorem for_zip3 {K : PySem.W.Frag} {a b c : Addr} {xs ys zs : List V} {g : TG} {tb : TS} {D : Ends} {σ : St} {H : Hp} (Pv : Nat → St → Hp → Prop) (ly : ys.length = xs.length) (lz : zs.length = xs.length) (h0 : Pv 0 σ H) (hl : ∀ i σ H, i ≤ xs.length → Pv i σ H → SqL K H a xs ∧ SqL K H b ys ∧ SqL K H c zs)
    (hs : ∀ i x y z p σ H, xs[i]? = some x → ys[i]? = some y → zs[i]? = some z → H p = none → Pv i σ H → g (.ref p) σ (upd H p (.tup [x, y, z])) fun σ2 H2 => tb { D with nx := Pv (i + 1), ct := Pv (i + 1), bk := D.nx } σ2 H2) (hd : ∀ σ H, Pv xs.length σ H → D.nx σ H) :
    ∃ W : Nat → Nat → St → Hp → Prop, (∃ m, W 0 m σ H) ∧ ∀ i m σ H, W i m σ H →
      ((Iz3 K a b c).stop i H ∧ D.nx σ H) ∨ ((Iz3 K a b c).go i H ∧ ∃ N : St → Hp → Prop, (∀ σ' H', N σ' H' → ∃ m', m' < m ∧ W (i + 1) m' σ' H') ∧ ∀ x H', (Iz3 K a b c).yld i H x H' → g x σ H' fun σ2 H2 => tb { D with nx := N, ct := N, bk := D.nx } σ2 H2) := by
  refine ⟨fun i m σ H => m = xs.length - i ∧ i ≤ xs.length ∧ Pv i σ H, ⟨xs.length, by simp, Nat.zero_le _, h0⟩, ?_⟩
  rintro i m σ H ⟨rfl, hi, p⟩
  obtain ⟨q1, q2, q3⟩ := hl i σ H hi p
  by_cases hlt : i < xs.length
  · refine .inr ⟨⟨xs, ys, zs, xs[i], ys[i]'(by omega), zs[i]'(by omega), q1, q2, q3, by simp [hlt], List.getElem?_eq_getElem _, List.getElem?_eq_getElem _⟩, Pv (i + 1), fun σ' H' p' => ⟨xs.length - (i + 1), by omega, rfl, hlt, p'⟩, fun x H' y => ?_⟩
    obtain ⟨r, u, v, t, hr, e1, e2, e3, rfl, rfl⟩ := y
    exact hs i u v t r σ H (e1 xs q1) (e2 ys q2) (e3 zs q3) hr p
  · have e : i = xs.length := by omega
    subst e
    exact .inl ⟨⟨xs, q1, rfl⟩, hd σ H p⟩
end L2

set_option linter.all false
set_option maxRecDepth 100000
set_option maxHeartbeats 4000000
/-! min of a list of numbers. -/
namespace L2
open PySem PySem.Spec PyProof.Rows
section
variable {X : Cx} {K : PySem.W.Frag}
theorem best_lt {xs : List (Int × Tok)} (h : 0 < xs.length) {v : Value} (e : (intItems xs.toArray)[argBest (fun i j => decide (numAt xs.toArray i < numAt xs.toArray j)) (xs.toArray.size - 1)]? = some v) :
    ∃ M t, v = .int M t ∧ M ∈ xs.map (·.1) ∧ ∀ a ∈ xs.map (·.1), M ≤ a := by
  obtain ⟨t, rfl⟩ := intItems_at e
  obtain ⟨h1, h2⟩ := argBest_lt (numAt xs.toArray) (xs.toArray.size - 1)
  have ez : xs.toArray.size = xs.length := List.size_toArray ..
  refine ⟨_, t, rfl, ?_, fun a ha => ?_⟩
  · rw [numAt_eq]
    exact getD_mem (by rw [List.length_map]; omega)
  · obtain ⟨j, hj, rfl⟩ := mem_getD ha
    rw [List.length_map] at hj
    have := h2 j (by omega)
    conv at this => rhs; rw [numAt_eq]
    exact this
/-- min(list of numbers) -/
theorem call_minL (hc : X.calm = true) (h : X.K = K) : CallR X (.builtin "min") (fun xs H Q => ∃ (D : Addr) (ns : List Int), xs = [.ref D] ∧ SqL K H D (ns.map V.int) ∧ 0 < ns.length ∧ ∀ M, M ∈ ns → (∀ a ∈ ns, M ≤ a) → Q (.int M) H) := by
  subst h
  intro pins s σ H xs us Q I r h
  obtain ⟨D, ns, rfl, hq, hn, q⟩ := h
  obtain ⟨u, rfl, ru⟩ := r.one
  cases ru
  obtain ⟨its, rv, pl, _⟩ := I.list hq
  obtain ⟨xs, rfl, rfl⟩ := ints_items rv
  have e : (xs.map fun p => Value.int p.1 p.2).toArray = intItems xs.toArray := by simp [intItems]
  rw [List.length_map] at hn
  refine min_intList (xs := xs.toArray) (I.ok.hd hc) (by rw [← e]; exact pl.isList) (by rw [List.size_toArray]; exact hn) fun v h' tk hv hk => ?_
  obtain ⟨M, t, rfl, m1, m2⟩ := best_lt hn hv
  exact ⟨.int M, H, I.kept (fun b o e => hk b o e), ⟨t, rfl⟩, q M m1 m2⟩
end
end L2

set_option maxHeartbeats 4000000

namespace K53
open PySem L2
def top (i : Nat) : Stmt := PySem.Challenge.pw_rotafair_k53_no_rota_below_a_floor.main.body.getD i (.Pass ⟨0, 0, 0, 0⟩)
abbrev s_Person_init : Stmt := inClass (top 5) 0
abbrev s_House_init : Stmt := inClass (top 6) 0
abbrev s_House_place_of : Stmt := inClass (top 6) 3
abbrev s_burdens_of : Stmt := top 13
abbrev s_wishes_by_place : Stmt := top 14
abbrev s_EvenCosts_init : Stmt := inClass (top 10) 0
abbrev s_ChangeCosts_init : Stmt := inClass (top 11) 0
abbrev s_LevelCosts_init : Stmt := inClass (top 12) 0
abbrev s_Costs_of_count : Stmt := inClass (top 9) 0
abbrev s_Costs_of_mark : Stmt := inClass (top 9) 1
abbrev s_EvenCosts_of_count : Stmt := inClass (top 10) 1
abbrev s_EvenCosts_of_mark : Stmt := inClass (top 10) 2
abbrev s_ChangeCosts_of_mark : Stmt := inClass (top 11) 1
abbrev s_LevelCosts_of_count : Stmt := inClass (top 12) 1
abbrev s_House_need : Stmt := inClass (top 6) 1
abbrev s_House_may : Stmt := inClass (top 6) 2
abbrev s_floor_of_need : Stmt := top 22
abbrev s_charges_by_place : Stmt := top 21
abbrev s_floor_of_counts : Stmt := top 23
abbrev s_floor_of_day : Stmt := top 24
abbrev s_Prices_init : Stmt := inClass (top 19) 0
abbrev s_Prices_floor : Stmt := inClass (top 19) 1
abbrev s_able_to_do : Stmt := top 20
abbrev s_Places_init : Stmt := inClass (top 18) 0
abbrev s_Places_floor : Stmt := inClass (top 18) 1
abbrev s_duties_in : Stmt := top 7
abbrev s_total_of : Stmt := top 15
abbrev s_law_cell_at : Stmt := top 26
abbrev s_law_drawn : Stmt := top 27
abbrev s_law_kinds : Stmt := top 29
abbrev s_law_names : Stmt := top 28
abbrev s_law_row : Stmt := top 30
abbrev s_law_leave : Stmt := top 34
abbrev s_law_duties : Stmt := top 31
abbrev s_law_person : Stmt := top 32
abbrev s_law_needs : Stmt := top 33
abbrev s_law_wishes : Stmt := top 35
abbrev s_law_house : Stmt := top 36
abbrev s_law_numbers : Stmt := top 39
abbrev s_law_costs : Stmt := top 38
abbrev s_law_total : Stmt := top 37
abbrev s_Paper_floor : Stmt := inClass (top 17) 0
abbrev s_law_papers : Stmt := top 40
abbrev s_law : Stmt := top 41
theorem sc_Person_init : FnScope ["self", "name", "skills", "most", "carried", "past"] ["self", "name", "skills", "most", "carried", "past"] (defScope s_Person_init) := ⟨rfl, rfl, rfl, by decide +kernel, rfl, by decide +kernel, by decide +kernel⟩
theorem sc_House_init : FnScope ["self", "days", "kinds", "needs", "persons", "leave", "wishes", "rules", "pairs"] ["self", "days", "kinds", "needs", "persons", "leave", "wishes", "rules", "pairs"] (defScope s_House_init) := ⟨rfl, rfl, rfl, by decide +kernel, rfl, by decide +kernel, by decide +kernel⟩
theorem sc_House_place_of : FnScope ["self", "name", "p", "person"] ["self", "name"] (defScope s_House_place_of) := ⟨rfl, rfl, rfl, by decide +kernel, rfl, by decide +kernel, by decide +kernel⟩
theorem sc_burdens_of : FnScope ["house"] ["house"] (defScope s_burdens_of) := ⟨rfl, rfl, rfl, by decide +kernel, rfl, by decide +kernel, by decide +kernel⟩
theorem sc_wishes_by_place : FnScope ["house", "wished", "name", "day", "marks"] ["house"] (defScope s_wishes_by_place) := ⟨rfl, rfl, rfl, by decide +kernel, rfl, by decide +kernel, by decide +kernel⟩
theorem sc_EvenCosts_init : FnScope ["self", "house"] ["self", "house"] (defScope s_EvenCosts_init) := ⟨rfl, rfl, rfl, by decide +kernel, rfl, by decide +kernel, by decide +kernel⟩
theorem sc_ChangeCosts_init : FnScope ["self", "house", "rota"] ["self", "house", "rota"] (defScope s_ChangeCosts_init) := ⟨rfl, rfl, rfl, by decide +kernel, rfl, by decide +kernel, by decide +kernel⟩
theorem sc_LevelCosts_init : FnScope ["self", "house", "level"] ["self", "house", "level"] (defScope s_LevelCosts_init) := ⟨rfl, rfl, rfl, by decide +kernel, rfl, by decide +kernel, by decide +kernel⟩
theorem sc_Costs_of_count : FnScope ["self", "p", "many"] ["self", "p", "many"] (defScope s_Costs_of_count) := ⟨rfl, rfl, rfl, by decide +kernel, rfl, by decide +kernel, by decide +kernel⟩
theorem sc_Costs_of_mark : FnScope ["self", "p", "day", "mark"] ["self", "p", "day", "mark"] (defScope s_Costs_of_mark) := ⟨rfl, rfl, rfl, by decide +kernel, rfl, by decide +kernel, by decide +kernel⟩
theorem sc_EvenCosts_of_count : FnScope ["self", "p", "many"] ["self", "p", "many"] (defScope s_EvenCosts_of_count) := ⟨rfl, rfl, rfl, by decide +kernel, rfl, by decide +kernel, by decide +kernel⟩
theorem sc_EvenCosts_of_mark : FnScope ["self", "p", "day", "mark"] ["self", "p", "day", "mark"] (defScope s_EvenCosts_of_mark) := ⟨rfl, rfl, rfl, by decide +kernel, rfl, by decide +kernel, by decide +kernel⟩
theorem sc_ChangeCosts_of_mark : FnScope ["self", "p", "day", "mark"] ["self", "p", "day", "mark"] (defScope s_ChangeCosts_of_mark) := ⟨rfl, rfl, rfl, by decide +kernel, rfl, by decide +kernel, by decide +kernel⟩
theorem sc_LevelCosts_of_count : FnScope ["self", "p", "many"] ["self", "p", "many"] (defScope s_LevelCosts_of_count) := ⟨rfl, rfl, rfl, by decide +kernel, rfl, by decide +kernel, by decide +kernel⟩
theorem sc_House_need : FnScope ["self", "day", "kind", "need_day", "need_kind", "least", "most"] ["self", "day", "kind"] (defScope s_House_need) := ⟨rfl, rfl, rfl, by decide +kernel, rfl, by decide +kernel, by decide +kernel⟩
theorem sc_House_may : FnScope ["self", "p", "day", "person", "able"] ["self", "p", "day"] (defScope s_House_may) := ⟨rfl, rfl, rfl, by decide +kernel, rfl, by decide +kernel, by decide +kernel⟩
theorem sc_floor_of_need : FnScope ["need", "price"] ["need", "price"] (defScope s_floor_of_need) := ⟨rfl, rfl, rfl, by decide +kernel, rfl, by decide +kernel, by decide +kernel⟩
theorem sc_charges_by_place : FnScope ["house", "prices", "charges", "need", "price"] ["house", "prices"] (defScope s_charges_by_place) := ⟨rfl, rfl, rfl, by decide +kernel, rfl, by decide +kernel, by decide +kernel⟩
theorem sc_floor_of_counts : FnScope ["house", "costs", "p", "price", "most"] ["house", "costs", "p", "price"] (defScope s_floor_of_counts) := ⟨rfl, rfl, rfl, by decide +kernel, rfl, by decide +kernel, by decide +kernel⟩
theorem sc_floor_of_day : FnScope ["house", "costs", "p", "day", "price", "charges", "kinds", "duties"] ["house", "costs", "p", "day", "price", "charges"] (defScope s_floor_of_day) := ⟨rfl, rfl, rfl, by decide +kernel, rfl, by decide +kernel, by decide +kernel⟩
theorem sc_Prices_init : FnScope ["self", "persons", "needs"] ["self", "persons", "needs"] (defScope s_Prices_init) := ⟨rfl, rfl, rfl, by decide +kernel, rfl, by decide +kernel, by decide +kernel⟩
theorem sc_Prices_floor : FnScope ["self", "house", "costs", "total", "charges", "p", "price"] ["self", "house", "costs"] (defScope s_Prices_floor) := ⟨rfl, rfl, rfl, by decide +kernel, rfl, by decide +kernel, by decide +kernel⟩
theorem sc_able_to_do : FnScope ["house", "p", "asked", "days"] ["house", "p", "asked"] (defScope s_able_to_do) := ⟨rfl, rfl, rfl, by decide +kernel, rfl, by decide +kernel, by decide +kernel⟩
theorem sc_Places_init : FnScope ["self", "places"] ["self", "places"] (defScope s_Places_init) := ⟨rfl, rfl, rfl, by decide +kernel, rfl, by decide +kernel, by decide +kernel⟩
theorem sc_Places_floor : FnScope ["self", "house", "costs", "asked", "least", "able"] ["self", "house", "costs"] (defScope s_Places_floor) := ⟨rfl, rfl, rfl, by decide +kernel, rfl, by decide +kernel, by decide +kernel⟩
theorem sc_duties_in : FnScope ["marks"] ["marks"] (defScope s_duties_in) := ⟨rfl, rfl, rfl, by decide +kernel, rfl, by decide +kernel, by decide +kernel⟩
theorem sc_total_of : FnScope ["house", "costs", "rota", "total", "p", "row"] ["house", "costs", "rota"] (defScope s_total_of) := ⟨rfl, rfl, rfl, by decide +kernel, rfl, by decide +kernel, by decide +kernel⟩
theorem sc_law_cell_at : FnScope ["_law_script", "_law_k"] ["_law_script", "_law_k"] (defScope s_law_cell_at) := ⟨rfl, rfl, rfl, by decide +kernel, rfl, by decide +kernel, by decide +kernel⟩
theorem sc_law_drawn : FnScope ["_law_cell", "_law_many", "_law_found", "_law_number", "_law_k"] ["_law_cell", "_law_many"] (defScope s_law_drawn) := ⟨rfl, rfl, rfl, by decide +kernel, rfl, by decide +kernel, by decide +kernel⟩
theorem sc_law_kinds : FnScope ["_law_cell", "_law_many", "_law_great"] ["_law_cell", "_law_many"] (defScope s_law_kinds) := ⟨rfl, rfl, rfl, by decide +kernel, rfl, by decide +kernel, by decide +kernel⟩
theorem sc_law_names : FnScope ["_law_cell", "_law_many", "_law_small", "_law_xs", "_law_size", "_law_at", "_law_base", "_law_names_here", "_law_k", "_law_name"] ["_law_cell", "_law_many"] (defScope s_law_names) := ⟨rfl, rfl, rfl, by decide +kernel, rfl, by decide +kernel, by decide +kernel⟩
theorem sc_law_row : FnScope ["_law_cell", "_law_kinds_here", "_law_days"] ["_law_cell", "_law_kinds_here", "_law_days"] (defScope s_law_row) := ⟨rfl, rfl, rfl, by decide +kernel, rfl, by decide +kernel, by decide +kernel⟩
theorem sc_law_leave : FnScope ["_law_cells", "_law_names_here", "_law_rows", "_law_leave_here", "_law_cell", "_law_name", "_law_row_here", "_law_day"] ["_law_cells", "_law_names_here", "_law_rows"] (defScope s_law_leave) := ⟨rfl, rfl, rfl, by decide +kernel, rfl, by decide +kernel, by decide +kernel⟩
theorem sc_law_duties : FnScope ["_law_row_here"] ["_law_row_here"] (defScope s_law_duties) := ⟨rfl, rfl, rfl, by decide +kernel, rfl, by decide +kernel, by decide +kernel⟩
theorem sc_law_person : FnScope ["_law_cell", "_law_name", "_law_row_here", "_law_kinds_here", "_law_far", "_law_xs", "_law_skills", "_law_carried"] ["_law_cell", "_law_name", "_law_row_here", "_law_kinds_here", "_law_far"] (defScope s_law_person) := ⟨rfl, rfl, rfl, by decide +kernel, rfl, by decide +kernel, by decide +kernel⟩
theorem sc_law_needs : FnScope ["_law_cell", "_law_kinds_here", "_law_days", "_law_rows", "_law_needs_here", "_law_day", "_law_xs", "_law_k", "_law_many", "_law_least"] ["_law_cell", "_law_kinds_here", "_law_days", "_law_rows"] (defScope s_law_needs) := ⟨rfl, rfl, rfl, by decide +kernel, rfl, by decide +kernel, by decide +kernel⟩
theorem sc_law_wishes : FnScope ["_law_cells", "_law_kinds_here", "_law_days", "_law_many", "_law_wishes_here", "_law_cell", "_law_xs", "_law_marks"] ["_law_cells", "_law_kinds_here", "_law_days", "_law_many"] (defScope s_law_wishes) := ⟨rfl, rfl, rfl, by decide +kernel, rfl, by decide +kernel, by decide +kernel⟩
theorem sc_law_house : FnScope ["_law_parts", "_law_wishes_here", "_law_people", "_law_wished"] ["_law_parts", "_law_wishes_here"] (defScope s_law_house) := ⟨rfl, rfl, rfl, by decide +kernel, rfl, by decide +kernel, by decide +kernel⟩
theorem sc_law_numbers : FnScope ["_law_cell", "_law_many", "_law_some"] ["_law_cell", "_law_many"] (defScope s_law_numbers) := ⟨rfl, rfl, rfl, by decide +kernel, rfl, by decide +kernel, by decide +kernel⟩
theorem sc_law_costs : FnScope ["_law_way", "_law_house_here", "_law_level", "_law_old"] ["_law_way", "_law_house_here", "_law_level", "_law_old"] (defScope s_law_costs) := ⟨rfl, rfl, rfl, by decide +kernel, rfl, by decide +kernel, by decide +kernel⟩
theorem sc_law_total : FnScope ["_law_way", "_law_parts", "_law_wishes_here", "_law_rows", "_law_level", "_law_old", "_law_whole", "_law_p", "_law_load"] ["_law_way", "_law_parts", "_law_wishes_here", "_law_rows", "_law_level", "_law_old"] (defScope s_law_total) := ⟨rfl, rfl, rfl, by decide +kernel, rfl, by decide +kernel, by decide +kernel⟩
theorem sc_Paper_floor : FnScope ["self", "house", "costs"] ["self", "house", "costs"] (defScope s_Paper_floor) := ⟨rfl, rfl, rfl, by decide +kernel, rfl, by decide +kernel, by decide +kernel⟩
theorem sc_law_papers : FnScope ["_law_cell", "_law_parts", "_law_numbers_here", "_law_others", "_law_places", "_law_some", "_law_nothing", "_law_papers_here"] ["_law_cell", "_law_parts"] (defScope s_law_papers) := ⟨rfl, rfl, rfl, by decide +kernel, rfl, by decide +kernel, by decide +kernel⟩
theorem sc_law : FnScope ["_law_script", "_law_first", "_law_cell", "_law_days", "_law_kinds_here", "_law_cells", "_law_names_here", "_law_rows", "_law_people", "_law_needs_here", "_law_parts", "_law_wishes_here", "_law_house_here", "_law_way", "_law_level", "_law_old", "_law_costs_here", "_law_total_here", "_law_paper", "_law_floor"] ["_law_script"] (defScope s_law) := ⟨rfl, rfl, rfl, by decide +kernel, rfl, by decide +kernel, by decide +kernel⟩
structure Tx (K : PySem.W.Frag) (mg : Str → Option Value) (C_Person C_House C_Costs C_EvenCosts C_ChangeCosts C_LevelCosts C_Paper C_Places C_Prices : Addr) : Prop where
  m_Person_init : MF K C_Person "__init__" "Person.__init__" s_Person_init
  m_House_init : MF K C_House "__init__" "House.__init__" s_House_init
  m_House_place_of : MF K C_House "place_of" "House.place_of" s_House_place_of
  f_burdens_of : GF K mg "burdens_of" s_burdens_of
  f_wishes_by_place : GF K mg "wishes_by_place" s_wishes_by_place
  m_EvenCosts_init : MF K C_EvenCosts "__init__" "EvenCosts.__init__" s_EvenCosts_init
  m_ChangeCosts_init : MF K C_ChangeCosts "__init__" "ChangeCosts.__init__" s_ChangeCosts_init
  m_LevelCosts_init : MF K C_LevelCosts "__init__" "LevelCosts.__init__" s_LevelCosts_init
  m_Costs_of_count : MF K C_Costs "of_count" "Costs.of_count" s_Costs_of_count
  m_ChangeCosts_of_count : MF K C_ChangeCosts "of_count" "Costs.of_count" s_Costs_of_count
  m_Costs_of_mark : MF K C_Costs "of_mark" "Costs.of_mark" s_Costs_of_mark
  m_LevelCosts_of_mark : MF K C_LevelCosts "of_mark" "Costs.of_mark" s_Costs_of_mark
  m_EvenCosts_of_count : MF K C_EvenCosts "of_count" "EvenCosts.of_count" s_EvenCosts_of_count
  m_EvenCosts_of_mark : MF K C_EvenCosts "of_mark" "EvenCosts.of_mark" s_EvenCosts_of_mark
  m_ChangeCosts_of_mark : MF K C_ChangeCosts "of_mark" "ChangeCosts.of_mark" s_ChangeCosts_of_mark
  m_LevelCosts_of_count : MF K C_LevelCosts "of_count" "LevelCosts.of_count" s_LevelCosts_of_count
  m_House_need : MF K C_House "need" "House.need" s_House_need
  m_House_may : MF K C_House "may" "House.may" s_House_may
  f_floor_of_need : GF K mg "floor_of_need" s_floor_of_need
  f_charges_by_place : GF K mg "charges_by_place" s_charges_by_place
  f_floor_of_counts : GF K mg "floor_of_counts" s_floor_of_counts
  f_floor_of_day : GF K mg "floor_of_day" s_floor_of_day
  m_Prices_init : MF K C_Prices "__init__" "Prices.__init__" s_Prices_init
  m_Prices_floor : MF K C_Prices "floor" "Prices.floor" s_Prices_floor
  f_able_to_do : GF K mg "able_to_do" s_able_to_do
  m_Places_init : MF K C_Places "__init__" "Places.__init__" s_Places_init
  m_Places_floor : MF K C_Places "floor" "Places.floor" s_Places_floor
  f_duties_in : GF K mg "duties_in" s_duties_in
  f_total_of : GF K mg "total_of" s_total_of
  f_law_cell_at : GF K mg "_law_cell_at" s_law_cell_at
  f_law_drawn : GF K mg "_law_drawn" s_law_drawn
  f_law_kinds : GF K mg "_law_kinds" s_law_kinds
  f_law_names : GF K mg "_law_names" s_law_names
  f_law_row : GF K mg "_law_row" s_law_row
  f_law_leave : GF K mg "_law_leave" s_law_leave
  f_law_duties : GF K mg "_law_duties" s_law_duties
  f_law_person : GF K mg "_law_person" s_law_person
  f_law_needs : GF K mg "_law_needs" s_law_needs
  f_law_wishes : GF K mg "_law_wishes" s_law_wishes
  f_law_house : GF K mg "_law_house" s_law_house
  f_law_numbers : GF K mg "_law_numbers" s_law_numbers
  f_law_costs : GF K mg "_law_costs" s_law_costs
  f_law_total : GF K mg "_law_total" s_law_total
  m_Paper_floor : MF K C_Paper "floor" "Paper.floor" s_Paper_floor
  f_law_papers : GF K mg "_law_papers" s_law_papers
  f_law : GF K mg "law" s_law
  c_Person : CF K mg "Person" C_Person
  c_House : CF K mg "House" C_House
  c_Costs : CF K mg "Costs" C_Costs
  c_EvenCosts : CF K mg "EvenCosts" C_EvenCosts
  c_ChangeCosts : CF K mg "ChangeCosts" C_ChangeCosts
  c_LevelCosts : CF K mg "LevelCosts" C_LevelCosts
  c_Paper : CF K mg "Paper" C_Paper
  c_Places : CF K mg "Places" C_Places
  c_Prices : CF K mg "Prices" C_Prices
  y_Paper : InsTy K C_Paper
  i_Paper_Paper : PySem.W.kitOne K (.ref C_Paper) (.ref C_Paper) = some true
  y_Places : InsTy K C_Places
  i_Places_Paper : PySem.W.kitOne K (.ref C_Places) (.ref C_Paper) = some true
  y_Prices : InsTy K C_Prices
  i_Prices_Paper : PySem.W.kitOne K (.ref C_Prices) (.ref C_Paper) = some true
  n_Person_name : NoAttr K C_Person "name"
  n_Person_skills : NoAttr K C_Person "skills"
  n_Person_most : NoAttr K C_Person "most"
  n_Person_carried : NoAttr K C_Person "carried"
  n_Person_past : NoAttr K C_Person "past"
  n_House_days : NoAttr K C_House "days"
  n_House_kinds : NoAttr K C_House "kinds"
  n_House_needs : NoAttr K C_House "needs"
  n_House_persons : NoAttr K C_House "persons"
  n_House_leave : NoAttr K C_House "leave"
  n_House_wishes : NoAttr K C_House "wishes"
  n_House_rules : NoAttr K C_House "rules"
  n_House_pairs : NoAttr K C_House "pairs"
  n_EvenCosts_weight : NoAttr K C_EvenCosts "weight"
  n_EvenCosts_burdens : NoAttr K C_EvenCosts "burdens"
  n_EvenCosts_wished : NoAttr K C_EvenCosts "wished"
  n_ChangeCosts_rows : NoAttr K C_ChangeCosts "rows"
  n_LevelCosts_burdens : NoAttr K C_LevelCosts "burdens"
  n_LevelCosts_level : NoAttr K C_LevelCosts "level"
  n_Prices_persons : NoAttr K C_Prices "persons"
  n_Prices_needs : NoAttr K C_Prices "needs"
  n_Places_places : NoAttr K C_Places "places"
  z_bool : mg "bool" = none
  z_enumerate : mg "enumerate" = none
  z_int : mg "int" = none
  z_isinstance : mg "isinstance" = none
  z_len : mg "len" = none
  z_list : mg "list" = none
  z_max : mg "max" = none
  z_min : mg "min" = none
  z_range : mg "range" = none
  z_set : mg "set" = none
  z_sum : mg "sum" = none
  z_zip : mg "zip" = none
  oi_Costs : PySem.W.findIn K (.ref C_Costs) "__init__" = some (some (.builtin "object.__init__"))
  oi_Paper : PySem.W.findIn K (.ref C_Paper) "__init__" = some (some (.builtin "object.__init__"))
theorem small6 {n : Nat} (h : n ≤ 1000) : n ≤ sizeLine := Nat.le_trans h (by decide)
theorem cut_from {α : Type} (l : List α) (k : Int) (h0 : 0 ≤ k) : cutN l (some k) none = l.drop k.toNat := by
  unfold cutN
  have e : HT.sIx l.length 0 (some k) = min k.toNat l.length := by
    show (if k < 0 then _ else min k.toNat l.length) = _
    rw [if_neg (by omega)]
  rw [e, HT.sIx_none]
  by_cases h : k.toNat ≤ l.length
  · rw [Nat.min_eq_left h]
    exact List.take_of_length_le (by rw [List.length_drop]; omega)
  · rw [Nat.min_eq_right (by omega), List.drop_eq_nil_of_le (Nat.le_refl _), List.drop_eq_nil_of_le (by omega), List.take_nil]
theorem cut_to {α : Type} (l : List α) (k : Int) (h0 : 0 ≤ k) : cutN l none (some k) = l.take k.toNat := by
  unfold cutN
  have e : HT.sIx l.length l.length (some k) = min k.toNat l.length := by
    show (if k < 0 then _ else min k.toNat l.length) = _
    rw [if_neg (by omega)]
  rw [e, HT.sIx_none, List.drop_zero, Nat.sub_zero]
  by_cases h : k.toNat ≤ l.length
  · rw [Nat.min_eq_left h]
  · rw [Nat.min_eq_right (by omega), List.take_of_length_le (Nat.le_refl _), List.take_of_length_le (by omega)]
theorem cut_len {α : Type} (l : List α) (lo hi : Option Int) : (cutN l lo hi).length ≤ l.length := by
  unfold cutN
  rw [List.length_take, List.length_drop]
  omega
theorem at_some {α : Type} (l : List α) (i : Int) (h0 : 0 ≤ i) (h : i < l.length) : ∃ c, atI l i = some c ∧ l[i.toNat]? = some c := by
  have hi : i.toNat < l.length := by omega
  have e : i = ((i.toNat : Nat) : Int) := by omega
  have q : atI l ((i.toNat : Nat) : Int) = some l[i.toNat] := atI_nat (by simp [hi])
  rw [← e] at q
  exact ⟨l[i.toNat], q, List.getElem?_eq_getElem hi⟩
theorem at_int (ns : List Int) (i : Int) (h0 : 0 ≤ i) (h : i < ns.length) : ∃ z, atI (ns.map V.int) i = some (.int z) ∧ ns[i.toNat]? = some z := by
  obtain ⟨c, h1, h2⟩ := at_some (ns.map V.int) i h0 (by rw [List.length_map]; exact h)
  rw [List.getElem?_map] at h2
  cases hz : ns[i.toNat]? with
  | none => rw [hz] at h2; cases h2
  | some z =>
    rw [hz] at h2
    have e : c = .int z := (Option.some.inj h2).symm
    subst e
    exact ⟨z, h1, rfl⟩
theorem ones_txt {ys : List V} (h : ∀ y ∈ ys, ∃ c, y = T [c]) : ∃ cs : List Nat, ys = (cs.map fun c => [c]).map T ∧ cs.length = ys.length := by
  induction ys with
  | nil => exact ⟨[], rfl, rfl⟩
  | cons y r ih =>
    obtain ⟨c, rfl⟩ := h y List.mem_cons_self
    obtain ⟨cs, e, hl⟩ := ih fun z hz => h z (List.mem_cons_of_mem _ hz)
    exact ⟨c :: cs, by rw [e]; rfl, by simp [hl]⟩
def sp_law (K : PySem.W.Frag) : Sp := fun vs H Q _ => ∃ (a : Addr) (ns : List Int), vs = [.ref a] ∧ SqL K H a (ns.map V.int) ∧ ns.length ≤ 63 ∧ ∀ H', Q (.bl true) H'

theorem noloop {p : (Nat → Nat → St → Hp → Prop) → Prop} (h : ∃ W, p W) : ∃ W, p W := h
theorem nowhile {p : (Nat → St → Hp → Prop) → Prop} (h : ∃ W, p W) : ∃ W, p W := h
theorem iteNT {A B : Prop} (h : B) : if (!true) = true then A else B := h
theorem iteNF {A B : Prop} (h : A) : if (!false) = true then A else B := h
theorem small7 {n : Nat} (h : n ≤ 1000) : n < sizeLine := Nat.lt_of_le_of_lt h (by decide)
theorem cdiv_of {i j : Int} (h1 : 0 < j) (h2 : j < 1073741824) : CDiv i j := ⟨h1, h2⟩
theorem cmulL {i j : Int} (h1 : -(2 ^ 64) < i) (h2 : i < 2 ^ 64) : CMul i j := .inl ⟨h1, h2⟩
theorem cmulR {i j : Int} (h1 : -(2 ^ 64) < j) (h2 : j < 2 ^ 64) : CMul i j := .inr ⟨h1, h2⟩
theorem pos_of {n : Int} (h : 0 < n) : 0 < n := h
@[irreducible] def Here (p : Prop) : Prop := p
theorem Here.mk {p : Prop} (h : p) : Here p := by unfold Here; exact h
theorem Here.out {p : Prop} (h : Here p) : p := by unfold Here at h; exact h
theorem gName_nf {i : Nat} {v : V} {σ σ' : St} {H : Hp} {Q : St → Hp → Prop} (e : σ.set i (some v) = σ') (h : Q σ' H) : gName i v σ H Q := by subst e; exact h

local macro_rules | `(tactic| walk_at "len") => `(tactic| (simp only [List.length_append, List.length_cons, List.length_nil, List.length_singleton, List.length_take, List.length_drop, List.length_map, List.length_reverse, List.length_range] <;> omega))
local macro_rules | `(tactic| walk_at "st") => `(tactic| (try simp only [L2.start, List.map_cons, List.map_nil, List.length_cons, List.length_nil, Nat.reduceAdd, Nat.reduceSub, List.replicate_succ, List.replicate_zero, List.cons_append, List.nil_append]))
local macro_rules | `(tactic| walk_at "lk") => `(tactic| fail)
local macro_rules | `(tactic| walk_at "cl") => `(tactic| first
  | (with_reducible assumption) | rfl
  | (with_reducible show @LE.le Nat _ _ _; first | omega | (walk_at "len") | exact small6 (by omega) | exact small6 (by walk_at "len"))
  | (with_reducible show @LT.lt Nat _ _ _; first | omega | (walk_at "len") | exact small7 (by omega) | exact small7 (by walk_at "len"))
  | (with_reducible show @LE.le Int _ _ _; omega) | (with_reducible show @LT.lt Int _ _ _; omega)
  | ((with_reducible refine cdiv_of ?_ ?_) <;> omega) | ((with_reducible refine cmulL ?_ ?_) <;> omega) | ((with_reducible refine cmulR ?_ ?_) <;> omega) | ((with_reducible refine pos_of ?_) <;> omega)
  | exact upd_same | exact same_new (by with_reducible assumption) _ _ _ upd_same | exact SqL.of (by with_reducible assumption) | exact SqL.of upd_same | exact SqT.of upd_same | exact SqT.of (by with_reducible assumption) | exact Or.inl (by with_reducible assumption) | exact Or.inl (SqL.of (by with_reducible assumption)) | exact Or.inl (SqL.of upd_same)
  | exact Or.inl ⟨rfl, _, SqL.of (by with_reducible assumption)⟩ | exact Or.inl ⟨rfl, _, SqL.of upd_same⟩ | exact Or.inl ⟨rfl, _, by with_reducible assumption⟩ | exact ⟨_, by with_reducible assumption⟩ | exact ⟨_, SqL.of (by with_reducible assumption)⟩ | exact ⟨_, SqL.of upd_same⟩
  | exact ⟨by omega, by omega⟩ | assumption | walk_at "lk")
local macro_rules | `(tactic| walk_at "rd1") => `(tactic| first
  | (with_reducible refine gName_nf (by first | (simp only [List.set_cons_zero, List.set_cons_succ]; done) | (simp only [List.set_cons_zero, List.set_cons_succ]; rfl)) ?_)
  | (with_reducible refine iteT ?_) | (with_reducible refine iteF ?_) | (with_reducible refine iteNT ?_) | (with_reducible refine iteNF ?_)
  | ((fail_if_success apply noloop); (fail_if_success apply nowhile); apply Exists.intro)
  | (apply And.intro; (· walk_at "cl"))
  | (refine Or.inl ⟨_, rfl, ?_⟩) | (refine Or.inr (Or.inl ⟨_, rfl, ?_⟩)) | (refine Or.inr (Or.inr (Or.inl ⟨_, rfl, ?_⟩))) | (refine Or.inr (Or.inr (Or.inr (Or.inl ⟨_, rfl, ?_⟩)))) | (refine Or.inr (Or.inr (Or.inr (Or.inr ⟨_, _, rfl, by with_reducible assumption, ?_⟩)))))
local macro_rules | `(tactic| walk_at "rd") => `(tactic| repeat (walk_at "rd1"))

/-! ### persons and houses -/
theorem lk_eq {f : Str} {v : V} {r : List (Str × V)} : List.lookup f ((f, v) :: r) = some v := by rw [List.lookup_cons, beq_self_eq_true]
theorem lk_ne {f g : Str} {v : V} {r : List (Str × V)} (h : f ≠ g) : List.lookup f ((g, v) :: r) = List.lookup f r := by rw [List.lookup_cons, beq_eq_false_iff_ne.mpr h]
theorem putN {f : Str} {v : V} : ∀ {fs : List (Str × V)}, (∀ g ∈ fs.map (·.1), g ≠ f) → putF f v fs = fs ++ [(f, v)]
  | [], _ => rfl
  | (g, x) :: r, h => by
    have h1 : ¬ g = f := h g (by simp)
    have ih := putN (f := f) (v := v) (fs := r) fun g hg => h g (by rw [List.map_cons]; exact List.mem_cons_of_mem _ hg)
    show (if g = f then (g, v) :: r else (g, x) :: putF f v r) = _
    rw [if_neg h1, ih]
    rfl
abbrev fP (a b c d e : V) : List (Str × V) := [("name", a), ("skills", b), ("most", c), ("carried", d), ("past", e)]
abbrev fH (a b c d e f g h : V) : List (Str × V) := [("days", a), ("kinds", b), ("needs", c), ("persons", d), ("leave", e), ("wishes", f), ("rules", g), ("pairs", h)]
theorem lP_name (a b c d e : V) : List.lookup ("name" : Str) (fP a b c d e) = some a := lk_eq
theorem lP_skills (a b c d e : V) : List.lookup ("skills" : Str) (fP a b c d e) = some b := by rw [lk_ne (by decide +kernel), lk_eq]
theorem lP_most (a b c d e : V) : List.lookup ("most" : Str) (fP a b c d e) = some c := by rw [lk_ne (by decide +kernel), lk_ne (by decide +kernel), lk_eq]
theorem lP_carried (a b c d e : V) : List.lookup ("carried" : Str) (fP a b c d e) = some d := by rw [lk_ne (by decide +kernel), lk_ne (by decide +kernel), lk_ne (by decide +kernel), lk_eq]
theorem lH_kinds (a b c d e f g h : V) : List.lookup ("kinds" : Str) (fH a b c d e f g h) = some b := by rw [lk_ne (by decide +kernel), lk_eq]
theorem lH_needs (a b c d e f g h : V) : List.lookup ("needs" : Str) (fH a b c d e f g h) = some c := by rw [lk_ne (by decide +kernel), lk_ne (by decide +kernel), lk_eq]
theorem lH_persons (a b c d e f g h : V) : List.lookup ("persons" : Str) (fH a b c d e f g h) = some d := by rw [lk_ne (by decide +kernel), lk_ne (by decide +kernel), lk_ne (by decide +kernel), lk_eq]
theorem lH_leave (a b c d e f g h : V) : List.lookup ("leave" : Str) (fH a b c d e f g h) = some e := by rw [lk_ne (by decide +kernel), lk_ne (by decide +kernel), lk_ne (by decide +kernel), lk_ne (by decide +kernel), lk_eq]
theorem lH_wishes (a b c d e f g h : V) : List.lookup ("wishes" : Str) (fH a b c d e f g h) = some f := by rw [lk_ne (by decide +kernel), lk_ne (by decide +kernel), lk_ne (by decide +kernel), lk_ne (by decide +kernel), lk_ne (by decide +kernel), lk_eq]
/-- the person at p -/
def PerAt (C : Addr) (H : Hp) (p : Addr) (nm sk : List Nat) (m c : Int) (pa : List Nat) : Prop := ∃ dx, H p = some (.ins C dx (fP (T nm) (T sk) (.int m) (.int c) (T pa)))
theorem PerAt.keeps {C : Addr} {H H' : Hp} {p : Addr} {nm sk pa : List Nat} {m c : Int} (h : PerAt C H p nm sk m c pa) (k : Keeps H H') : PerAt C H' p nm sk m c pa := let ⟨dx, e⟩ := h; ⟨dx, k _ _ e fun zs z => by cases z⟩
/-- the house at p: its lists' places, and what they hold -/
def HouAt (C : Addr) (H : Hp) (p : Addr) (d : Int) (k : List Nat) (a1 a2 a3 a4 a5 a6 : Addr) : Prop := ∃ dx, H p = some (.ins C dx (fH (.int d) (T k) (.ref a1) (.ref a2) (.ref a3) (.ref a4) (.ref a5) (.ref a6)))
theorem HouAt.keeps {C : Addr} {H H' : Hp} {p : Addr} {d : Int} {k : List Nat} {a1 a2 a3 a4 a5 a6 : Addr} (h : HouAt C H p d k a1 a2 a3 a4 a5 a6) (kk : Keeps H H') : HouAt C H' p d k a1 a2 a3 a4 a5 a6 := let ⟨dx, e⟩ := h; ⟨dx, kk _ _ e fun zs z => by cases z⟩
def But (p : Addr) (H H' : Hp) : Prop := ∀ a o, a ≠ p → H a = some o → H' a = some o
theorem But.refl (p : Addr) (H : Hp) : But p H H := fun _ _ _ h => h
theorem But.at {p : Addr} {H H' : Hp} {o : HO} (b : But p H H') : But p H (upd H' p o) := fun a u n e => by rw [upd_ne n]; exact b a u n e
theorem But.new {p l : Addr} {H H' : Hp} {o : HO} (b : But p H H') (hl : H' l = none) : But p H (upd H' l o) := fun a u n e => by
  have := b a u n e
  rw [upd_ne (ne_of_none this hl)]; exact this
def sp_pinit (C : Addr) : Sp := fun vs H Q _ => ∃ p dx a b c d e, vs = [.ref p, a, b, c, d, e] ∧ H p = some (.ins C dx []) ∧ ∀ H', But p H H' → H' p = some (.ins C dx (fP a b c d e)) → Q .non H'
def sp_hinit (C : Addr) : Sp := fun vs H Q _ => ∃ p dx d k b1 b2 b3 b4 b5 b6 x1 x2 x3 x4 x5 x6, vs = [.ref p, d, k, .ref b1, .ref b2, .ref b3, .ref b4, .ref b5, .ref b6] ∧ H p = some (.ins C dx []) ∧
  H b1 = some (.lst x1) ∧ H b2 = some (.lst x2) ∧ H b3 = some (.lst x3) ∧ H b4 = some (.lst x4) ∧ H b5 = some (.lst x5) ∧ H b6 = some (.lst x6) ∧
  ∀ H' a1 a2 a3 a4 a5 a6, But p H H' → H' p = some (.ins C dx (fH d k (.ref a1) (.ref a2) (.ref a3) (.ref a4) (.ref a5) (.ref a6))) → H' a1 = some (.lst x1) → H' a2 = some (.lst x2) → H' a3 = some (.lst x3) → H' a4 = some (.lst x4) → H' a5 = some (.lst x5) → H' a6 = some (.lst x6) →
    H a1 = none → H a2 = none → H a3 = none → H a4 = none → H a5 = none → H a6 = none → Q .non H'
def rPer (C : Addr) : List V → Hp → VK → Prop := fun vs H Q => ∃ nm sk m c pa, vs = [T nm, T sk, .int m, .int c, T pa] ∧ ∀ p H', Same H H' → H p = none → PerAt C H' p nm sk m c pa → Q (.ref p) H'
def rHou (C : Addr) : List V → Hp → VK → Prop := fun vs H Q => ∃ d k b1 b2 b3 b4 b5 b6 x1 x2 x3 x4 x5 x6, vs = [.int d, T k, .ref b1, .ref b2, .ref b3, .ref b4, .ref b5, .ref b6] ∧
  H b1 = some (.lst x1) ∧ H b2 = some (.lst x2) ∧ H b3 = some (.lst x3) ∧ H b4 = some (.lst x4) ∧ H b5 = some (.lst x5) ∧ H b6 = some (.lst x6) ∧
  ∀ p H' a1 a2 a3 a4 a5 a6, Same H H' → HouAt C H' p d k a1 a2 a3 a4 a5 a6 → H' a1 = some (.lst x1) → H' a2 = some (.lst x2) → H' a3 = some (.lst x3) → H' a4 = some (.lst x4) → H' a5 = some (.lst x5) → H' a6 = some (.lst x6) →
    H a1 = none → H a2 = none → H a3 = none → H a4 = none → H a5 = none → H a6 = none → Q (.ref p) H'
theorem made_same {H H' : Hp} {x dx : Addr} {u o : HO} (nx : H x = none) (nd : H dx = none) (b : But x (upd (upd H dx u) x o) H') : Same H H' := fun a v e => by
  have h1 : a ≠ x := ne_of_none e nx
  refine b a v h1 ?_
  rw [upd_ne h1, upd_ne (ne_of_none e nd)]
  exact e
theorem made_free {H : Hp} {x dx a : Addr} {u o : HO} (h : upd (upd H dx u) x o a = none) : H a = none := by
  have h1 : a ≠ x := fun z => by subst z; rw [upd_same] at h; cases h
  rw [upd_ne h1] at h
  have h2 : a ≠ dx := fun z => by subst z; rw [upd_same] at h; cases h
  rw [upd_ne h2] at h
  exact h
theorem made_at {H : Hp} {x dx a : Addr} {u o v : HO} (nx : H x = none) (nd : H dx = none) (e : H a = some v) : upd (upd H dx u) x o a = some v := by
  rw [upd_ne (ne_of_none e nx), upd_ne (ne_of_none e nd)]; exact e
theorem mk_per {C : Addr} : ∀ vs H Q, rPer C vs H Q → ∀ x dx, H x = none → H dx = none → dx ≠ x → sp_pinit C (.ref x :: (vs ++ [])) (upd (upd H dx (.own x)) x (.ins C dx [])) (fun v H2 => v = .non ∧ Q (.ref x) H2) E0 := by
  rintro _ H Q ⟨nm, sk, m, c, pa, rfl, q⟩ x dx nx nd _
  exact ⟨x, dx, _, _, _, _, _, rfl, upd_same, fun H' b e => ⟨rfl, q x H' (made_same nx nd b) nx ⟨dx, e⟩⟩⟩
theorem mk_hou {C : Addr} : ∀ vs H Q, rHou C vs H Q → ∀ x dx, H x = none → H dx = none → dx ≠ x → sp_hinit C (.ref x :: (vs ++ [])) (upd (upd H dx (.own x)) x (.ins C dx [])) (fun v H2 => v = .non ∧ Q (.ref x) H2) E0 := by
  rintro _ H Q ⟨d, k, b1, b2, b3, b4, b5, b6, x1, x2, x3, x4, x5, x6, rfl, h1, h2, h3, h4, h5, h6, q⟩ x dx nx nd _
  exact ⟨x, dx, _, _, b1, b2, b3, b4, b5, b6, x1, x2, x3, x4, x5, x6, rfl, upd_same, made_at nx nd h1, made_at nx nd h2, made_at nx nd h3, made_at nx nd h4, made_at nx nd h5, made_at nx nd h6,
    fun H' a1 a2 a3 a4 a5 a6 b e e1 e2 e3 e4 e5 e6 n1 n2 n3 n4 n5 n6 => ⟨rfl, q x H' a1 a2 a3 a4 a5 a6 (made_same nx nd b) ⟨dx, e⟩ e1 e2 e3 e4 e5 e6 (made_free n1) (made_free n2) (made_free n3) (made_free n4) (made_free n5) (made_free n6)⟩⟩

/-! ### what the laws draw -/
def cellF (ns : List Int) (k : Int) : Int := ns.getD k.toNat 0
def sp_cellx (K : PySem.W.Frag) : Sp := fun vs H Q _ => ∃ (a : Addr) (ns : List Int) (k : Int), vs = [.ref a, .int k] ∧ SqL K H a (ns.map V.int) ∧ 0 ≤ k ∧ Q (.int (cellF ns k)) H
abbrev abc : List Nat := [97, 98, 99, 100, 101, 102, 103, 104, 105, 106, 107, 108, 109, 110, 111, 112, 113, 114, 115, 116, 117, 118, 119, 120, 121, 122]
abbrev ABC : List Nat := [65, 66, 67, 68, 69, 70, 71, 72, 73, 74, 75, 76, 77, 78, 79, 80, 81, 82, 83, 84, 85, 86, 87, 88, 89, 90]
def ltr (i : Int) : Nat := 97 + i.toNat
def cap (i : Int) : Nat := 65 + i.toNat
theorem at_abc (i : Int) (h0 : 0 ≤ i) (h1 : i < 26) : atI abc i = some (ltr i) := by
  obtain ⟨c, h2, h3⟩ := at_some abc i h0 (by show i < 26; exact h1)
  have key : ∀ n : Nat, n < 26 → abc[n]? = some (97 + n) := by decide
  rw [h2]
  rw [key i.toNat (by omega)] at h3
  exact h3.symm
theorem at_ABC (i : Int) (h0 : 0 ≤ i) (h1 : i < 26) : atI ABC i = some (cap i) := by
  obtain ⟨c, h2, h3⟩ := at_some ABC i h0 (by show i < 26; exact h1)
  have key : ∀ n : Nat, n < 26 → ABC[n]? = some (65 + n) := by decide
  rw [h2]
  rw [key i.toNat (by omega)] at h3
  exact h3.symm
theorem cell_lit {ns : List Int} {k : Int} (h0 : 0 ≤ k) (h : k < ns.length) : atI (ns.map V.int) k = some (.int (cellF ns k)) := by
  obtain ⟨z, h1, h2⟩ := at_int ns k h0 h
  unfold cellF
  rw [h1, List.getD_eq_getElem?_getD, h2]
  rfl
theorem cell_out {ns : List Int} {k : Int} (h : (ns.length : Int) ≤ k) : cellF ns k = 0 := by
  unfold cellF
  rw [List.getD_eq_getElem?_getD, List.getElem?_eq_none (by omega)]
  rfl

/-- a person of which one knows the name -/
def PerN (C : Addr) : List Nat → V → Hp → Prop := fun nm y H => ∃ a sk m c pa, y = .ref a ∧ PerAt C H a nm sk m c pa
theorem PerN.keeps {C : Addr} (nm : List Nat) (y : V) (Ha Hb : Hp) (k : Keeps Ha Hb) (h : PerN C nm y Ha) : PerN C nm y Hb := by
  obtain ⟨a, sk, m, c, pa, e, h⟩ := h
  exact ⟨a, sk, m, c, pa, e, h.keeps k⟩
/-- the house at h with persons of these names -/
def HouN (C1 C2 : Addr) (H : Hp) (h : Addr) (nms : List (List Nat)) : Prop := ∃ d k a1 a2 a3 a4 a5 a6 qs, HouAt C2 H h d k a1 a2 a3 a4 a5 a6 ∧ H a2 = some (.lst qs) ∧ All2 (PerN C1) H nms qs
theorem HouN.same {C1 C2 : Addr} {H H' : Hp} {h : Addr} {nms : List (List Nat)} (x : HouN C1 C2 H h nms) (s : Same H H') : HouN C1 C2 H' h nms := by
  obtain ⟨d, k, a1, a2, a3, a4, a5, a6, qs, h1, h2, h3⟩ := x
  exact ⟨d, k, a1, a2, a3, a4, a5, a6, qs, h1.keeps s.keeps, s _ _ h2, h3.imp fun a y => PerN.keeps a y _ _ s.keeps⟩
def sp_place (C1 C2 : Addr) : Sp := fun vs H Q _ => ∃ (h : Addr) (nm : List Nat) (nms : List (List Nat)) (k : Nat), vs = [.ref h, T nm] ∧ HouN C1 C2 H h nms ∧ nms[k]? = some nm ∧ (∀ j < k, ¬ nms[j]? = some nm) ∧ ∀ H', Same H H' → Q (.int (k : Nat)) H'

structure Nd where
  day : Int
  kind : Nat
  least : Int
  most : Int
def NdAt : Nd → V → Hp → Prop := fun n y H => ∃ t, y = .ref t ∧ H t = some (.tup [.int n.day, T [n.kind], .int n.least, .int n.most])
theorem NdAt.keeps (n : Nd) (y : V) (Ha Hb : Hp) (k : Keeps Ha Hb) (h : NdAt n y Ha) : NdAt n y Hb := let ⟨t, e, h⟩ := h; ⟨t, e, k _ _ h fun zs z => by cases z⟩
def needF : List Nd → Int → Nat → Int × Int
  | [], _, _ => (0, 0)
  | n :: r, d, k => if n.day = d ∧ n.kind = k then (n.least, n.most) else needF r d k
def LvT : List Nat × Int → V → Hp → Prop := fun l y H => ∃ t, y = .ref t ∧ H t = some (.tup [T l.1, .int l.2])
theorem LvT.keeps (n : List Nat × Int) (y : V) (Ha Hb : Hp) (k : Keeps Ha Hb) (h : LvT n y Ha) : LvT n y Hb := let ⟨t, e, h⟩ := h; ⟨t, e, k _ _ h fun zs z => by cases z⟩
def lvI (l : List Nat × Int) : List V := [T l.1, .int l.2]
theorem lv_tp {K : PySem.W.Frag} {H : Hp} : ∀ {ls : List (List Nat × Int)} {vs : List V}, All2 LvT H ls vs → All2 (TpAt K) H (ls.map lvI) vs
  | [], [], _ => trivial
  | l :: ls, v :: vs, h => ⟨by obtain ⟨t, e, h⟩ := h.1; exact ⟨t, e, SqT.of h, rfl⟩, lv_tp h.2⟩
  | [], _ :: _, h => h.elim
  | _ :: _, [], h => h.elim
def awayF (ls : List (List Nat × Int)) (nm : List Nat) (d : Int) : Bool := (ls.map lvI).any fun ys => eqVs ys [T nm, .int d]
theorem needF_skip {nds : List Nd} {i : Nat} {d : Int} {k : Nat} (h : ∀ j < i, ∀ n, nds[j]? = some n → ¬ (n.day = d ∧ n.kind = k)) : needF nds d k = needF (nds.drop i) d k := by
  induction i generalizing nds with
  | zero => rfl
  | succ i ih =>
    cases nds with
    | nil => rfl
    | cons n r =>
      rw [List.drop_succ_cons, ← ih (nds := r) fun j hj m hm => h (j + 1) (by omega) m (by simpa using hm)]
      rw [needF, if_neg (h 0 (by omega) n rfl)]
theorem needF_hit {nds : List Nd} {i : Nat} {d : Int} {k : Nat} {n : Nd} (h : ∀ j < i, ∀ n, nds[j]? = some n → ¬ (n.day = d ∧ n.kind = k)) (hi : nds[i]? = some n) (e : n.day = d ∧ n.kind = k) : needF nds d k = (n.least, n.most) := by
  rw [needF_skip h, List.drop_eq_getElem_cons (List.getElem?_eq_some_iff.mp hi).1, needF]
  have : nds[i]'(List.getElem?_eq_some_iff.mp hi).1 = n := (List.getElem?_eq_some_iff.mp hi).2
  rw [this, if_pos e]
theorem needF_none {nds : List Nd} {d : Int} {k : Nat} (h : ∀ j < nds.length, ∀ n, nds[j]? = some n → ¬ (n.day = d ∧ n.kind = k)) : needF nds d k = (0, 0) := by
  rw [needF_skip h, List.drop_eq_nil_of_le (Nat.le_refl _)]
  rfl

/-! ### duties -/
def dut (l : List Nat) : Nat := (l.filter fun c => !decide (c = 45)).length
theorem dut_txt (l : List Nat) : ((((l.map fun c => T [c]).filter (fun x => !decide (x = T [45]))).map (fun x => x)).length) = dut l := by
  rw [List.length_map, List.filter_map, List.length_map]
  unfold dut
  congr 1
  refine List.filter_congr fun c _ => ?_
  show (!decide (T [c] = T [45])) = _
  by_cases h : c = 45
  · subst h; simp
  · rw [decide_eq_false h, decide_eq_false fun z => h (by simpa using T_inj z)]
def sp_dut : Sp := fun vs H Q _ => ∃ l, vs = [T l] ∧ l.length ≤ 1000 ∧ ∀ H', Same H H' → Q (.int (dut l)) H'

/-! ### k51: what a rota fills -/
structure Ps where
  nm : List Nat
  sk : List Nat
  most : Int
  car : Int
  past : List Nat
def canB (ls : List (List Nat × Int)) (p : Ps) (n : Nd) : Bool := decide (n.kind ∈ p.sk) && decide (0 < n.most) && !awayF ls p.nm n.day
def canP (ls : List (List Nat × Int)) (held : List Nd) (p : Ps) : Int :=
  let d : Int := manyI ((held.filter (canB ls p)).map (·.day))
  if d < p.most then d else p.most
def canF (ls : List (List Nat × Int)) (ps : List Ps) (held : List Nd) : Int := (ps.map (canP ls held)).sum
def leastF (held : List Nd) : Int := (held.map (·.least)).sum
def apartN (n m : Nd) : Prop := ¬ (n.day = m.day ∧ n.kind = m.kind)
def hitB (n : Nd) (row : List Nat) : Bool := decide (row[n.day.toNat]? = some n.kind)
def cntR (rows : List (List Nat)) (n : Nd) : Nat := (rows.filter (hitB n)).length
theorem count_sum {α : Type} (p : α → Bool) : ∀ l : List α, (l.map fun r => if p r = true then 1 else 0).sum = (l.filter p).length
  | [] => rfl
  | r :: l => by
    rw [List.map_cons, List.sum_cons, count_sum p l, List.filter_cons]
    by_cases h : p r = true
    · rw [if_pos h, if_pos h, List.length_cons]; omega
    · rw [if_neg h, if_neg h]; omega
theorem sum_plus {α : Type} (f g : α → Nat) : ∀ l : List α, (l.map fun r => f r + g r).sum = (l.map f).sum + (l.map g).sum
  | [] => rfl
  | r :: l => by
    rw [List.map_cons, List.sum_cons, sum_plus f g l, List.map_cons, List.sum_cons, List.map_cons, List.sum_cons]
    omega
theorem dbl (rows : List (List Nat)) : ∀ A : List Nd, (A.map (cntR rows)).sum = (rows.map fun r => (A.filter fun n => hitB n r).length).sum
  | [] => by
    rw [List.map_nil, List.sum_nil]
    induction rows with
    | nil => rfl
    | cons r rs ih => rw [List.map_cons, List.sum_cons, ← ih]; rfl
  | n :: A => by
    have e : ∀ r : List Nat, ((n :: A).filter fun n => hitB n r).length = (if hitB n r = true then 1 else 0) + (A.filter fun n => hitB n r).length := fun r => by
      rw [List.filter_cons]
      by_cases h : hitB n r = true
      · rw [if_pos h, if_pos h, List.length_cons]; omega
      · rw [if_neg h, if_neg h]; omega
    rw [List.map_cons, List.sum_cons, dbl rows A]
    simp only [e]
    rw [sum_plus, count_sum]
    rfl
theorem nodup_le {α : Type} [DecidableEq α] : ∀ {l m : List α}, l.Nodup → (∀ x ∈ l, x ∈ m) → l.length ≤ m.length
  | [], _, _, _ => Nat.zero_le _
  | x :: l, m, hn, h => by
    obtain ⟨h1, h2⟩ := List.nodup_cons.mp hn
    have hx := h x List.mem_cons_self
    have := nodup_le (l := l) (m := m.erase x) h2 fun y hy => (List.mem_erase_of_ne (fun z => h1 (by rw [← z]; exact hy))).mpr (h y (List.mem_cons_of_mem _ hy))
    rw [List.length_erase_of_mem hx] at this
    have : 0 < m.length := List.length_pos_of_mem hx
    rw [List.length_cons]
    omega
theorem nodup_map_on {α β : Type} (f : α → β) : ∀ {l : List α}, l.Nodup → (∀ x ∈ l, ∀ y ∈ l, f x = f y → x = y) → (l.map f).Nodup
  | [], _, _ => List.nodup_nil
  | x :: l, hn, h => by
    obtain ⟨h1, h2⟩ := List.nodup_cons.mp hn
    rw [List.map_cons, List.nodup_cons]
    refine ⟨fun hm => ?_, nodup_map_on f h2 fun y hy z hz => h y (List.mem_cons_of_mem _ hy) z (List.mem_cons_of_mem _ hz)⟩
    obtain ⟨y, hy, e⟩ := List.mem_map.mp hm
    rw [h y (List.mem_cons_of_mem _ hy) x List.mem_cons_self e] at hy
    exact h1 hy
theorem ix_len (q : Nat → Bool) : ∀ l : List Nat, ((List.range l.length).filter fun i => match l[i]? with | some c => q c | none => false).length = (l.filter q).length
  | [] => rfl
  | c :: l => by
    have e : ((List.range (c :: l).length).filter fun i => match (c :: l)[i]? with | some c => q c | none => false) = (if q c = true then [0] else []) ++ ((List.range l.length).filter fun i => match l[i]? with | some c => q c | none => false).map Nat.succ := by
      rw [List.length_cons, List.range_succ_eq_map, List.filter_cons, List.filter_map]
      show (if q c = true then _ else _) = _
      by_cases h : q c = true
      · rw [if_pos h, if_pos h]; rfl
      · rw [if_neg h, if_neg h]; rfl
    rw [e, List.length_append, List.length_map, ix_len q l, List.filter_cons]
    by_cases h : q c = true
    · rw [if_pos h, if_pos h]; simp only [List.length_cons, List.length_nil]; omega
    · rw [if_neg h, if_neg h]; simp only [List.length_nil]; omega
theorem hit_days {row : List Nat} : ∀ {A : List Nd}, A.Pairwise apartN → ((A.filter fun n => hitB n row).map (·.day)).Nodup ∨ ∃ n ∈ A, n.day < 0 := by
  intro A hA
  by_cases hneg : ∃ n ∈ A, n.day < 0
  · exact .inr hneg
  · refine .inl ?_
    have hp : (A.filter fun n => hitB n row).Pairwise apartN := hA.filter _
    have hh : ∀ n ∈ A.filter fun n => hitB n row, row[n.day.toNat]? = some n.kind := fun n hn => of_decide_eq_true (List.mem_filter.mp hn).2
    generalize (A.filter fun n => hitB n row) = B at hp hh
    clear hneg hA
    induction B with
    | nil => exact List.nodup_nil
    | cons n B ih =>
      obtain ⟨p1, p2⟩ := List.pairwise_cons.mp hp
      rw [List.map_cons, List.nodup_cons]
      refine ⟨fun hm => ?_, ih p2 fun m hm => hh m (List.mem_cons_of_mem _ hm)⟩
      obtain ⟨m, hm, e⟩ := List.mem_map.mp hm
      refine p1 m hm ⟨e.symm, ?_⟩
      have a := hh n List.mem_cons_self
      have b := hh m (List.mem_cons_of_mem _ hm)
      rw [e] at b
      rw [a] at b
      exact Option.some.inj b
theorem dedup_mem : ∀ (l acc : List Int) (x : Int), (x ∈ acc ∨ x ∈ l) → x ∈ l.foldl PyProof.Rows.step_dedup acc
  | [], acc, x, h => h.resolve_right (fun z => by cases z)
  | y :: l, acc, x, h => by
    rw [List.foldl_cons]
    refine dedup_mem l _ x ?_
    unfold PyProof.Rows.step_dedup
    by_cases hy : acc.any (fun z => z == y) = true
    · rw [if_pos hy]
      rcases h with h | h
      · exact .inl h
      · rcases List.mem_cons.mp h with rfl | h
        · obtain ⟨z, hz, e⟩ := List.any_eq_true.mp hy
          rw [beq_iff_eq] at e
          rw [← e]
          exact .inl hz
        · exact .inr h
    · rw [if_neg hy]
      rcases h with h | h
      · exact .inl (List.mem_append_left _ h)
      · rcases List.mem_cons.mp h with rfl | h
        · exact .inl (List.mem_append_right _ (List.mem_singleton_self _))
        · exact .inr h
/-- the rota drawn fills what it is asked for -/
structure Rota (rows : List (List Nat)) (ps : List Ps) (ls : List (List Nat × Int)) (nds : List Nd) : Prop where
  len : rows.length = ps.length
  per : ∀ (i : Nat) (p : Ps) (row : List Nat), ps[i]? = some p → rows[i]? = some row → (∀ c ∈ row, c ≠ 45 → c ∈ p.sk) ∧ (dut row : Int) ≤ p.most
  nms : ∀ (i j : Nat) (p q : Ps), ps[i]? = some p → ps[j]? = some q → p.nm = q.nm → i = j
  lev : ∀ l ∈ ls, ∃ (i : Nat) (p : Ps) (row : List Nat), ps[i]? = some p ∧ rows[i]? = some row ∧ p.nm = l.1 ∧ 0 ≤ l.2 ∧ row[l.2.toNat]? = some 45
  nds : ∀ n ∈ nds, 0 ≤ n.day ∧ n.kind ≠ 45 ∧ n.least ≤ (cntR rows n : Int) ∧ (cntR rows n : Int) ≤ n.most
theorem away_mem {ls : List (List Nat × Int)} {nm : List Nat} {d : Int} (h : awayF ls nm d = true) : (nm, d) ∈ ls := by
  unfold awayF at h
  rw [List.any_map] at h
  obtain ⟨l, hl, e⟩ := List.any_eq_true.mp h
  have e' : eqVs (lvI l) [T nm, .int d] = true := e
  have : l = (nm, d) := by
    obtain ⟨a, b⟩ := l
    have e1 : eqV (T a) (T nm) = true ∧ eqVs [V.int b] [V.int d] = true := by
      have := e'
      unfold lvI eqVs at this
      simpa using this
    have e2 : eqV (V.int b) (V.int d) = true := by
      have := e1.2
      unfold eqVs at this
      exact ((Bool.and_eq_true _ _).mp this).1
    have a1 : a = nm := T_inj (congrArg V.str (of_decide_eq_true e1.1))
    have a2 : b = d := of_decide_eq_true e2
    rw [a1, a2]
  rw [← this]
  exact hl
theorem fair {rows : List (List Nat)} {ps : List Ps} {ls : List (List Nat × Int)} {nds : List Nd} (R : Rota rows ps ls nds) (hU : nds.Pairwise apartN) (f : Nd → Bool) : leastF (nds.filter f) ≤ canF ls ps (nds.filter f) := by
  have hA : (nds.filter f).Pairwise apartN := hU.filter _
  have hN : ∀ n ∈ nds.filter f, 0 ≤ n.day ∧ n.kind ≠ 45 ∧ n.least ≤ (cntR rows n : Int) ∧ (cntR rows n : Int) ≤ n.most := fun n hn => R.nds n (List.mem_filter.mp hn).1
  generalize nds.filter f = A at hA hN
  have h1 : leastF A ≤ (((A.map (cntR rows)).sum : Nat) : Int) := by
    clear hA
    unfold leastF
    induction A with
    | nil => exact Int.le_refl _
    | cons n A ih =>
      have a := (hN n List.mem_cons_self).2.2.1
      have b := ih fun m hm => hN m (List.mem_cons_of_mem _ hm)
      rw [List.map_cons, List.sum_cons, List.map_cons, List.sum_cons]
      omega
  refine Int.le_trans h1 ?_
  rw [dbl]
  have key : ∀ (i : Nat) (p : Ps) (row : List Nat), ps[i]? = some p → rows[i]? = some row → (((A.filter fun n => hitB n row).length : Nat) : Int) ≤ canP ls A p := fun i p row hp hr => by
    obtain ⟨k1, k2⟩ := R.per i p row hp hr
    have hB : ∀ n ∈ A.filter fun n => hitB n row, n ∈ A ∧ row[n.day.toNat]? = some n.kind := fun n hn => ⟨(List.mem_filter.mp hn).1, of_decide_eq_true (List.mem_filter.mp hn).2⟩
    have hnd : ((A.filter fun n => hitB n row).map (·.day)).Nodup := (hit_days (row := row) hA).resolve_right fun ⟨n, hn, z⟩ => by have := (hN n hn).1; omega
    have c1 : (A.filter fun n => hitB n row).length ≤ manyI ((A.filter (canB ls p)).map (·.day)) := by
      have := nodup_le (m := ((A.filter (canB ls p)).map (·.day)).foldl PyProof.Rows.step_dedup []) hnd fun d hd => ?_
      · rwa [List.length_map] at this
      obtain ⟨n, hn, rfl⟩ := List.mem_map.mp hd
      obtain ⟨n1, n2⟩ := hB n hn
      obtain ⟨q1, q2, q3, q4⟩ := hN n n1
      refine dedup_mem _ _ _ (.inr (List.mem_map.mpr ⟨n, List.mem_filter.mpr ⟨n1, ?_⟩, rfl⟩))
      have m1 : n.kind ∈ p.sk := k1 _ (List.mem_of_getElem? n2) q2
      have m2 : 0 < n.most := by
        have : 0 < cntR rows n := List.length_pos_of_mem (List.mem_filter.mpr ⟨List.mem_of_getElem? hr, decide_eq_true n2⟩)
        omega
      have m3 : awayF ls p.nm n.day = false := Bool.eq_false_iff.mpr fun z => by
        obtain ⟨j, p', row', e1, e2, e3, e4, e5⟩ := R.lev _ (away_mem z)
        have ej := R.nms j i p' p e1 hp e3
        subst ej
        rw [hr] at e2
        cases e2
        rw [e5] at n2
        exact q2 (Option.some.inj n2).symm
      unfold canB
      rw [decide_eq_true m1, decide_eq_true m2, m3]
      rfl
    have c2 : (A.filter fun n => hitB n row).length ≤ dut row := by
      have hnd2 : ((A.filter fun n => hitB n row).map (·.day.toNat)).Nodup := by
        have : (A.filter fun n => hitB n row).map (·.day.toNat) = ((A.filter fun n => hitB n row).map (·.day)).map Int.toNat := by rw [List.map_map]; rfl
        rw [this]
        refine nodup_map_on _ hnd fun x hx y hy e => ?_
        obtain ⟨n, hn, rfl⟩ := List.mem_map.mp hx
        obtain ⟨m, hm, rfl⟩ := List.mem_map.mp hy
        have := (hN n (hB n hn).1).1
        have := (hN m (hB m hm).1).1
        omega
      have := nodup_le (m := (List.range row.length).filter fun i => match row[i]? with | some c => !decide (c = 45) | none => false) hnd2 fun d hd => ?_
      · rw [List.length_map, ix_len] at this
        exact this
      obtain ⟨n, hn, rfl⟩ := List.mem_map.mp hd
      obtain ⟨n1, n2⟩ := hB n hn
      have hl : n.day.toNat < row.length := (List.getElem?_eq_some_iff.mp n2).1
      refine List.mem_filter.mpr ⟨List.mem_range.mpr hl, ?_⟩
      rw [n2]
      exact (Bool.not_eq_true' _).mpr (decide_eq_false (hN n n1).2.1)
    unfold canP
    simp only
    split <;> omega
  have hlen := R.len
  clear R hA hN h1 hU
  unfold canF
  induction rows generalizing ps with
  | nil =>
    cases ps with
    | nil => exact Int.le_refl _
    | cons p ps => simp at hlen
  | cons r rows ih =>
    cases ps with
    | nil => simp at hlen
    | cons p ps =>
      have a := key 0 p r rfl rfl
      have b := ih (ps := ps) (fun i p' r' h1 h2 => key (i + 1) p' r' h1 h2) (by simpa using hlen)
      rw [List.map_cons, List.sum_cons, List.map_cons, List.sum_cons]
      omega

def PsO (C : Addr) : Ps → V → Hp → Prop := fun n y H => ∃ a, y = .ref a ∧ PerAt C H a n.nm n.sk n.most n.car n.past
theorem PsO.keeps {C : Addr} (n : Ps) (y : V) (Ha Hb : Hp) (k : Keeps Ha Hb) (h : PsO C n y Ha) : PsO C n y Hb := let ⟨a, e, h⟩ := h; ⟨a, e, h.keeps k⟩
theorem range_at {n i a : Nat} (h : (List.range n)[i]? = some a) : a = i ∧ i < n := by
  have hi := (List.getElem?_eq_some_iff.mp h).1
  rw [List.length_range] at hi
  rw [List.getElem?_range hi] at h
  exact ⟨(Option.some.inj h).symm, hi⟩
def sp_drawn : Sp := fun vs H Q _ => ∃ (c m : Int), vs = [.int c, .int m] ∧ 0 ≤ m ∧ m ≤ 500 ∧ ∀ (a : Addr) (H' : Hp) (xs : List Int), Same H H' → H a = none → H' a = some (.lst (xs.map V.int)) → (xs.length : Int) = m → (∀ x ∈ xs, 0 ≤ x ∧ x < 2147483629) → Q (.ref a) H'
def sp_kinds2 : Sp := fun vs H Q _ => ∃ (c m : Int), vs = [.int c, .int m] ∧ 1 ≤ m ∧ m ≤ 3 ∧ ∀ (ks : List Nat) (H' : Hp), Same H H' → (ks.length : Int) = m → ks.Nodup → (∀ k ∈ ks, k ≠ 45) → Q (T ks) H'
def sp_row : Sp := fun vs H Q _ => ∃ (c d : Int) (ks : List Nat), vs = [.int c, T ks, .int d] ∧ 1 ≤ d ∧ d ≤ 7 ∧ ks.length ≤ 3 ∧ ∀ (row : List Nat) (H' : Hp), Same H H' → (row.length : Int) = d → (∀ c ∈ row, c ∈ ks ∨ c = 45) → Q (T row) H'
theorem fourS (i : Int) (h0 : 0 ≤ i) (h : i < 4) : ∃ z : Int, atI [V.int 1, V.int 4, V.int 5, V.int 7] i = some (.int z) ∧ 1 ≤ z ∧ z ≤ 7 := by
  obtain ⟨c, h1, h2⟩ := at_some [V.int 1, V.int 4, V.int 5, V.int 7] i h0 h
  have hm := List.mem_of_getElem? h2
  simp only [List.mem_cons, List.not_mem_nil, or_false] at hm
  rcases hm with rfl | rfl | rfl | rfl
  all_goals exact ⟨_, h1, by decide, by decide⟩
def IsMin (M : Int) (l : List Int) : Prop := M ∈ l ∧ ∀ a ∈ l, M ≤ a
def minI : List Int → Int
  | [] => 0
  | a :: r => r.foldl (fun x y => if y < x then y else x) a
theorem minI_go : ∀ (r : List Int) (a : Int), IsMin (r.foldl (fun x y => if y < x then y else x) a) (a :: r)
  | [], a => ⟨List.mem_cons_self, fun b hb => by rw [List.mem_singleton.mp hb]; exact Int.le_refl _⟩
  | b :: r, a => by
    obtain ⟨h1, h2⟩ := minI_go r (if b < a then b else a)
    rw [List.foldl_cons]
    generalize r.foldl (fun x y => if y < x then y else x) (if b < a then b else a) = M at h1 h2
    have hle := h2 _ List.mem_cons_self
    refine ⟨?_, fun c hc => ?_⟩
    · rcases List.mem_cons.mp h1 with z | z
      · rw [z]
        split
        · exact List.mem_cons_of_mem _ List.mem_cons_self
        · exact List.mem_cons_self
      · exact List.mem_cons_of_mem _ (List.mem_cons_of_mem _ z)
    · rcases List.mem_cons.mp hc with z | z
      · rw [z]; split at hle <;> omega
      · rcases List.mem_cons.mp z with z | z
        · rw [z]; split at hle <;> omega
        · exact h2 c (List.mem_cons_of_mem _ z)
theorem IsMin.eq {M : Int} {l : List Int} (h : IsMin M l) : minI l = M := by
  cases l with
  | nil => cases h.1
  | cons a r =>
    have g := minI_go r a
    exact Int.le_antisymm (g.2 _ h.1) (h.2 _ g.1)
abbrev kd (d : Int) (k : Nat) : List Key := [.inl d, .inr ⟨[k].toArray⟩]
theorem kd_inj {d d' : Int} {k k' : Nat} (h : kd d k = kd d' k') : d = d' ∧ k = k' := by
  injection h with h1 h2
  injection h2 with h2 _
  injection h1 with h1
  injection h2 with h2
  refine ⟨h1, ?_⟩
  have : T [k] = T [k'] := congrArg V.str h2
  have := T_inj this
  simpa using this
/-- what a place costs, by the needs' prices -/
def chgF (nds : List Nd) (ods : List Int) (d : Int) (k : Nat) : Int := (((nds.zip ods).find? fun a => decide (a.1.day = d ∧ a.1.kind = k)).map (·.2)).getD 0
theorem chg_of : ∀ {nds : List Nd} {ods : List Int} {n : Nd} {z : Int}, nds.Pairwise apartN → (n, z) ∈ nds.zip ods → chgF nds ods n.day n.kind = z
  | [], _, _, _, _, h => by simp at h
  | _ :: _, [], _, _, _, h => by simp at h
  | m :: nds, y :: ods, n, z, hU, h => by
    rw [List.zip_cons_cons] at h
    unfold chgF
    rw [List.zip_cons_cons, List.find?_cons]
    rcases List.mem_cons.mp h with e | e
    · obtain ⟨rfl, rfl⟩ := Prod.mk.inj e
      rw [decide_eq_true ⟨rfl, rfl⟩]
      rfl
    · have hm : n ∈ nds := (List.of_mem_zip e).1
      have ha := (List.pairwise_cons.mp hU).1 n hm
      rw [decide_eq_false ha]
      exact chg_of (List.pairwise_cons.mp hU).2 e
theorem need_hit : ∀ {nds : List Nd} {d : Int} {k : Nat}, 1 ≤ (needF nds d k).2 → ∃ n ∈ nds, n.day = d ∧ n.kind = k ∧ 1 ≤ n.most
  | [], _, _, h => by
    have h' : (1 : Int) ≤ 0 := h
    omega
  | n :: r, d, k, h => by
    unfold needF at h
    by_cases e : n.day = d ∧ n.kind = k
    · rw [if_pos e] at h
      exact ⟨n, List.mem_cons_self, e.1, e.2, h⟩
    · rw [if_neg e] at h
      obtain ⟨m, hm, x⟩ := need_hit h
      exact ⟨m, List.mem_cons_of_mem _ hm, x⟩
def Ans (H : Hp) (sp : Sp) (vs : List V) (z : Int) : Prop := ∀ (H' : Hp) (Q' : VK), Same H H' → (∀ H'', Same H' H'' → Q' (.int z) H'') → sp vs H' Q' E0
def CoQ (P : Program) (w : World) (K : PySem.W.Frag) (mg : Str → Option Value) (base : Heap) (H : Hp) (c : Addr) (f : Int → Int → Int) (g : Int → Int → Nat → Int) (n dd : Int) : Prop :=
  ∃ (C dx : Addr) (fs : List (Str × V)) (ps1 ps2 : List Str) (sp1 sp2 : Sp), H c = some (.ins C dx fs) ∧ fs.lookup ("of_count" : Str) = none ∧ fs.lookup ("of_mark" : Str) = none ∧ MtG P w K mg base C "of_count" 1 ps1 sp1 ∧ MtG P w K mg base C "of_mark" 1 ps2 sp2 ∧
  (∀ p m : Int, 0 ≤ p → p < n → 0 ≤ m → m ≤ 9 → Ans H sp1 [.ref c, .int p, .int m] (f p m)) ∧ (∀ (p d : Int) (x : Nat), 0 ≤ p → p < n → 0 ≤ d → d < dd → Ans H sp2 [.ref c, .int p, .int d, T [x]] (g p d x))
theorem Ans.same {H H' : Hp} {sp : Sp} {vs : List V} {z : Int} (x : Ans H sp vs z) (s : Same H H') : Ans H' sp vs z := fun H1 Q1 s1 q => x H1 Q1 (s.trans s1) q
theorem CoQ.same {P : Program} {w : World} {K : PySem.W.Frag} {mg : Str → Option Value} {base : Heap} {H H' : Hp} {c : Addr} {f : Int → Int → Int} {g : Int → Int → Nat → Int} {n dd : Int} (x : CoQ P w K mg base H c f g n dd) (s : Same H H') : CoQ P w K mg base H' c f g n dd := by
  obtain ⟨C, dx, fs, ps1, ps2, sp1, sp2, h1, h2, h3, h4, h5, h6, h7⟩ := x
  exact ⟨C, dx, fs, ps1, ps2, sp1, sp2, s _ _ h1, h2, h3, h4, h5, fun p m a b c d => (h6 p m a b c d).same s, fun p d x a b c e => (h7 p d x a b c e).same s⟩
def cntL (f : Int → Int → Int) (z p m : Int) : List Int := (List.range (m + 1).toNat).map fun (i : Nat) => f p (0 + (i : Int)) - z * (0 + (i : Int))

section
variable {P : Program} {w : World} {K : PySem.W.Frag} {mg : Str → Option Value} {base : Heap} {C_Person C_House C_Costs C_EvenCosts C_ChangeCosts C_LevelCosts C_Paper C_Places C_Prices : Addr}

theorem g_Person_init (tx : Tx K mg C_Person C_House C_Costs C_EvenCosts C_ChangeCosts C_LevelCosts C_Paper C_Places C_Prices) : MtG P w K mg base C_Person "__init__" 1 ["self", "name", "skills", "most", "carried", "past"] (sp_pinit C_Person) := by
  refine tx.m_Person_init.g tx.c_Person.cl sc_Person_init (fun _ _ _ _ _ _ us hl => match us, hl with | [_, _, _, _, _, _], _ => rfl) (fun vs H Q E h => ?_) (fun f cdv A outer s H vs Q E hr h => ?_)
  · obtain ⟨p, dx, a, b, c, d, e, rfl, _⟩ := h
    rfl
  · obtain ⟨p, dx, a, b, c, d, e, rfl, hp, q⟩ := h
    refine ⟨_, (pss_cons (ps_fld (pv 0) (pv 1) rfl)
      (pss_cons (ps_fld (pv 0) (pv 2) rfl)
      (pss_cons (ps_fld (pv 0) (pv 3) rfl)
      (pss_cons (ps_fld (pv 0) (pv 4) rfl)
      (pss_one (ps_fld (pv 0) (pv 5) rfl)))))), ?_⟩
    walk_at "st"
    refine ⟨_, rfl, _, rfl, p, C_Person, dx, [], rfl, hp, tx.c_Person.cl, tx.n_Person_name, (by show 0 < 1000; decide), ?_⟩
    refine ⟨_, rfl, _, rfl, p, C_Person, dx, [("name", a)], rfl, upd_same, tx.c_Person.cl, tx.n_Person_skills, (by show 1 < 1000; decide), ?_⟩
    rw [putN (fs := [("name", a)]) (show ∀ g ∈ [("name" : Str)], g ≠ "skills" from by decide +kernel)]
    refine ⟨_, rfl, _, rfl, p, C_Person, dx, [("name", a), ("skills", b)], rfl, upd_same, tx.c_Person.cl, tx.n_Person_most, (by show 2 < 1000; decide), ?_⟩
    rw [putN (fs := [("name", a), ("skills", b)]) (show ∀ g ∈ [("name" : Str), "skills"], g ≠ "most" from by decide +kernel)]
    refine ⟨_, rfl, _, rfl, p, C_Person, dx, [("name", a), ("skills", b), ("most", c)], rfl, upd_same, tx.c_Person.cl, tx.n_Person_carried, (by show 3 < 1000; decide), ?_⟩
    rw [putN (fs := [("name", a), ("skills", b), ("most", c)]) (show ∀ g ∈ [("name" : Str), "skills", "most"], g ≠ "carried" from by decide +kernel)]
    refine ⟨_, rfl, _, rfl, p, C_Person, dx, [("name", a), ("skills", b), ("most", c), ("carried", d)], rfl, upd_same, tx.c_Person.cl, tx.n_Person_past, (by show 4 < 1000; decide), ?_⟩
    rw [putN (fs := [("name", a), ("skills", b), ("most", c), ("carried", d)]) (show ∀ g ∈ [("name" : Str), "skills", "most", "carried"], g ≠ "past" from by decide +kernel)]
    exact q _ (But.refl p H).at.at.at.at.at upd_same

theorem g_House_init (tx : Tx K mg C_Person C_House C_Costs C_EvenCosts C_ChangeCosts C_LevelCosts C_Paper C_Places C_Prices) : MtG P w K mg base C_House "__init__" 1 ["self", "days", "kinds", "needs", "persons", "leave", "wishes", "rules", "pairs"] (sp_hinit C_House) := by
  refine tx.m_House_init.g tx.c_House.cl sc_House_init (fun _ _ _ _ _ _ us hl => match us, hl with | [_, _, _, _, _, _, _, _, _], _ => rfl) (fun vs H Q E h => ?_) (fun f cdv A outer s H vs Q E hr h => ?_)
  · obtain ⟨p, dx, d, k, b1, b2, b3, b4, b5, b6, x1, x2, x3, x4, x5, x6, rfl, _⟩ := h
    rfl
  · obtain ⟨p, dx, d, k, b1, b2, b3, b4, b5, b6, x1, x2, x3, x4, x5, x6, rfl, hp, h1, h2, h3, h4, h5, h6, q⟩ := h
    refine ⟨_, (pss_cons (ps_fld (pv 0) (pv 1) rfl)
      (pss_cons (ps_fld (pv 0) (pv 2) rfl)
      (pss_cons (ps_fld (pv 0) (pe_callTy call_list_of rfl tx.z_list bt_ty_list (pa_cons (pv 3) pa_nil)) rfl)
      (pss_cons (ps_fld (pv 0) (pe_callTy call_list_of rfl tx.z_list bt_ty_list (pa_cons (pv 4) pa_nil)) rfl)
      (pss_cons (ps_fld (pv 0) (pe_callTy call_list_of rfl tx.z_list bt_ty_list (pa_cons (pv 5) pa_nil)) rfl)
      (pss_cons (ps_fld (pv 0) (pe_callTy call_list_of rfl tx.z_list bt_ty_list (pa_cons (pv 6) pa_nil)) rfl)
      (pss_cons (ps_fld (pv 0) (pe_callTy call_list_of rfl tx.z_list bt_ty_list (pa_cons (pv 7) pa_nil)) rfl)
      (pss_one (ps_fld (pv 0) (pe_callTy call_list_of rfl tx.z_list bt_ty_list (pa_cons (pv 8) pa_nil)) rfl))))))))), ?_⟩
    walk_at "st"
    have nb : ∀ {b : Addr} {x : List V}, H b = some (.lst x) → b ≠ p := fun e => ne_of e hp (by intro z; cases z)
    refine ⟨_, rfl, _, rfl, p, C_House, dx, [], rfl, hp, tx.c_House.cl, tx.n_House_days, (by show 0 < 1000; decide), ?_⟩
    refine ⟨_, rfl, _, rfl, p, C_House, dx, [("days", d)], rfl, upd_same, tx.c_House.cl, tx.n_House_kinds, (by show 1 < 1000; decide), ?_⟩
    rw [putN (fs := [("days", d)]) (show ∀ g ∈ [("days" : Str)], g ≠ "kinds" from by decide +kernel)]
    have B0 : But p H (upd (upd H p (.ins C_House dx (putF "days" d []))) p (.ins C_House dx ([(("days" : Str), d)] ++ [(("kinds" : Str), k)]))) := (But.refl p H).at.at
    have e0 : upd (upd H p (.ins C_House dx (putF "days" d []))) p (.ins C_House dx ([(("days" : Str), d)] ++ [(("kinds" : Str), k)])) p = some (.ins C_House dx [("days", d), ("kinds", k)]) := upd_same
    generalize upd (upd H p (.ins C_House dx (putF "days" d []))) p (.ins C_House dx ([(("days" : Str), d)] ++ [(("kinds" : Str), k)])) = H0 at B0 e0 ⊢
    -- needs
    refine ⟨_, rfl, b1, x1, rfl, .inl (SqL.of (B0 _ _ (nb h1) h1)), fun a1 n1 => ?_⟩
    refine ⟨_, rfl, p, C_House, dx, [("days", d), ("kinds", k)], rfl, (upd_ne (ne_of_none e0 n1)).trans e0, tx.c_House.cl, tx.n_House_needs, (by show 2 < 1000; decide), ?_⟩
    rw [putN (fs := [("days", d), ("kinds", k)]) (show ∀ g ∈ [("days" : Str), "kinds"], g ≠ "needs" from by decide +kernel)]
    have z1 : a1 ≠ p := (ne_of_none e0 n1).symm
    have B1 : But p H (upd (upd H0 a1 (.lst x1)) p (.ins C_House dx ([(("days" : Str), d), ("kinds", k)] ++ [(("needs" : Str), .ref a1)]))) := (B0.new n1).at
    have e1 : upd (upd H0 a1 (.lst x1)) p (.ins C_House dx ([(("days" : Str), d), ("kinds", k)] ++ [(("needs" : Str), .ref a1)])) p = some (.ins C_House dx [("days", d), ("kinds", k), ("needs", .ref a1)]) := upd_same
    have y1 : upd (upd H0 a1 (.lst x1)) p (.ins C_House dx ([(("days" : Str), d), ("kinds", k)] ++ [(("needs" : Str), .ref a1)])) a1 = some (.lst x1) := by rw [upd_ne z1]; exact upd_same
    have m1 : H a1 = none := by cases hh : H a1 with | none => rfl | some o => rw [B0 _ _ z1 hh] at n1; cases n1
    generalize upd (upd H0 a1 (.lst x1)) p (.ins C_House dx ([(("days" : Str), d), ("kinds", k)] ++ [(("needs" : Str), .ref a1)])) = H1 at B1 e1 y1 ⊢
    -- persons
    refine ⟨_, rfl, b2, x2, rfl, .inl (SqL.of (B1 _ _ (nb h2) h2)), fun a2 n2 => ?_⟩
    refine ⟨_, rfl, p, C_House, dx, [("days", d), ("kinds", k), ("needs", .ref a1)], rfl, (upd_ne (ne_of_none e1 n2)).trans e1, tx.c_House.cl, tx.n_House_persons, (by show 3 < 1000; decide), ?_⟩
    rw [putN (fs := [("days", d), ("kinds", k), ("needs", .ref a1)]) (show ∀ g ∈ [("days" : Str), "kinds", "needs"], g ≠ "persons" from by decide +kernel)]
    have z2 : a2 ≠ p := (ne_of_none e1 n2).symm
    have B2 : But p H (upd (upd H1 a2 (.lst x2)) p (.ins C_House dx ([(("days" : Str), d), ("kinds", k), ("needs", .ref a1)] ++ [(("persons" : Str), .ref a2)]))) := (B1.new n2).at
    have e2 : upd (upd H1 a2 (.lst x2)) p (.ins C_House dx ([(("days" : Str), d), ("kinds", k), ("needs", .ref a1)] ++ [(("persons" : Str), .ref a2)])) p = some (.ins C_House dx [("days", d), ("kinds", k), ("needs", .ref a1), ("persons", .ref a2)]) := upd_same
    have y2 : upd (upd H1 a2 (.lst x2)) p (.ins C_House dx ([(("days" : Str), d), ("kinds", k), ("needs", .ref a1)] ++ [(("persons" : Str), .ref a2)])) a2 = some (.lst x2) := by rw [upd_ne z2]; exact upd_same
    have y12 : upd (upd H1 a2 (.lst x2)) p (.ins C_House dx ([(("days" : Str), d), ("kinds", k), ("needs", .ref a1)] ++ [(("persons" : Str), .ref a2)])) a1 = some (.lst x1) := by rw [upd_ne z1, upd_ne (ne_of_none y1 n2)]; exact y1
    have m2 : H a2 = none := by cases hh : H a2 with | none => rfl | some o => rw [B1 _ _ z2 hh] at n2; cases n2
    generalize upd (upd H1 a2 (.lst x2)) p (.ins C_House dx ([(("days" : Str), d), ("kinds", k), ("needs", .ref a1)] ++ [(("persons" : Str), .ref a2)])) = H2 at B2 e2 y2 y12 ⊢
    -- leave
    refine ⟨_, rfl, b3, x3, rfl, .inl (SqL.of (B2 _ _ (nb h3) h3)), fun a3 n3 => ?_⟩
    refine ⟨_, rfl, p, C_House, dx, [("days", d), ("kinds", k), ("needs", .ref a1), ("persons", .ref a2)], rfl, (upd_ne (ne_of_none e2 n3)).trans e2, tx.c_House.cl, tx.n_House_leave, (by show 4 < 1000; decide), ?_⟩
    rw [putN (fs := [("days", d), ("kinds", k), ("needs", .ref a1), ("persons", .ref a2)]) (show ∀ g ∈ [("days" : Str), "kinds", "needs", "persons"], g ≠ "leave" from by decide +kernel)]
    have z3 : a3 ≠ p := (ne_of_none e2 n3).symm
    have B3 : But p H (upd (upd H2 a3 (.lst x3)) p (.ins C_House dx ([(("days" : Str), d), ("kinds", k), ("needs", .ref a1), ("persons", .ref a2)] ++ [(("leave" : Str), .ref a3)]))) := (B2.new n3).at
    have e3 : upd (upd H2 a3 (.lst x3)) p (.ins C_House dx ([(("days" : Str), d), ("kinds", k), ("needs", .ref a1), ("persons", .ref a2)] ++ [(("leave" : Str), .ref a3)])) p = some (.ins C_House dx [("days", d), ("kinds", k), ("needs", .ref a1), ("persons", .ref a2), ("leave", .ref a3)]) := upd_same
    have y3 : upd (upd H2 a3 (.lst x3)) p (.ins C_House dx ([(("days" : Str), d), ("kinds", k), ("needs", .ref a1), ("persons", .ref a2)] ++ [(("leave" : Str), .ref a3)])) a3 = some (.lst x3) := by rw [upd_ne z3]; exact upd_same
    have y13 : upd (upd H2 a3 (.lst x3)) p (.ins C_House dx ([(("days" : Str), d), ("kinds", k), ("needs", .ref a1), ("persons", .ref a2)] ++ [(("leave" : Str), .ref a3)])) a1 = some (.lst x1) := by rw [upd_ne z1, upd_ne (ne_of_none y12 n3)]; exact y12
    have y23 : upd (upd H2 a3 (.lst x3)) p (.ins C_House dx ([(("days" : Str), d), ("kinds", k), ("needs", .ref a1), ("persons", .ref a2)] ++ [(("leave" : Str), .ref a3)])) a2 = some (.lst x2) := by rw [upd_ne z2, upd_ne (ne_of_none y2 n3)]; exact y2
    have m3 : H a3 = none := by cases hh : H a3 with | none => rfl | some o => rw [B2 _ _ z3 hh] at n3; cases n3
    generalize upd (upd H2 a3 (.lst x3)) p (.ins C_House dx ([(("days" : Str), d), ("kinds", k), ("needs", .ref a1), ("persons", .ref a2)] ++ [(("leave" : Str), .ref a3)])) = H3 at B3 e3 y3 y13 y23 ⊢
    -- wishes
    refine ⟨_, rfl, b4, x4, rfl, .inl (SqL.of (B3 _ _ (nb h4) h4)), fun a4 n4 => ?_⟩
    refine ⟨_, rfl, p, C_House, dx, [("days", d), ("kinds", k), ("needs", .ref a1), ("persons", .ref a2), ("leave", .ref a3)], rfl, (upd_ne (ne_of_none e3 n4)).trans e3, tx.c_House.cl, tx.n_House_wishes, (by show 5 < 1000; decide), ?_⟩
    rw [putN (fs := [("days", d), ("kinds", k), ("needs", .ref a1), ("persons", .ref a2), ("leave", .ref a3)]) (show ∀ g ∈ [("days" : Str), "kinds", "needs", "persons", "leave"], g ≠ "wishes" from by decide +kernel)]
    have z4 : a4 ≠ p := (ne_of_none e3 n4).symm
    have B4 : But p H (upd (upd H3 a4 (.lst x4)) p (.ins C_House dx ([(("days" : Str), d), ("kinds", k), ("needs", .ref a1), ("persons", .ref a2), ("leave", .ref a3)] ++ [(("wishes" : Str), .ref a4)]))) := (B3.new n4).at
    have e4 : upd (upd H3 a4 (.lst x4)) p (.ins C_House dx ([(("days" : Str), d), ("kinds", k), ("needs", .ref a1), ("persons", .ref a2), ("leave", .ref a3)] ++ [(("wishes" : Str), .ref a4)])) p = some (.ins C_House dx [("days", d), ("kinds", k), ("needs", .ref a1), ("persons", .ref a2), ("leave", .ref a3), ("wishes", .ref a4)]) := upd_same
    have y4 : upd (upd H3 a4 (.lst x4)) p (.ins C_House dx ([(("days" : Str), d), ("kinds", k), ("needs", .ref a1), ("persons", .ref a2), ("leave", .ref a3)] ++ [(("wishes" : Str), .ref a4)])) a4 = some (.lst x4) := by rw [upd_ne z4]; exact upd_same
    have y14 : upd (upd H3 a4 (.lst x4)) p (.ins C_House dx ([(("days" : Str), d), ("kinds", k), ("needs", .ref a1), ("persons", .ref a2), ("leave", .ref a3)] ++ [(("wishes" : Str), .ref a4)])) a1 = some (.lst x1) := by rw [upd_ne z1, upd_ne (ne_of_none y13 n4)]; exact y13
    have y24 : upd (upd H3 a4 (.lst x4)) p (.ins C_House dx ([(("days" : Str), d), ("kinds", k), ("needs", .ref a1), ("persons", .ref a2), ("leave", .ref a3)] ++ [(("wishes" : Str), .ref a4)])) a2 = some (.lst x2) := by rw [upd_ne z2, upd_ne (ne_of_none y23 n4)]; exact y23
    have y34 : upd (upd H3 a4 (.lst x4)) p (.ins C_House dx ([(("days" : Str), d), ("kinds", k), ("needs", .ref a1), ("persons", .ref a2), ("leave", .ref a3)] ++ [(("wishes" : Str), .ref a4)])) a3 = some (.lst x3) := by rw [upd_ne z3, upd_ne (ne_of_none y3 n4)]; exact y3
    have m4 : H a4 = none := by cases hh : H a4 with | none => rfl | some o => rw [B3 _ _ z4 hh] at n4; cases n4
    generalize upd (upd H3 a4 (.lst x4)) p (.ins C_House dx ([(("days" : Str), d), ("kinds", k), ("needs", .ref a1), ("persons", .ref a2), ("leave", .ref a3)] ++ [(("wishes" : Str), .ref a4)])) = H4 at B4 e4 y4 y14 y24 y34 ⊢
    -- rules
    refine ⟨_, rfl, b5, x5, rfl, .inl (SqL.of (B4 _ _ (nb h5) h5)), fun a5 n5 => ?_⟩
    refine ⟨_, rfl, p, C_House, dx, [("days", d), ("kinds", k), ("needs", .ref a1), ("persons", .ref a2), ("leave", .ref a3), ("wishes", .ref a4)], rfl, (upd_ne (ne_of_none e4 n5)).trans e4, tx.c_House.cl, tx.n_House_rules, (by show 6 < 1000; decide), ?_⟩
    rw [putN (fs := [("days", d), ("kinds", k), ("needs", .ref a1), ("persons", .ref a2), ("leave", .ref a3), ("wishes", .ref a4)]) (show ∀ g ∈ [("days" : Str), "kinds", "needs", "persons", "leave", "wishes"], g ≠ "rules" from by decide +kernel)]
    have z5 : a5 ≠ p := (ne_of_none e4 n5).symm
    have B5 : But p H (upd (upd H4 a5 (.lst x5)) p (.ins C_House dx ([(("days" : Str), d), ("kinds", k), ("needs", .ref a1), ("persons", .ref a2), ("leave", .ref a3), ("wishes", .ref a4)] ++ [(("rules" : Str), .ref a5)]))) := (B4.new n5).at
    have e5 : upd (upd H4 a5 (.lst x5)) p (.ins C_House dx ([(("days" : Str), d), ("kinds", k), ("needs", .ref a1), ("persons", .ref a2), ("leave", .ref a3), ("wishes", .ref a4)] ++ [(("rules" : Str), .ref a5)])) p = some (.ins C_House dx [("days", d), ("kinds", k), ("needs", .ref a1), ("persons", .ref a2), ("leave", .ref a3), ("wishes", .ref a4), ("rules", .ref a5)]) := upd_same
    have y5 : upd (upd H4 a5 (.lst x5)) p (.ins C_House dx ([(("days" : Str), d), ("kinds", k), ("needs", .ref a1), ("persons", .ref a2), ("leave", .ref a3), ("wishes", .ref a4)] ++ [(("rules" : Str), .ref a5)])) a5 = some (.lst x5) := by rw [upd_ne z5]; exact upd_same
    have y15 : upd (upd H4 a5 (.lst x5)) p (.ins C_House dx ([(("days" : Str), d), ("kinds", k), ("needs", .ref a1), ("persons", .ref a2), ("leave", .ref a3), ("wishes", .ref a4)] ++ [(("rules" : Str), .ref a5)])) a1 = some (.lst x1) := by rw [upd_ne z1, upd_ne (ne_of_none y14 n5)]; exact y14
    have y25 : upd (upd H4 a5 (.lst x5)) p (.ins C_House dx ([(("days" : Str), d), ("kinds", k), ("needs", .ref a1), ("persons", .ref a2), ("leave", .ref a3), ("wishes", .ref a4)] ++ [(("rules" : Str), .ref a5)])) a2 = some (.lst x2) := by rw [upd_ne z2, upd_ne (ne_of_none y24 n5)]; exact y24
    have y35 : upd (upd H4 a5 (.lst x5)) p (.ins C_House dx ([(("days" : Str), d), ("kinds", k), ("needs", .ref a1), ("persons", .ref a2), ("leave", .ref a3), ("wishes", .ref a4)] ++ [(("rules" : Str), .ref a5)])) a3 = some (.lst x3) := by rw [upd_ne z3, upd_ne (ne_of_none y34 n5)]; exact y34
    have y45 : upd (upd H4 a5 (.lst x5)) p (.ins C_House dx ([(("days" : Str), d), ("kinds", k), ("needs", .ref a1), ("persons", .ref a2), ("leave", .ref a3), ("wishes", .ref a4)] ++ [(("rules" : Str), .ref a5)])) a4 = some (.lst x4) := by rw [upd_ne z4, upd_ne (ne_of_none y4 n5)]; exact y4
    have m5 : H a5 = none := by cases hh : H a5 with | none => rfl | some o => rw [B4 _ _ z5 hh] at n5; cases n5
    generalize upd (upd H4 a5 (.lst x5)) p (.ins C_House dx ([(("days" : Str), d), ("kinds", k), ("needs", .ref a1), ("persons", .ref a2), ("leave", .ref a3), ("wishes", .ref a4)] ++ [(("rules" : Str), .ref a5)])) = H5 at B5 e5 y5 y15 y25 y35 y45 ⊢
    -- pairs
    refine ⟨_, rfl, b6, x6, rfl, .inl (SqL.of (B5 _ _ (nb h6) h6)), fun a6 n6 => ?_⟩
    refine ⟨_, rfl, p, C_House, dx, [("days", d), ("kinds", k), ("needs", .ref a1), ("persons", .ref a2), ("leave", .ref a3), ("wishes", .ref a4), ("rules", .ref a5)], rfl, (upd_ne (ne_of_none e5 n6)).trans e5, tx.c_House.cl, tx.n_House_pairs, (by show 7 < 1000; decide), ?_⟩
    rw [putN (fs := [("days", d), ("kinds", k), ("needs", .ref a1), ("persons", .ref a2), ("leave", .ref a3), ("wishes", .ref a4), ("rules", .ref a5)]) (show ∀ g ∈ [("days" : Str), "kinds", "needs", "persons", "leave", "wishes", "rules"], g ≠ "pairs" from by decide +kernel)]
    have z6 : a6 ≠ p := (ne_of_none e5 n6).symm
    have m6 : H a6 = none := by cases hh : H a6 with | none => rfl | some o => rw [B5 _ _ z6 hh] at n6; cases n6
    refine q _ a1 a2 a3 a4 a5 a6 (B5.new n6).at upd_same ?_ ?_ ?_ ?_ ?_ ?_ m1 m2 m3 m4 m5 m6
    · rw [upd_ne z1, upd_ne (ne_of_none y15 n6)]; exact y15
    · rw [upd_ne z2, upd_ne (ne_of_none y25 n6)]; exact y25
    · rw [upd_ne z3, upd_ne (ne_of_none y35 n6)]; exact y35
    · rw [upd_ne z4, upd_ne (ne_of_none y45 n6)]; exact y45
    · rw [upd_ne z5, upd_ne (ne_of_none y5 n6)]; exact y5
    · rw [upd_ne z6]; exact upd_same

end
/-! ### costs: what they hold -/
theorem newl {H : Hp} {l : Addr} {xs : List V} (h : H l = none) : ∃ H', H' = upd H l (.lst xs) ∧ H' l = some (.lst xs) ∧ Same H H' := ⟨_, rfl, upd_same, same_new h _⟩
theorem newt {H : Hp} {l : Addr} {xs : List V} (h : H l = none) : ∃ H', H' = upd H l (.tup xs) ∧ H' l = some (.tup xs) ∧ Same H H' := ⟨_, rfl, upd_same, same_new h _⟩
theorem lH_place_of (a b c d e f g h : V) : List.lookup ("place_of" : Str) (fH a b c d e f g h) = none := by
  rw [lk_ne (by decide +kernel), lk_ne (by decide +kernel), lk_ne (by decide +kernel), lk_ne (by decide +kernel), lk_ne (by decide +kernel), lk_ne (by decide +kernel), lk_ne (by decide +kernel), lk_ne (by decide +kernel)]
  rfl
structure Wi where
  k : Nat
  day : Nat
  marks : List Nat
def WiN (nms : List (List Nat)) : Wi → V → Hp → Prop := fun w y H => ∃ t, y = .ref t ∧ H t = some (.tup [T (nms.getD w.k []), .int (w.day : Nat), T w.marks])
def WiP : Wi → V → Hp → Prop := fun w y H => ∃ t, y = .ref t ∧ H t = some (.tup [.int (w.k : Nat), .int (w.day : Nat), T w.marks])
theorem WiN.keeps {nms : List (List Nat)} (w : Wi) (y : V) (Ha Hb : Hp) (k : Keeps Ha Hb) (h : WiN nms w y Ha) : WiN nms w y Hb := let ⟨t, e, h⟩ := h; ⟨t, e, k _ _ h fun zs z => by cases z⟩
theorem WiP.keeps (w : Wi) (y : V) (Ha Hb : Hp) (k : Keeps Ha Hb) (h : WiP w y Ha) : WiP w y Hb := let ⟨t, e, h⟩ := h; ⟨t, e, k _ _ h fun zs z => by cases z⟩
def Unl (nms : List (List Nat)) : Prop := ∀ (i j : Nat) (nm : List Nat), nms[i]? = some nm → nms[j]? = some nm → i = j
/-- all but p stays -/
def Kp (o : HO) (H H' : Hp) : Prop := ∀ a u, H a = some u → u ≠ o → H' a = some u
theorem But.kp {p : Addr} {o : HO} {H H' : Hp} (b : But p H H') (h : H p = some o) : Kp o H H' := fun a u e n => b a u (fun z => n (by subst z; rw [h] at e; exact (Option.some.inj e).symm)) e
theorem But.same {p : Addr} {H H1 H2 : Hp} (b : But p H H1) (s : Same H1 H2) : But p H H2 := fun a u n e => s _ _ (b a u n e)
def PerQ (C : Addr) : List Nat × Int → V → Hp → Prop := fun p y H => ∃ a sk m pa, y = .ref a ∧ PerAt C H a p.1 sk m p.2 pa
theorem PerQ.keeps {C : Addr} (p : List Nat × Int) (y : V) (Ha Hb : Hp) (k : Keeps Ha Hb) (h : PerQ C p y Ha) : PerQ C p y Hb := by
  obtain ⟨a, sk, m, pa, e, h⟩ := h
  exact ⟨a, sk, m, pa, e, h.keeps k⟩
def HouQ (C1 C2 : Addr) (H : Hp) (h : Addr) (ps : List (List Nat × Int)) (W : List Wi) : Prop := ∃ d k a1 a2 a3 a4 a5 a6 qs ws, HouAt C2 H h d k a1 a2 a3 a4 a5 a6 ∧ H a2 = some (.lst qs) ∧ All2 (PerQ C1) H ps qs ∧ H a4 = some (.lst ws) ∧ All2 (WiN (ps.map (·.1))) H W ws
theorem HouQ.same {C1 C2 : Addr} {H H' : Hp} {h : Addr} {ps : List (List Nat × Int)} {W : List Wi} (x : HouQ C1 C2 H h ps W) (s : Same H H') : HouQ C1 C2 H' h ps W := by
  obtain ⟨d, k, a1, a2, a3, a4, a5, a6, qs, ws, h1, h2, h3, h4, h5⟩ := x
  exact ⟨d, k, a1, a2, a3, a4, a5, a6, qs, ws, h1.keeps s.keeps, s _ _ h2, h3.imp fun a y => PerQ.keeps a y _ _ s.keeps, s _ _ h4, h5.imp fun a y => WiN.keeps a y _ _ s.keeps⟩
theorem HouQ.kp {C1 C2 C dx : Addr} {fs : List (Str × V)} {H H' : Hp} {h : Addr} {ps : List (List Nat × Int)} {W : List Wi} (x : HouQ C1 C2 H h ps W) (k : Kp (.ins C dx fs) H H') (hf : fs.length < 5) : HouQ C1 C2 H' h ps W := by
  obtain ⟨d, kk, a1, a2, a3, a4, a5, a6, qs, ws, ⟨dh, h1⟩, h2, h3, h4, h5⟩ := x
  refine ⟨d, kk, a1, a2, a3, a4, a5, a6, qs, ws, ⟨dh, k _ _ h1 fun z => ?_⟩, k _ _ h2 (fun z => by cases z), h3.imp fun a y hp => ?_, k _ _ h4 (fun z => by cases z), h5.imp fun a y hw => ?_⟩
  · injection z with _ _ z
    have := congrArg List.length z
    simp at this
    omega
  · obtain ⟨b, sk, m, pa, e, db, hp⟩ := hp
    refine ⟨b, sk, m, pa, e, db, k _ _ hp fun z => ?_⟩
    injection z with _ _ z
    have := congrArg List.length z
    simp at this
    omega
  · obtain ⟨t, e, ht⟩ := hw
    exact ⟨t, e, k _ _ ht fun z => by cases z⟩
theorem HouQ.n {C1 C2 : Addr} {H : Hp} {h : Addr} {ps : List (List Nat × Int)} {W : List Wi} (x : HouQ C1 C2 H h ps W) : HouN C1 C2 H h (ps.map (·.1)) := by
  obtain ⟨d, k, a1, a2, a3, a4, a5, a6, qs, ws, h1, h2, h3, _⟩ := x
  refine ⟨d, k, a1, a2, a3, a4, a5, a6, qs, h1, h2, All2.mapL (P := PerN C1) (h3.imp fun a y hp => ?_)⟩
  obtain ⟨b, sk, m, pa, e, hp⟩ := hp
  exact ⟨b, sk, m, _, pa, e, hp⟩
abbrev ky (p d : Nat) : List Key := [.inl (p : Int), .inl (d : Int)]
theorem ky_inj {p d p' d' : Nat} (h : ky p d = ky p' d') : p = p' ∧ d = d' := by
  injection h with h1 h2
  injection h2 with h2 _
  injection h1 with h1
  injection h2 with h2
  omega
def mkOf (W : List Wi) (p d : Nat) : List (List Nat) := (W.filter fun w => decide (w.k = p ∧ w.day = d)).map (·.marks)
theorem mkOf_snoc (W : List Wi) (w : Wi) (p d : Nat) : mkOf (W ++ [w]) p d = if w.k = p ∧ w.day = d then mkOf W p d ++ [w.marks] else mkOf W p d := by
  unfold mkOf
  rw [List.filter_append, List.map_append]
  by_cases h : w.k = p ∧ w.day = d
  · rw [if_pos h, List.filter_cons, if_pos (decide_eq_true h)]; rfl
  · rw [if_neg h, List.filter_cons, if_neg (by simpa using h)]; simp
/-- the dict of the wishes, by person and day -/
structure DW (H0 H : Hp) (D : Addr) (kvs : List (List Key × V)) (W : List Wi) : Prop where
  d : H D = some (.dT kvs)
  len : kvs.length ≤ W.length
  there : ∀ (p d : Nat) (v : V), valV kvs (ky p d) = some v → ∃ a, v = .ref a ∧ H0 a = none ∧ H a = some (.lst ((mkOf W p d).map T))
  no : ∀ (p d : Nat), valV kvs (ky p d) = none → mkOf W p d = []
  inj : ∀ (p d p' d' : Nat) (v : V), valV kvs (ky p d) = some v → valV kvs (ky p' d') = some v → p = p' ∧ d = d'
theorem DW.same {H0 H H' : Hp} {D : Addr} {kvs : List (List Key × V)} {W : List Wi} (x : DW H0 H D kvs W) (s : Same H H') : DW H0 H' D kvs W :=
  ⟨s _ _ x.d, x.len, fun p d v h => let ⟨a, e, n, h⟩ := x.there p d v h; ⟨a, e, n, s _ _ h⟩, x.no, x.inj⟩
theorem DW.old {H0 H : Hp} {D a : Addr} {kvs : List (List Key × V)} {W : List Wi} {p d : Nat} (x : DW H0 H D kvs W) (hv : valV kvs (ky p d) = some (.ref a)) (mk : List Nat) : DW H0 (upd H a (.lst ((mkOf W p d).map T ++ [T mk]))) D kvs (W ++ [⟨p, d, mk⟩]) := by
  obtain ⟨a', e, n, ha⟩ := x.there p d _ hv
  cases e
  have nD : D ≠ a := ne_of x.d ha (fun z => by cases z)
  refine ⟨by rw [upd_ne nD]; exact x.d, by rw [List.length_append, List.length_singleton]; have := x.len; omega, fun p' d' v h => ?_, fun p' d' h => ?_, x.inj⟩
  · obtain ⟨b, rfl, nb, hb⟩ := x.there p' d' v h
    refine ⟨b, rfl, nb, ?_⟩
    by_cases hpd : p = p' ∧ d = d'
    · obtain ⟨rfl, rfl⟩ := hpd
      rw [hv] at h
      cases h
      rw [upd_same, mkOf_snoc, if_pos ⟨rfl, rfl⟩, List.map_append]
      rfl
    · have nb2 : b ≠ a := fun z => by
        subst z
        exact hpd (x.inj p d p' d' _ hv h)
      rw [upd_ne nb2, mkOf_snoc, if_neg hpd]
      exact hb
  · rw [mkOf_snoc, if_neg (fun z => ?_)]
    · exact x.no p' d' h
    · obtain ⟨rfl, rfl⟩ := z
      rw [hv] at h
      cases h
theorem DW.new {H0 H : Hp} {D l : Addr} {kvs : List (List Key × V)} {W : List Wi} {p d : Nat} (x : DW H0 H D kvs W) (hv : valV kvs (ky p d) = none) (hl : H l = none) (h0 : H0 l = none) (mk : List Nat) :
    DW H0 (upd (upd (upd H l (.lst [])) D (.dT (putK kvs (ky p d) (.ref l)))) l (.lst ([] ++ [T mk]))) D (putK kvs (ky p d) (.ref l)) (W ++ [⟨p, d, mk⟩]) := by
  have nD : D ≠ l := ne_of_none x.d hl
  refine ⟨by rw [upd_ne nD, upd_same], ?_, fun p' d' v h => ?_, fun p' d' h => ?_, fun p1 d1 p2 d2 v h1 h2 => ?_⟩
  · have := length_putK kvs (ky p d) (.ref l)
    have := x.len
    rw [List.length_append, List.length_singleton]
    omega
  · rw [valV_put] at h
    by_cases e : ky p' d' = ky p d
    · obtain ⟨rfl, rfl⟩ := ky_inj e
      rw [if_pos rfl] at h
      cases h
      refine ⟨l, rfl, h0, ?_⟩
      rw [upd_same, mkOf_snoc, if_pos ⟨rfl, rfl⟩, x.no _ _ hv]
      rfl
    · rw [if_neg e] at h
      obtain ⟨b, rfl, nb, hb⟩ := x.there p' d' v h
      refine ⟨b, rfl, nb, ?_⟩
      have n1 : b ≠ l := ne_of_none hb hl
      have n2 : b ≠ D := ne_of hb x.d (fun z => by cases z)
      rw [upd_ne n1, upd_ne n2, upd_ne n1, mkOf_snoc, if_neg (fun z => e (by have z1 : p = p' := z.1; have z2 : d = d' := z.2; rw [z1, z2]))]
      exact hb
  · rw [valV_put] at h
    by_cases e : ky p' d' = ky p d
    · rw [if_pos e] at h
      cases h
    · rw [if_neg e] at h
      rw [mkOf_snoc, if_neg (fun z => e (by have z1 : p = p' := z.1; have z2 : d = d' := z.2; rw [z1, z2]))]
      exact x.no p' d' h
  · have key : ∀ (p' d' : Nat) (v : V), valV (putK kvs (ky p d) (.ref l)) (ky p' d') = some v → (p' = p ∧ d' = d ∧ v = .ref l) ∨ (valV kvs (ky p' d') = some v ∧ v ≠ .ref l) := fun p' d' v h => by
      rw [valV_put] at h
      by_cases e : ky p' d' = ky p d
      · rw [if_pos e] at h
        cases h
        exact .inl ⟨(ky_inj e).1, (ky_inj e).2, rfl⟩
      · rw [if_neg e] at h
        obtain ⟨b, rfl, nb, hb⟩ := x.there p' d' v h
        refine .inr ⟨h, fun z => ?_⟩
        injection z with z
        exact ne_of_none hb hl z
    rcases key p1 d1 v h1 with ⟨e1, e2, e3⟩ | ⟨e1, e2⟩ <;> rcases key p2 d2 v h2 with ⟨f1, f2, f3⟩ | ⟨f1, f2⟩
    · exact ⟨e1.trans f1.symm, e2.trans f2.symm⟩
    · exact absurd e3 f2
    · exact absurd f3 e2
    · exact x.inj p1 d1 p2 d2 v e1 f1
/-! the three kinds of costs as things -/
abbrev fE (a b c : V) : List (Str × V) := [("weight", a), ("burdens", b), ("wished", c)]
abbrev fC (a : V) : List (Str × V) := [("rows", a)]
abbrev fL (a b : V) : List (Str × V) := [("burdens", a), ("level", b)]
theorem lE_weight (a b c : V) : List.lookup ("weight" : Str) (fE a b c) = some a := lk_eq
theorem lE_burdens (a b c : V) : List.lookup ("burdens" : Str) (fE a b c) = some b := by rw [lk_ne (by decide +kernel), lk_eq]
theorem lE_wished (a b c : V) : List.lookup ("wished" : Str) (fE a b c) = some c := by rw [lk_ne (by decide +kernel), lk_ne (by decide +kernel), lk_eq]
theorem lC_rows (a : V) : List.lookup ("rows" : Str) (fC a) = some a := lk_eq
theorem lL_burdens (a b : V) : List.lookup ("burdens" : Str) (fL a b) = some a := lk_eq
theorem lL_level (a b : V) : List.lookup ("level" : Str) (fL a b) = some b := by rw [lk_ne (by decide +kernel), lk_eq]
theorem lE_of_count (a b c : V) : List.lookup ("of_count" : Str) (fE a b c) = none := by rw [lk_ne (by decide +kernel), lk_ne (by decide +kernel), lk_ne (by decide +kernel)]; rfl
theorem lE_of_mark (a b c : V) : List.lookup ("of_mark" : Str) (fE a b c) = none := by rw [lk_ne (by decide +kernel), lk_ne (by decide +kernel), lk_ne (by decide +kernel)]; rfl
theorem lC_of_count (a : V) : List.lookup ("of_count" : Str) (fC a) = none := by rw [lk_ne (by decide +kernel)]; rfl
theorem lC_of_mark (a : V) : List.lookup ("of_mark" : Str) (fC a) = none := by rw [lk_ne (by decide +kernel)]; rfl
theorem lL_of_count (a b : V) : List.lookup ("of_count" : Str) (fL a b) = none := by rw [lk_ne (by decide +kernel), lk_ne (by decide +kernel)]; rfl
theorem lL_of_mark (a b : V) : List.lookup ("of_mark" : Str) (fL a b) = none := by rw [lk_ne (by decide +kernel), lk_ne (by decide +kernel)]; rfl
def EvAt (C : Addr) (H : Hp) (p : Addr) (cs : List Int) (W : List Wi) : Prop := ∃ dx b D H0 kvs, H p = some (.ins C dx (fE (.int ((W.length : Int) + 1)) (.ref b) (.ref D))) ∧ H b = some (.lst (cs.map V.int)) ∧ DW H0 H D kvs W
def ChAt (C : Addr) (H : Hp) (p : Addr) (rows : List (List Nat)) : Prop := ∃ dx r, H p = some (.ins C dx (fC (.ref r))) ∧ H r = some (.lst (rows.map T))
def LvAt (C : Addr) (H : Hp) (p : Addr) (cs : List Int) (lv : Int) : Prop := ∃ dx b, H p = some (.ins C dx (fL (.ref b) (.int lv))) ∧ H b = some (.lst (cs.map V.int))
theorem EvAt.same {C : Addr} {H H' : Hp} {p : Addr} {cs : List Int} {W : List Wi} (x : EvAt C H p cs W) (s : Same H H') : EvAt C H' p cs W := by
  obtain ⟨dx, b, D, H0, kvs, h1, h2, h3⟩ := x
  exact ⟨dx, b, D, H0, kvs, s _ _ h1, s _ _ h2, h3.same s⟩
theorem ChAt.same {C : Addr} {H H' : Hp} {p : Addr} {rows : List (List Nat)} (x : ChAt C H p rows) (s : Same H H') : ChAt C H' p rows := by
  obtain ⟨dx, r, h1, h2⟩ := x
  exact ⟨dx, r, s _ _ h1, s _ _ h2⟩
theorem LvAt.same {C : Addr} {H H' : Hp} {p : Addr} {cs : List Int} {lv : Int} (x : LvAt C H p cs lv) (s : Same H H') : LvAt C H' p cs lv := by
  obtain ⟨dx, b, h1, h2⟩ := x
  exact ⟨dx, b, s _ _ h1, s _ _ h2⟩
/-- P is of what is new: it stays whatever becomes of the old -/
def Stb (H H' : Hp) (P : Hp → Prop) : Prop := ∀ H'', (∀ a o, H a = none → H' a = some o → H'' a = some o) → P H''
def Stp (p : Addr) (H H' : Hp) (P : Hp → Prop) : Prop := ∀ H'', (∀ a o, (H a = none ∨ a = p) → H' a = some o → H'' a = some o) → P H''
theorem Stb.here {H H' : Hp} {P : Hp → Prop} (x : Stb H H' P) : P H' := x H' fun _ _ _ e => e
theorem Stp.made {H H' : Hp} {x dx : Addr} {u o : HO} {P : Hp → Prop} (nx : H x = none) (y : Stp x (upd (upd H dx u) x o) H' P) : Stb H H' P := fun H'' h => y H'' fun a v n e => h a v (n.elim made_free fun z => by rw [z]; exact nx) e
def WOk (ps : List (List Nat × Int)) (W : List Wi) : Prop := Unl (ps.map (·.1)) ∧ W.length ≤ 200 ∧ ps.length ≤ 100 ∧ ∀ w ∈ W, w.k < ps.length
def sp_burdens (C1 C2 : Addr) : Sp := fun vs H Q _ => ∃ (h : Addr) (ps : List (List Nat × Int)) (W : List Wi), vs = [.ref h] ∧ HouQ C1 C2 H h ps W ∧ ps.length ≤ 100 ∧ ∀ D H', H D = none → Same H H' → H' D = some (.lst ((ps.map (·.2)).map V.int)) → Q (.ref D) H'
def sp_byplace (C1 C2 : Addr) : Sp := fun vs H Q _ => ∃ (h : Addr) (ps : List (List Nat × Int)) (W : List Wi), vs = [.ref h] ∧ HouQ C1 C2 H h ps W ∧ WOk ps W ∧ ∀ D H' kvs, H D = none → Same H H' → DW H H' D kvs W → Q (.ref D) H'
def sp_einit (C1 C2 C : Addr) : Sp := fun vs H Q _ => ∃ p dx h ps W, vs = [.ref p, .ref h] ∧ H p = some (.ins C dx []) ∧ HouQ C1 C2 H h ps W ∧ WOk ps W ∧ ∀ H', But p H H' → Stp p H H' (fun H'' => EvAt C H'' p (ps.map (·.2)) W) → Q .non H'
def sp_cinit (C : Addr) : Sp := fun vs H Q _ => ∃ p dx hv b rows, vs = [.ref p, hv, .ref b] ∧ H p = some (.ins C dx []) ∧ H b = some (.lst (rows.map T)) ∧ ∀ H', But p H H' → Stp p H H' (fun H'' => ChAt C H'' p rows) → Q .non H'
def sp_linit (C1 C2 C : Addr) : Sp := fun vs H Q _ => ∃ p dx h ps W lv, vs = [.ref p, .ref h, .int lv] ∧ H p = some (.ins C dx []) ∧ HouQ C1 C2 H h ps W ∧ ps.length ≤ 100 ∧ ∀ H', But p H H' → Stp p H H' (fun H'' => LvAt C H'' p (ps.map (·.2)) lv) → Q .non H'
def rEv (C1 C2 C : Addr) : List V → Hp → VK → Prop := fun vs H Q => ∃ h ps W, vs = [.ref h] ∧ HouQ C1 C2 H h ps W ∧ WOk ps W ∧ ∀ p H', Same H H' → Stb H H' (fun H'' => EvAt C H'' p (ps.map (·.2)) W) → Q (.ref p) H'
def rCh (C : Addr) : List V → Hp → VK → Prop := fun vs H Q => ∃ h b rows, vs = [.ref h, .ref b] ∧ H b = some (.lst (rows.map T)) ∧ ∀ p H', Same H H' → Stb H H' (fun H'' => ChAt C H'' p rows) → Q (.ref p) H'
def rLv (C1 C2 C : Addr) : List V → Hp → VK → Prop := fun vs H Q => ∃ h ps W lv, vs = [.ref h, .int lv] ∧ HouQ C1 C2 H h ps W ∧ ps.length ≤ 100 ∧ ∀ p H', Same H H' → Stb H H' (fun H'' => LvAt C H'' p (ps.map (·.2)) lv) → Q (.ref p) H'
theorem made_new {H : Hp} {x dx : Addr} {u o : HO} (nx : H x = none) (nd : H dx = none) : Same H (upd (upd H dx u) x o) := fun a v e => made_at nx nd e
theorem mk_ev {C1 C2 C : Addr} : ∀ vs H Q, rEv C1 C2 C vs H Q → ∀ x dx, H x = none → H dx = none → dx ≠ x → sp_einit C1 C2 C (.ref x :: (vs ++ [])) (upd (upd H dx (.own x)) x (.ins C dx [])) (fun v H2 => v = .non ∧ Q (.ref x) H2) E0 := by
  rintro _ H Q ⟨h, ps, W, rfl, hq, hw, q⟩ x dx nx nd _
  exact ⟨x, dx, h, ps, W, rfl, upd_same, hq.same (made_new nx nd), hw, fun H' b e => ⟨rfl, q x H' (made_same nx nd b) (e.made nx)⟩⟩
theorem mk_ch {C : Addr} : ∀ vs H Q, rCh C vs H Q → ∀ x dx, H x = none → H dx = none → dx ≠ x → sp_cinit C (.ref x :: (vs ++ [])) (upd (upd H dx (.own x)) x (.ins C dx [])) (fun v H2 => v = .non ∧ Q (.ref x) H2) E0 := by
  rintro _ H Q ⟨h, b, rows, rfl, hb, q⟩ x dx nx nd _
  exact ⟨x, dx, _, b, rows, rfl, upd_same, made_at nx nd hb, fun H' b e => ⟨rfl, q x H' (made_same nx nd b) (e.made nx)⟩⟩
theorem mk_lv {C1 C2 C : Addr} : ∀ vs H Q, rLv C1 C2 C vs H Q → ∀ x dx, H x = none → H dx = none → dx ≠ x → sp_linit C1 C2 C (.ref x :: (vs ++ [])) (upd (upd H dx (.own x)) x (.ins C dx [])) (fun v H2 => v = .non ∧ Q (.ref x) H2) E0 := by
  rintro _ H Q ⟨h, ps, W, lv, rfl, hq, hl, q⟩ x dx nx nd _
  exact ⟨x, dx, h, ps, W, lv, rfl, upd_same, hq.same (made_new nx nd), hl, fun H' b e => ⟨rfl, q x H' (made_same nx nd b) (e.made nx)⟩⟩
def notM (W : List Wi) (p d c : Nat) : Nat := ((mkOf W p d).filter fun ms => !decide (c ∈ ms)).length
def sp_z3 : Sp := fun vs H Q _ => ∃ a b c, vs = [a, b, c] ∧ Q (.int 0) H
def sp_z4 : Sp := fun vs H Q _ => ∃ a b c d, vs = [a, b, c, d] ∧ Q (.int 0) H
def sp_ecnt (C : Addr) : Sp := fun vs H Q _ => ∃ (e : Addr) (p many : Int) (cs : List Int) (W : List Wi), vs = [.ref e, .int p, .int many] ∧ EvAt C H e cs W ∧ 0 ≤ p ∧ p < cs.length ∧ W.length ≤ 200 ∧ (cellF cs p + many).natAbs < 2 ^ 500 ∧ Q (.int (((W.length : Int) + 1) * (cellF cs p + many) ^ 2)) H
def sp_emrk (C : Addr) : Sp := fun vs H Q _ => ∃ (e : Addr) (p d : Nat) (c : Nat) (cs : List Int) (W : List Wi), vs = [.ref e, .int (p : Int), .int (d : Int), T [c]] ∧ EvAt C H e cs W ∧ W.length ≤ 200 ∧ ∀ H', Same H H' → Q (.int (notM W p d c : Nat)) H'
def sp_cmrk (C : Addr) : Sp := fun vs H Q _ => ∃ (e : Addr) (p d : Nat) (c x : Nat) (rows : List (List Nat)) (row : List Nat), vs = [.ref e, .int (p : Int), .int (d : Int), T [c]] ∧ ChAt C H e rows ∧ rows[p]? = some row ∧ row[d]? = some x ∧ row.length ≤ 1000 ∧ Q (.int (if x = c then 0 else 1)) H
def sp_lcnt (C : Addr) : Sp := fun vs H Q _ => ∃ (e : Addr) (p many : Int) (cs : List Int) (lv : Int), vs = [.ref e, .int p, .int many] ∧ LvAt C H e cs lv ∧ 0 ≤ p ∧ p < cs.length ∧ Q (.int (if cellF cs p + many - lv > 0 then cellF cs p + many - lv else 0)) H

section
variable {P : Program} {w : World} {K : PySem.W.Frag} {mg : Str → Option Value} {base : Heap} {C_Person C_House C_Costs C_EvenCosts C_ChangeCosts C_LevelCosts C_Paper C_Places C_Prices : Addr}
local macro_rules | `(tactic| walk_at "lk") => `(tactic| first | exact lP_name _ _ _ _ _ | exact lP_carried _ _ _ _ _ | exact lH_persons _ _ _ _ _ _ _ _ | exact lH_wishes _ _ _ _ _ _ _ _ | exact lH_place_of _ _ _ _ _ _ _ _ | exact lE_weight _ _ _ | exact lE_burdens _ _ _ | exact lE_wished _ _ _ | exact lC_rows _ | exact lL_burdens _ _ | exact lL_level _ _)

theorem g_place_of (tx : Tx K mg C_Person C_House C_Costs C_EvenCosts C_ChangeCosts C_LevelCosts C_Paper C_Places C_Prices) : MtG P w K mg base C_House "place_of" 1 ["self", "name"] (sp_place C_Person C_House) := by
  refine tx.m_House_place_of.g tx.c_House.cl sc_House_place_of (fun _ _ _ _ _ _ us hl => match us, hl with | [_, _], _ => rfl) (fun vs H Q E h => ?_) (fun f cdv A outer s H vs Q E hr h => ?_)
  · obtain ⟨h, nm, nms, i, rfl, _⟩ := h
    rfl
  · obtain ⟨h, nm, nms, k, rfl, hC, hk, hb, q⟩ := h
    refine ⟨_, (pss_cons (ps_for PassesOwn.never rfl (pi_enumLK (K := K) rfl rfl tx.z_enumerate (pa_cons (pe_fldK (K := K) rfl (pv 0) rfl) pa_nil)) (pg_tup rfl (pgs_cons (pg_name (i := 2) sc_House_place_of.nd rfl (Or.inl rfl)) (pgs_cons (pg_name (i := 3) sc_House_place_of.nd rfl (Or.inl rfl)) pgs_nil))) (pss_one (ps_if (pt_cmpR op_eq (pe_fldK (K := K) rfl (pv 3) rfl) (pv 1) (nomark _)) (pss_one (ps_ret (pv 2))) pss_nil)))
      (pss_one ps_never)), ?_⟩
    walk_at "st"
    obtain ⟨d, kk, a1, a2, a3, a4, a5, a6, qs, ⟨dx, h1⟩, h2, h3⟩ := hC
    have cH := tx.c_House.cl
    have nH := tx.n_House_persons
    have cP := tx.c_Person.cl
    have nP := tx.n_Person_name
    walk_at "rd"
    refine for_enumL (K := K) (xs := qs) (fun i σ H2 => Here (∃ v1 v2, σ = [some (.ref h), some (T nm), v1, v2] ∧ i ≤ k ∧ Same H H2)) (Here.mk ⟨none, none, rfl, Nat.zero_le _, Same.refl _⟩) (fun i σ H2 _ hv => by obtain ⟨_, _, _, _, s2⟩ := hv.out; exact SqL.of (s2 _ _ h2)) ?_ ?_
    · rintro i x p σ H2 hx hp hv
      obtain ⟨v1, v2, rfl, hi, s2⟩ := hv.out
      obtain ⟨n2, hn2, p1, sk, m, c, pa, rfl, dx2, hp2⟩ := h3.back hx
      have s3 : Same H2 (upd H2 p (.tup [.int i, .ref p1])) := same_new hp _
      have hp3 := s3 _ _ (s2 _ _ hp2)
      walk_at "rd"
      refine ite2 (fun e => ?_) (fun e => ?_)
      · have e' : n2 = nm := T_inj (of_decide_eq_true e)
        subst e'
        have hik : i = k := by
          rcases Nat.lt_or_ge i k with z | z
          · exact absurd hn2 (hb i z)
          · omega
        subst hik
        walk_at "rd"
        exact q _ (s2.trans s3)
      · have e' : ¬ n2 = nm := fun z => e (decide_eq_true (by rw [z]))
        refine Here.mk ⟨_, _, rfl, ?_, s2.trans s3⟩
        rcases Nat.lt_or_ge i k with z | z
        · exact z
        · have : i = k := by omega
          subst this
          rw [hk] at hn2
          exact absurd (Option.some.inj hn2).symm e'
    · rintro σ H2 hv
      obtain ⟨v1, v2, rfl, hi, s2⟩ := hv.out
      have := h3.len
      have hkl := (List.getElem?_eq_some_iff.mp hk).1
      exact absurd hi (by omega)


theorem g_burdens_of (tx : Tx K mg C_Person C_House C_Costs C_EvenCosts C_ChangeCosts C_LevelCosts C_Paper C_Places C_Prices) : FnG P w K mg base "burdens_of" 1 ["house"] (sp_burdens C_Person C_House) := by
  refine tx.f_burdens_of.g sc_burdens_of (fun _ _ _ _ _ _ us hl => match us, hl with | [_], _ => rfl) (fun vs H Q E h => ?_) (fun f cdv A outer s H vs Q E hr h => ?_)
  · obtain ⟨h, ps, W, rfl, _⟩ := h
    rfl
  · obtain ⟨h, ps, W, rfl, hQ, hl, q⟩ := h
    refine ⟨_, (pss_one (ps_ret (pe_comp (osc := defScope s_burdens_of) (ON := ["house"]) (N := ["person"]) (js := [none]) ⟨rfl, by decide +kernel, by decide +kernel, by decide +kernel, rfl, by decide +kernel⟩ rfl rfl rfl (pi_listK (K := K) rfl (pe_fldK (K := K) rfl (pv 0) rfl)) (fun _ _ _ _ _ => pg_name (i := 0) (show List.Nodup (["person"] : List Str) from by decide +kernel) rfl (Or.inl rfl)) (fun _ _ _ _ _ => pifs_nil) (fun _ _ _ _ _ => (pe_fldK (K := K) rfl (pv 0) rfl))))), ?_⟩
    walk_at "st"
    obtain ⟨d, k, a1, a2, a3, a4, a5, a6, qs, ws, ⟨dx, h1⟩, h2, h3, h4, h5⟩ := hQ
    have cH := tx.c_House.cl
    have nH := tx.n_House_persons
    have cP := tx.c_Person.cl
    have nP := tx.n_Person_carried
    have hq := h3.len
    walk_at "rd"
    refine comp_hands ps (fun _ => true) (fun a y _ => y = V.int a.2) (fun σ => ∃ v, σ = [v]) (hands_list (SqL.of h2)) hq (by omega) ⟨_, rfl⟩ (fun _ _ _ _ _ z => z) (fun i a v σ H' ha hv hσ s' Rf Rt _ hR => ?_) (fun D H' ys hD s' hys hDD => ?_)
    · obtain ⟨w1, rfl⟩ := hσ
      obtain ⟨y, hy, b, sk, m, pa, rfl, db, hb⟩ := h3.get ha
      rw [hv] at hy
      cases hy
      have hb' := s' _ _ hb
      walk_at "rd"
      exact hR _ _ _ rfl ⟨_, rfl⟩ (Same.refl _) rfl
    · refine q D H' hD s' ?_
      rw [hDD, hys.eqmap (f := fun a => V.int a.2) (fun a y e => e), List.filter_eq_self.mpr fun _ _ => rfl, List.map_map]
      rfl

theorem g_wishes_by_place (tx : Tx K mg C_Person C_House C_Costs C_EvenCosts C_ChangeCosts C_LevelCosts C_Paper C_Places C_Prices) : FnG P w K mg base "wishes_by_place" 2 ["house"] (sp_byplace C_Person C_House) := by
  have G_place_of := g_place_of (P := P) (w := w) (base := base) tx
  refine tx.f_wishes_by_place.g sc_wishes_by_place (fun _ _ _ _ _ _ us hl => match us, hl with | [_], _ => rfl) (fun vs H Q E h => ?_) (fun f cdv A outer s H vs Q E hr h => ?_)
  · obtain ⟨h, ps, W, rfl, _⟩ := h
    rfl
  · obtain ⟨h, ps, W, rfl, hQ, ⟨hU, hWl, hpl, hWk⟩, q⟩ := h
    refine ⟨_, (pss_cons (ps_set (i := 1) sc_wishes_by_place.nd rfl (Or.inl rfl) pe_dnewT)
      (pss_cons (ps_for PassesOwn.never rfl (pi_listK (K := K) rfl (pe_fldK (K := K) rfl (pv 0) rfl)) (pg_tup rfl (pgs_cons (pg_name (i := 2) sc_wishes_by_place.nd rfl (Or.inl rfl)) (pgs_cons (pg_name (i := 3) sc_wishes_by_place.nd rfl (Or.inl rfl)) (pgs_cons (pg_name (i := 4) sc_wishes_by_place.nd rfl (Or.inl rfl)) pgs_nil)))) (pss_one (ps_expr (pe_bm PySem.F.plainAttrs_list PySem.F.slot_list_append PySem.F.type_list_append mt_append (pe_bm PySem.F.plainAttrs_dict PySem.F.slot_dict_setdefault PySem.F.type_dict_setdefault (mt_setdef (hu_of hr)) (pv 1) (pa_cons (pe_tup (pa_cons (pe_mt G_place_of (hr.mono (by decide)) (pv 0) (pa_cons (pv 2) pa_nil)) (pa_cons (pv 3) pa_nil))) (pa_cons (pe_lst pa_nil) pa_nil))) (pa_cons (pv 4) pa_nil)))))
      (pss_one (ps_ret (pv 1))))), ?_⟩
    walk_at "st"
    clear G_place_of
    have hN := hQ.n
    obtain ⟨dd, k, a1, a2, a3, a4, a5, a6, qs, ws, ⟨dx, h1⟩, h2, h3, h4, h5⟩ := hQ
    have cH := tx.c_House.cl
    have nH := tx.n_House_wishes
    have hwl := h5.len
    walk_at "rd"
    intro D nD
    have s1 : Same H (upd H D (.dT [])) := same_new nD _
    have h11 := s1 _ _ h1
    have h41 := s1 _ _ h4
    have X0 : DW H (upd H D (.dT [])) D [] ([] : List Wi) := ⟨upd_same, Nat.le_refl _, fun p d v h => (by cases h), fun p d _ => rfl, fun p d p' d' v h => (by cases h)⟩
    walk_at "rd"
    refine for_list (K := K) (xs := ws) (fun i σ H2 => Here (∃ v1 v2 v3 kvs, σ = [some (.ref h), some (.ref D), v1, v2, v3] ∧ DW H H2 D kvs (W.take i) ∧ Same H H2)) (Here.mk ⟨none, none, none, [], rfl, X0, s1⟩) (fun i σ H2 _ hv => by obtain ⟨_, _, _, _, _, _, s2⟩ := hv.out; exact SqL.of (s2 _ _ h4)) ?_ ?_
    · rintro i x σ H2 hx hv
      obtain ⟨v1, v2, v3, kvs, rfl, X, s2⟩ := hv.out
      obtain ⟨w0, hw0, t, rfl, ht⟩ := h5.back hx
      have hkn := hWk w0 (List.mem_of_getElem? hw0)
      have hkn' : w0.k < (ps.map (·.1)).length := by rw [List.length_map]; exact hkn
      have hnm : (ps.map (·.1))[w0.k]? = some ((ps.map (·.1)).getD w0.k []) := by rw [List.getD_eq_getElem?_getD, List.getElem?_eq_getElem hkn']; rfl
      have hmin : ∀ j < w0.k, ¬ (ps.map (·.1))[j]? = some ((ps.map (·.1)).getD w0.k []) := fun j hj e => by have := hU j w0.k _ e hnm; omega
      have ht2 := s2 _ _ ht
      have h12 := s2 _ _ h1
      have hN2 := hN.same s2
      have tD : tyV K "dict" (.ref D) H2 := Or.inr (Or.inr (Or.inl ⟨rfl, .inr ⟨kvs, X.d⟩⟩))
      have hln := X.len
      rw [List.length_take] at hln
      have htk : W.take (i + 1) = W.take i ++ [⟨w0.k, w0.day, w0.marks⟩] := by rw [List.take_add_one, hw0]; rfl
      walk_at "rd"
      intro H3 s3
      walk_at "rd"
      intro t3 nt3
      obtain ⟨H4, e4, ht4, s4⟩ := newt (xs := [V.int (w0.k : Nat), V.int (w0.day : Nat)]) nt3
      rw [← e4]
      walk_at "rd"
      intro l nl
      have X4 := X.same (s3.trans s4)
      have S4 := s2.trans (s3.trans s4)
      have s5 : Same H4 (upd H4 l (.lst [])) := same_new nl _
      have X5 := X4.same s5
      refine ⟨D, t3, kvs, ky w0.k w0.day, .ref l, rfl, rfl, X5.d, s5 _ _ ht4, by omega, fun v hv => ?_, fun hn => ?_⟩
      · obtain ⟨a, rfl, na, ha⟩ := X5.there _ _ v hv
        have hla : ((mkOf (W.take i) w0.k w0.day).map T).length ≤ 1000 := by
          rw [List.length_map]
          unfold mkOf
          rw [List.length_map]
          refine Nat.le_trans (List.length_filter_le _ _) ?_
          rw [List.length_take]
          omega
        walk_at "rd"
        refine Here.mk ⟨_, _, _, kvs, rfl, ?_, (S4.trans s5).upd na⟩
        rw [htk]
        exact X5.old hv _
      · have hD5 : (upd (upd H4 l (.lst [])) D (.dT (putK kvs (ky w0.k w0.day) (.ref l)))) l = some (.lst []) := by rw [upd_ne (ne_of_none X4.d nl).symm]; exact upd_same
        walk_at "rd"
        refine Here.mk ⟨_, _, _, putK kvs (ky w0.k w0.day) (.ref l), rfl, ?_, ((S4.trans s5).upd nD).upd (S4.free nl)⟩
        rw [htk]
        exact X4.new hn nl (S4.free nl) _
    · rintro σ H2 hv
      obtain ⟨v1, v2, v3, kvs, rfl, X, s2⟩ := hv.out
      rw [List.take_of_length_le (by omega)] at X
      walk_at "rd"
      exact q D H2 kvs nD s2 X
end

section
variable {P : Program} {w : World} {K : PySem.W.Frag} {mg : Str → Option Value} {base : Heap} {C_Person C_House C_Costs C_EvenCosts C_ChangeCosts C_LevelCosts C_Paper C_Places C_Prices : Addr}
local macro_rules | `(tactic| walk_at "lk") => `(tactic| first | exact lH_wishes _ _ _ _ _ _ _ _ | exact lE_weight _ _ _ | exact lE_burdens _ _ _ | exact lE_wished _ _ _ | exact lC_rows _ | exact lL_burdens _ _ | exact lL_level _ _)
theorem put2 (a b : V) : putF "burdens" b (putF "weight" a []) = ([(("weight" : Str), a), (("burdens" : Str), b)] : List (Str × V)) := by
  show putF "burdens" b ([(("weight" : Str), a)] : List (Str × V)) = _
  rw [putN (fs := [("weight", a)]) (show ∀ g ∈ [("weight" : Str)], g ≠ "burdens" from by decide +kernel)]
  rfl
theorem put3 (a b c : V) : putF "wished" c (putF "burdens" b (putF "weight" a [])) = fE a b c := by
  rw [put2, putN (fs := [("weight", a), ("burdens", b)]) (show ∀ g ∈ [("weight" : Str), "burdens"], g ≠ "wished" from by decide +kernel)]
  rfl
theorem putL (a b : V) : putF "level" b (putF "burdens" a []) = fL a b := by
  show putF "level" b ([(("burdens" : Str), a)] : List (Str × V)) = _
  rw [putN (fs := [("burdens", a)]) (show ∀ g ∈ [("burdens" : Str)], g ≠ "level" from by decide +kernel)]
  rfl

theorem g_Even_init (tx : Tx K mg C_Person C_House C_Costs C_EvenCosts C_ChangeCosts C_LevelCosts C_Paper C_Places C_Prices) : MtG P w K mg base C_EvenCosts "__init__" 3 ["self", "house"] (sp_einit C_Person C_House C_EvenCosts) := by
  have G_burdens_of := g_burdens_of (P := P) (w := w) (base := base) tx
  have G_wishes_by_place := g_wishes_by_place (P := P) (w := w) (base := base) tx
  refine tx.m_EvenCosts_init.g tx.c_EvenCosts.cl sc_EvenCosts_init (fun _ _ _ _ _ _ us hl => match us, hl with | [_, _], _ => rfl) (fun vs H Q E h => ?_) (fun f cdv A outer s H vs Q E hr h => ?_)
  · obtain ⟨p, dx, h, ps, W, rfl, _⟩ := h
    rfl
  · obtain ⟨p, dx, h, ps, W, rfl, hp, hQ, hW, q⟩ := h
    refine ⟨_, (pss_cons (ps_fld (pv 0) (pe_op op_add (pe_callB (call_len_seqK (K := K) rfl) rfl tx.z_len PySem.boot_len (pa_cons (pe_fldK (K := K) rfl (pv 1) rfl) pa_nil)) pe_int) rfl)
      (pss_cons (ps_fld (pv 0) (pe_fn G_burdens_of (hr.mono (by decide)) (pa_cons (pv 1) pa_nil)) rfl)
      (pss_one (ps_fld (pv 0) (pe_fn G_wishes_by_place (hr.mono (by decide)) (pa_cons (pv 1) pa_nil)) rfl)))), ?_⟩
    walk_at "st"
    clear G_burdens_of G_wishes_by_place
    have hQ0 := hQ
    obtain ⟨dd, k, a1, a2, a3, a4, a5, a6, qs, ws, ⟨dh, h1⟩, h2, h3, h4, h5⟩ := hQ
    have cH := tx.c_House.cl
    have nH := tx.n_House_wishes
    have cE := tx.c_EvenCosts.cl
    have n1 := tx.n_EvenCosts_weight
    have n2 := tx.n_EvenCosts_burdens
    have n3 := tx.n_EvenCosts_wished
    have hpl := hW.2.2.1
    have hwl := h5.len
    have B1 : But p H (upd H p (.ins C_EvenCosts dx (putF "weight" (.int ((ws.length : Int) + 1)) []))) := (But.refl p H).at
    have hQ1 : HouQ C_Person C_House (upd H p (.ins C_EvenCosts dx (putF "weight" (.int ((ws.length : Int) + 1)) []))) h ps W := hQ0.kp (B1.kp hp) (by decide)
    have z0 : ([] : List (Str × V)).length < 1000 := by decide
    walk_at "rd"
    intro b H1 nb s1 hb
    have hp1 := s1 _ _ (upd_same (H := H) (a := p) (o := .ins C_EvenCosts dx (putF "weight" (.int ((ws.length : Int) + 1)) [])))
    have B2 : But p H (upd H1 p (.ins C_EvenCosts dx (putF "burdens" (.ref b) (putF "weight" (.int ((ws.length : Int) + 1)) [])))) := (B1.same s1).at
    have hQ2 : HouQ C_Person C_House (upd H1 p (.ins C_EvenCosts dx (putF "burdens" (.ref b) (putF "weight" (.int ((ws.length : Int) + 1)) [])))) h ps W := hQ0.kp (B2.kp hp) (by decide)
    have z1 : (putF "weight" (.int ((ws.length : Int) + 1)) []).length < 1000 := by show 1 < 1000; decide
    have nbp : b ≠ p := (ne_of_none upd_same nb).symm
    have hb2 : upd H1 p (.ins C_EvenCosts dx (putF "burdens" (.ref b) (putF "weight" (.int ((ws.length : Int) + 1)) []))) b = some (.lst ((ps.map (·.2)).map V.int)) := by rw [upd_ne nbp]; exact hb
    walk_at "rd"
    intro D H2 kvs nD s2 X
    have hp2 := s2 _ _ (upd_same (H := H1) (a := p) (o := .ins C_EvenCosts dx (putF "burdens" (.ref b) (putF "weight" (.int ((ws.length : Int) + 1)) []))))
    have z2 : (putF "burdens" (.ref b) (putF "weight" (.int ((ws.length : Int) + 1)) [])).length < 1000 := by rw [put2]; show 2 < 1000; decide
    have hb3 := s2 _ _ hb2
    walk_at "rd"
    have nDp : D ≠ p := ne_of X.d hp2 (fun z => by cases z)
    have fr : ∀ a, a ≠ p → upd H1 p (.ins C_EvenCosts dx (putF "burdens" (.ref b) (putF "weight" (.int ((ws.length : Int) + 1)) []))) a = none → H a = none := fun a na e => by
      rw [upd_ne na] at e
      have := s1.free e
      rwa [upd_ne na] at this
    refine q _ ((B2.same s2).at) fun H'' hk => ⟨dx, b, D, (upd H1 p (.ins C_EvenCosts dx (putF "burdens" (.ref b) (putF "weight" (.int ((ws.length : Int) + 1)) [])))), kvs, ?_, ?_, ⟨?_, X.len, fun p' d' v hv => ?_, X.no, X.inj⟩⟩
    · refine hk _ _ (.inr rfl) ?_
      rw [upd_same, put3, hwl]
    · refine hk _ _ (.inl ?_) (by rw [upd_ne nbp]; exact hb3)
      have := nb
      rwa [upd_ne nbp] at this
    · exact hk _ _ (.inl (fr _ nDp nD)) (by rw [upd_ne nDp]; exact X.d)
    · obtain ⟨a, e, na, ha⟩ := X.there p' d' v hv
      have nap : a ≠ p := ne_of ha hp2 (fun z => by cases z)
      exact ⟨a, e, na, hk _ _ (.inl (fr _ nap na)) (by rw [upd_ne nap]; exact ha)⟩

theorem g_Change_init (tx : Tx K mg C_Person C_House C_Costs C_EvenCosts C_ChangeCosts C_LevelCosts C_Paper C_Places C_Prices) : MtG P w K mg base C_ChangeCosts "__init__" 1 ["self", "house", "rota"] (sp_cinit C_ChangeCosts) := by
  refine tx.m_ChangeCosts_init.g tx.c_ChangeCosts.cl sc_ChangeCosts_init (fun _ _ _ _ _ _ us hl => match us, hl with | [_, _, _], _ => rfl) (fun vs H Q E h => ?_) (fun f cdv A outer s H vs Q E hr h => ?_)
  · obtain ⟨p, dx, hv, b, rows, rfl, _⟩ := h
    rfl
  · obtain ⟨p, dx, hv, b, rows, rfl, hp, hb, q⟩ := h
    refine ⟨_, (pss_one (ps_fld (pv 0) (pe_callTy call_list_of rfl tx.z_list bt_ty_list (pa_cons (pv 2) pa_nil)) rfl)), ?_⟩
    walk_at "st"
    refine ⟨_, rfl, b, _, rfl, .inl (SqL.of hb), fun l nl => ?_⟩
    refine ⟨_, rfl, p, C_ChangeCosts, dx, [], rfl, (upd_ne (ne_of_none hp nl)).trans hp, tx.c_ChangeCosts.cl, tx.n_ChangeCosts_rows, (by show 0 < 1000; decide), ?_⟩
    have zl : l ≠ p := (ne_of_none hp nl).symm
    exact q _ (((But.refl p H).new nl).at) fun H'' hk => ⟨dx, l, hk _ _ (.inr rfl) upd_same, hk _ _ (.inl nl) (by rw [upd_ne zl]; exact upd_same)⟩

theorem g_Level_init (tx : Tx K mg C_Person C_House C_Costs C_EvenCosts C_ChangeCosts C_LevelCosts C_Paper C_Places C_Prices) : MtG P w K mg base C_LevelCosts "__init__" 2 ["self", "house", "level"] (sp_linit C_Person C_House C_LevelCosts) := by
  have G_burdens_of := g_burdens_of (P := P) (w := w) (base := base) tx
  refine tx.m_LevelCosts_init.g tx.c_LevelCosts.cl sc_LevelCosts_init (fun _ _ _ _ _ _ us hl => match us, hl with | [_, _, _], _ => rfl) (fun vs H Q E h => ?_) (fun f cdv A outer s H vs Q E hr h => ?_)
  · obtain ⟨p, dx, h, ps, W, lv, rfl, _⟩ := h
    rfl
  · obtain ⟨p, dx, h, ps, W, lv, rfl, hp, hQ, hpl, q⟩ := h
    refine ⟨_, (pss_cons (ps_fld (pv 0) (pe_fn G_burdens_of (hr.mono (by decide)) (pa_cons (pv 1) pa_nil)) rfl)
      (pss_one (ps_fld (pv 0) (pv 2) rfl))), ?_⟩
    walk_at "st"
    clear G_burdens_of
    have cE := tx.c_LevelCosts.cl
    have n1 := tx.n_LevelCosts_burdens
    have n2 := tx.n_LevelCosts_level
    have z0 : ([] : List (Str × V)).length < 1000 := by decide
    walk_at "rd"
    intro b H1 nb s1 hb
    have hp1 := s1 _ _ hp
    have z1 : (putF "burdens" (.ref b) []).length < 1000 := by show 1 < 1000; decide
    have nbp : b ≠ p := (ne_of_none hp nb).symm
    walk_at "rd"
    refine q _ ((((But.refl p H).same s1).at).at) fun H'' hk => ⟨dx, b, hk _ _ (.inr rfl) ?_, hk _ _ (.inl nb) (by rw [upd_ne nbp, upd_ne nbp]; exact hb)⟩
    rw [upd_same, putL]

theorem g_zc {C : Addr} (tx : Tx K mg C_Person C_House C_Costs C_EvenCosts C_ChangeCosts C_LevelCosts C_Paper C_Places C_Prices) (m : MF K C "of_count" "Costs.of_count" s_Costs_of_count) (cl : Cls K C) : MtG P w K mg base C "of_count" 1 ["self", "p", "many"] sp_z3 := by
  refine m.g cl sc_Costs_of_count (fun _ _ _ _ _ _ us hl => match us, hl with | [_, _, _], _ => rfl) (fun vs H Q E h => ?_) (fun f cdv A outer s H vs Q E hr h => ?_)
  · obtain ⟨a, b, c, rfl, _⟩ := h
    rfl
  · obtain ⟨a, b, c, rfl, q⟩ := h
    refine ⟨_, (pss_one (ps_ret pe_int)), ?_⟩
    walk_at "st"
    walk_at "rd"
    exact q

theorem g_zm {C : Addr} (tx : Tx K mg C_Person C_House C_Costs C_EvenCosts C_ChangeCosts C_LevelCosts C_Paper C_Places C_Prices) (m : MF K C "of_mark" "Costs.of_mark" s_Costs_of_mark) (cl : Cls K C) : MtG P w K mg base C "of_mark" 1 ["self", "p", "day", "mark"] sp_z4 := by
  refine m.g cl sc_Costs_of_mark (fun _ _ _ _ _ _ us hl => match us, hl with | [_, _, _, _], _ => rfl) (fun vs H Q E h => ?_) (fun f cdv A outer s H vs Q E hr h => ?_)
  · obtain ⟨a, b, c, d, rfl, _⟩ := h
    rfl
  · obtain ⟨a, b, c, d, rfl, q⟩ := h
    refine ⟨_, (pss_one (ps_ret pe_int)), ?_⟩
    walk_at "st"
    walk_at "rd"
    exact q

theorem g_Even_cnt (tx : Tx K mg C_Person C_House C_Costs C_EvenCosts C_ChangeCosts C_LevelCosts C_Paper C_Places C_Prices) : MtG P w K mg base C_EvenCosts "of_count" 1 ["self", "p", "many"] (sp_ecnt C_EvenCosts) := by
  refine tx.m_EvenCosts_of_count.g tx.c_EvenCosts.cl sc_EvenCosts_of_count (fun _ _ _ _ _ _ us hl => match us, hl with | [_, _, _], _ => rfl) (fun vs H Q E h => ?_) (fun f cdv A outer s H vs Q E hr h => ?_)
  · obtain ⟨e, p, many, cs, W, rfl, _⟩ := h
    rfl
  · obtain ⟨e, p, many, cs, W, rfl, ⟨dx, b, D, H0, kvs, h1, h2, _⟩, p0, p1, hw, hbig, q⟩ := h
    refine ⟨_, (pss_one (ps_ret (pe_op op_mul (pe_fldK (K := K) rfl (pv 0) rfl) (pe_op op_powB (pe_op op_add (pe_ix (ix_listK (K := K) rfl) (pe_fldK (K := K) rfl (pv 0) rfl) (pv 1) (fun _ _ => rfl)) (pv 2)) pe_int)))), ?_⟩
    walk_at "st"
    have cE := tx.c_EvenCosts.cl
    have n1 := tx.n_EvenCosts_weight
    have n2 := tx.n_EvenCosts_burdens
    have e1 := cell_lit p0 p1
    have hc : CPowB (cellF cs p + many) 2 := ⟨by decide, by decide, Nat.lt_of_lt_of_le hbig (Nat.pow_le_pow_right (by decide) (by decide))⟩
    walk_at "rd"
    exact q

theorem g_Even_mrk (tx : Tx K mg C_Person C_House C_Costs C_EvenCosts C_ChangeCosts C_LevelCosts C_Paper C_Places C_Prices) : MtG P w K mg base C_EvenCosts "of_mark" 1 ["self", "p", "day", "mark"] (sp_emrk C_EvenCosts) := by
  refine tx.m_EvenCosts_of_mark.g tx.c_EvenCosts.cl sc_EvenCosts_of_mark (fun _ _ _ _ _ _ us hl => match us, hl with | [_, _, _, _], _ => rfl) (fun vs H Q E h => ?_) (fun f cdv A outer s H vs Q E hr h => ?_)
  · obtain ⟨e, p, d, c, cs, W, rfl, _⟩ := h
    rfl
  · obtain ⟨e, p, d, c, cs, W, rfl, ⟨dx, b, D, H0, kvs, h1, h2, X⟩, hw, q⟩ := h
    refine ⟨_, (pss_one (ps_ret (pe_callB (call_len_seqK (K := K) rfl) rfl tx.z_len PySem.boot_len (pa_cons (pe_comp (osc := defScope s_EvenCosts_of_mark) (ON := ["self", "p", "day", "mark"]) (N := ["marks", "mark"]) (js := [none, some 3]) ⟨rfl, by decide +kernel, by decide +kernel, by decide +kernel, rfl, by decide +kernel⟩ rfl rfl rfl (pi_listK (K := K) rfl (pe_bm PySem.F.plainAttrs_dict PySem.F.slot_dict_get PySem.F.type_dict_get (mt_getD (hu_of hr)) (pe_fldK (K := K) rfl (pv 0) rfl) (pa_cons (pe_tup (pa_cons (pv 1) (pa_cons (pv 2) pa_nil))) (pa_cons (pe_lst pa_nil) pa_nil)))) (fun _ _ _ _ _ => pg_name (i := 0) (show List.Nodup (["marks", "mark"] : List Str) from by decide +kernel) rfl (Or.inl rfl)) (fun _ _ _ _ _ => pifs_one (pt_cmpR op_notinS (pv 1) (pv 0) rfl)) (fun _ _ _ _ _ => (pv 0))) pa_nil)))), ?_⟩
    walk_at "st"
    have cE := tx.c_EvenCosts.cl
    have n1 := tx.n_EvenCosts_wished
    have tD : tyV K "dict" (.ref D) H := Or.inr (Or.inr (Or.inl ⟨rfl, .inr ⟨kvs, X.d⟩⟩))
    walk_at "rd"
    intro t nt
    obtain ⟨H1, e1, ht, s1⟩ := newt (xs := [V.int (p : Nat), V.int (d : Nat)]) nt
    rw [← e1]
    walk_at "rd"
    intro l nl
    obtain ⟨H2, e2, hl, s2⟩ := newl (xs := []) nl
    rw [← e2]
    have X2 := X.same (s1.trans s2)
    obtain ⟨g, hg, hgl⟩ : ∃ g, (valV kvs (ky p d)).getD (.ref l) = .ref g ∧ H2 g = some (.lst ((mkOf W p d).map T)) := by
      cases hv : valV kvs (ky p d) with
      | none => exact ⟨l, rfl, by rw [X2.no _ _ hv]; exact hl⟩
      | some v =>
        obtain ⟨a, rfl, _, ha⟩ := X2.there _ _ v hv
        exact ⟨a, rfl, ha⟩
    refine ⟨D, .ref t, .ref l, valV kvs (ky p d), rfl, rfl, DGet.t X2.d (s2 _ _ ht), ?_⟩
    rw [hg]
    refine ⟨g, rfl, ⟨_, SqL.of hgl⟩, ?_⟩
    have hml : (mkOf W p d).length ≤ 200 := by
      unfold mkOf
      rw [List.length_map]
      exact Nat.le_trans (List.length_filter_le _ _) hw
    refine comp_hands (mkOf W p d) (fun ms => !decide (c ∈ ms)) (fun _ _ _ => True) (fun σ => ∃ v, σ = [v, some (T [c])]) (hands_list (SqL.of hgl)) (by rw [List.length_map]) (by omega) ⟨_, rfl⟩ (fun _ _ _ _ _ z => z) (fun i a v σ H' ha hv hσ s' Rf Rt hF hR => ?_) (fun D2 H3 ys hD s3 hys hDD => ?_)
    · obtain ⟨w1, rfl⟩ := hσ
      rw [List.getElem?_map, ha] at hv
      cases hv
      walk_at "rd"
      refine ite2 (fun c1 => ?_) (fun c1 => ?_)
      · walk_at "rd"
        exact hR _ _ _ c1 ⟨_, rfl⟩ (Same.refl _) trivial
      · exact hF _ _ (Bool.eq_false_iff.mpr c1) ⟨_, rfl⟩ (Same.refl _)
    have hlen := hys.len
    walk_at "rd"
    rw [hlen]
    exact q H3 ((s1.trans s2).trans s3)

theorem g_Change_mrk (tx : Tx K mg C_Person C_House C_Costs C_EvenCosts C_ChangeCosts C_LevelCosts C_Paper C_Places C_Prices) : MtG P w K mg base C_ChangeCosts "of_mark" 1 ["self", "p", "day", "mark"] (sp_cmrk C_ChangeCosts) := by
  refine tx.m_ChangeCosts_of_mark.g tx.c_ChangeCosts.cl sc_ChangeCosts_of_mark (fun _ _ _ _ _ _ us hl => match us, hl with | [_, _, _, _], _ => rfl) (fun vs H Q E h => ?_) (fun f cdv A outer s H vs Q E hr h => ?_)
  · obtain ⟨e, p, d, c, x, rows, row, rfl, _⟩ := h
    rfl
  · obtain ⟨e, p, d, c, x, rows, row, rfl, ⟨dx, r, h1, h2⟩, hr1, hx, hl, q⟩ := h
    refine ⟨_, (pss_one (ps_ret (pe_ifExp (pt_cmpR op_eq (pe_ix ix_txt (pe_ix (ix_listK (K := K) rfl) (pe_fldK (K := K) rfl (pv 0) rfl) (pv 1) (fun _ _ => rfl)) (pv 2) (fun _ _ => rfl)) (pv 3) (nomark _)) pe_int pe_int))), ?_⟩
    walk_at "st"
    have cE := tx.c_ChangeCosts.cl
    have n1 := tx.n_ChangeCosts_rows
    have e1 : atI (rows.map T) (p : Int) = some (T row) := atI_nat (by rw [List.getElem?_map, hr1]; rfl)
    have e2 : atI row (d : Int) = some x := atI_nat hx
    walk_at "rd"
    refine ite2 (fun z => ?_) (fun z => ?_)
    · have z' : x = c := by have := T_inj (of_decide_eq_true z); simpa using this
      rw [if_pos z'] at q
      walk_at "rd"
      exact q
    · have z' : ¬ x = c := fun y => z (decide_eq_true (by rw [y]))
      rw [if_neg z'] at q
      walk_at "rd"
      exact q

theorem g_Level_cnt (tx : Tx K mg C_Person C_House C_Costs C_EvenCosts C_ChangeCosts C_LevelCosts C_Paper C_Places C_Prices) : MtG P w K mg base C_LevelCosts "of_count" 1 ["self", "p", "many"] (sp_lcnt C_LevelCosts) := by
  refine tx.m_LevelCosts_of_count.g tx.c_LevelCosts.cl sc_LevelCosts_of_count (fun _ _ _ _ _ _ us hl => match us, hl with | [_, _, _], _ => rfl) (fun vs H Q E h => ?_) (fun f cdv A outer s H vs Q E hr h => ?_)
  · obtain ⟨e, p, many, cs, lv, rfl, _⟩ := h
    rfl
  · obtain ⟨e, p, many, cs, lv, rfl, ⟨dx, b, h1, h2⟩, p0, p1, q⟩ := h
    refine ⟨_, (pss_one (ps_ret (pe_callB (call_max2 rfl) rfl tx.z_max bt_max (pa_cons pe_int (pa_cons (pe_op op_sub (pe_op op_add (pe_ix (ix_listK (K := K) rfl) (pe_fldK (K := K) rfl (pv 0) rfl) (pv 1) (fun _ _ => rfl)) (pv 2)) (pe_fldK (K := K) rfl (pv 0) rfl)) pa_nil))))), ?_⟩
    walk_at "st"
    have cE := tx.c_LevelCosts.cl
    have n1 := tx.n_LevelCosts_burdens
    have n2 := tx.n_LevelCosts_level
    have e1 := cell_lit p0 p1
    walk_at "rd"
    exact q
end

/-! ### a house: needs and may -/
theorem lH_m {m : Str} (a b c d e f g h : V) (h1 : m ≠ "days") (h2 : m ≠ "kinds") (h3 : m ≠ "needs") (h4 : m ≠ "persons") (h5 : m ≠ "leave") (h6 : m ≠ "wishes") (h7 : m ≠ "rules") (h8 : m ≠ "pairs") : List.lookup m (fH a b c d e f g h) = none := by
  rw [lk_ne h1, lk_ne h2, lk_ne h3, lk_ne h4, lk_ne h5, lk_ne h6, lk_ne h7, lk_ne h8]
  rfl
theorem lH_need (a b c d e f g h : V) : List.lookup ("need" : Str) (fH a b c d e f g h) = none := lH_m _ _ _ _ _ _ _ _ (by decide +kernel) (by decide +kernel) (by decide +kernel) (by decide +kernel) (by decide +kernel) (by decide +kernel) (by decide +kernel) (by decide +kernel)
theorem lH_may (a b c d e f g h : V) : List.lookup ("may" : Str) (fH a b c d e f g h) = none := lH_m _ _ _ _ _ _ _ _ (by decide +kernel) (by decide +kernel) (by decide +kernel) (by decide +kernel) (by decide +kernel) (by decide +kernel) (by decide +kernel) (by decide +kernel)
def Hk (C1 C2 : Addr) (H : Hp) (h : Addr) (dd : Int) (ks : List Nat) (nds : List Nd) (ps : List Ps) (ls : List (List Nat × Int)) : Prop :=
  ∃ a1 a2 a3 a4 a5 a6 xs ys zs ws, HouAt C2 H h dd ks a1 a2 a3 a4 a5 a6 ∧ H a1 = some (.lst xs) ∧ All2 NdAt H nds xs ∧ H a2 = some (.lst ys) ∧ All2 (PsO C1) H ps ys ∧ H a3 = some (.lst zs) ∧ All2 LvT H ls zs ∧ H a4 = some (.lst ws)
theorem Hk.same {C1 C2 : Addr} {H H' : Hp} {h : Addr} {dd : Int} {ks : List Nat} {nds : List Nd} {ps : List Ps} {ls : List (List Nat × Int)} (x : Hk C1 C2 H h dd ks nds ps ls) (s : Same H H') : Hk C1 C2 H' h dd ks nds ps ls := by
  obtain ⟨a1, a2, a3, a4, a5, a6, xs, ys, zs, ws, h1, h2, h3, h4, h5, h6, h7, h8⟩ := x
  exact ⟨a1, a2, a3, a4, a5, a6, xs, ys, zs, ws, h1.keeps s.keeps, s _ _ h2, h3.imp fun a y => NdAt.keeps a y _ _ s.keeps, s _ _ h4, h5.imp fun a y => PsO.keeps a y _ _ s.keeps, s _ _ h6, h7.imp fun a y => LvT.keeps a y _ _ s.keeps, s _ _ h8⟩
def mayP (ks : List Nat) (nds : List Nd) (ls : List (List Nat × Int)) (p : Ps) (d : Int) : List Nat := if awayF ls p.nm d = true then [] else (ks.filter fun k => decide (k ∈ p.sk)).filter fun k => decide (1 ≤ (needF nds d k).2)
theorem need_of {nds : List Nd} (hU : nds.Pairwise apartN) {n : Nd} (h : n ∈ nds) : needF nds n.day n.kind = (n.least, n.most) := by
  obtain ⟨i, hi⟩ := List.getElem?_of_mem h
  refine needF_hit (i := i) (fun j hj m hm => ?_) hi ⟨rfl, rfl⟩
  have h1 := (List.getElem?_eq_some_iff.mp hi).1
  have h2 := (List.getElem?_eq_some_iff.mp hm).1
  have := List.pairwise_iff_getElem.mp hU j i h2 h1 hj
  rw [(List.getElem?_eq_some_iff.mp hi).2, (List.getElem?_eq_some_iff.mp hm).2] at this
  exact this
theorem may_can {ks : List Nat} {nds : List Nd} {ls : List (List Nat × Int)} {p : Ps} {n : Nd} (hU : nds.Pairwise apartN) (hn : n ∈ nds) (hk : n.kind ∈ ks) : decide (n.kind ∈ mayP ks nds ls p n.day) = canB ls p n := by
  unfold mayP canB
  by_cases ha : awayF ls p.nm n.day = true
  · rw [if_pos ha, ha]
    simp
  · rw [if_neg ha, Bool.eq_false_iff.mpr ha, Bool.not_false, Bool.and_true]
    have hN := need_of hU hn
    by_cases h1 : n.kind ∈ p.sk <;> by_cases h2 : 0 < n.most
    · rw [decide_eq_true h1, decide_eq_true h2]
      refine decide_eq_true (List.mem_filter.mpr ⟨List.mem_filter.mpr ⟨hk, decide_eq_true h1⟩, ?_⟩)
      rw [hN]
      exact decide_eq_true (by show 1 ≤ n.most; omega)
    · rw [decide_eq_false h2, Bool.and_false]
      refine decide_eq_false fun z => h2 ?_
      have := of_decide_eq_true (List.mem_filter.mp z).2
      rw [hN] at this
      have : 1 ≤ n.most := this
      omega
    · rw [decide_eq_false h1, Bool.false_and]
      exact decide_eq_false fun z => h1 (of_decide_eq_true (List.mem_filter.mp (List.mem_filter.mp z).1).2)
    · rw [decide_eq_false h1, Bool.false_and]
      exact decide_eq_false fun z => h1 (of_decide_eq_true (List.mem_filter.mp (List.mem_filter.mp z).1).2)
def sp_need2 (C1 C2 : Addr) : Sp := fun vs H Q _ => ∃ (h : Addr) (d : Int) (k : Nat) (dd : Int) (ks : List Nat) (nds : List Nd) (ps : List Ps) (ls : List (List Nat × Int)), vs = [.ref h, .int d, T [k]] ∧ Hk C1 C2 H h dd ks nds ps ls ∧ ∀ (t : Addr) (H' : Hp), Same H H' → H' t = some (.tup [.int (needF nds d k).1, .int (needF nds d k).2]) → Q (.ref t) H'
def sp_may2 (C1 C2 : Addr) : Sp := fun vs H Q _ => ∃ (h : Addr) (p d : Int) (dd : Int) (ks : List Nat) (nds : List Nd) (ps : List Ps) (ls : List (List Nat × Int)) (n : Ps), vs = [.ref h, .int p, .int d] ∧ Hk C1 C2 H h dd ks nds ps ls ∧ 0 ≤ p ∧ ps[p.toNat]? = some n ∧ ks.length ≤ 3 ∧ ∀ H', Same H H' → Q (T (mayP ks nds ls n d)) H'
theorem at0 (a b : V) : atI [a, b] 0 = some a := by simp [atI, ixN]
theorem at1 (a b : V) : atI [a, b] 1 = some b := by simp [atI, ixN]
def onT (f : Nat → Bool) : V → Bool
  | .str ⟨⟨[c]⟩⟩ => f c
  | _ => false
theorem txt_filter (ks : List Nat) (f : Nat → Bool) : (((ks.map fun c => T [c]).filter (onT f)).map (fun x => x)) = (ks.filter f).map fun c => T [c] := by
  rw [List.map_id', List.filter_map]
  rfl
section
variable {P : Program} {w : World} {K : PySem.W.Frag} {mg : Str → Option Value} {base : Heap} {C_Person C_House C_Costs C_EvenCosts C_ChangeCosts C_LevelCosts C_Paper C_Places C_Prices : Addr}
local macro_rules | `(tactic| walk_at "lk") => `(tactic| first | exact lP_name _ _ _ _ _ | exact lP_skills _ _ _ _ _ | exact lP_most _ _ _ _ _ | exact lP_carried _ _ _ _ _ | exact lH_persons _ _ _ _ _ _ _ _ | exact lH_needs _ _ _ _ _ _ _ _ | exact lH_leave _ _ _ _ _ _ _ _ | exact lH_kinds _ _ _ _ _ _ _ _ | exact lH_wishes _ _ _ _ _ _ _ _ | exact lH_need _ _ _ _ _ _ _ _ | exact lH_may _ _ _ _ _ _ _ _ | exact Or.inr (SqT.of (by with_reducible assumption)))

theorem g_need (tx : Tx K mg C_Person C_House C_Costs C_EvenCosts C_ChangeCosts C_LevelCosts C_Paper C_Places C_Prices) : MtG P w K mg base C_House "need" 1 ["self", "day", "kind"] (sp_need2 C_Person C_House) := by
  refine tx.m_House_need.g tx.c_House.cl sc_House_need (fun _ _ _ _ _ _ us hl => match us, hl with | [_, _, _], _ => rfl) (fun vs H Q E h => ?_) (fun f cdv A outer s H vs Q E hr h => ?_)
  · obtain ⟨h, d, k, dd, ks, nds, pns, ls, rfl, _⟩ := h
    rfl
  · obtain ⟨h, d, k, dd, ks, nds, pns, ls, rfl, ⟨a1, a2, a3, a4, a5, a6, xs, ys, zs, ws, ⟨dx, h1⟩, h2, h3, _⟩, q⟩ := h
    refine ⟨_, (pss_cons (ps_for PassesOwn.never rfl (pi_listK (K := K) rfl (pe_fldK (K := K) rfl (pv 0) rfl)) (pg_tup rfl (pgs_cons (pg_name (i := 3) sc_House_need.nd rfl (Or.inl rfl)) (pgs_cons (pg_name (i := 4) sc_House_need.nd rfl (Or.inl rfl)) (pgs_cons (pg_name (i := 5) sc_House_need.nd rfl (Or.inl rfl)) (pgs_cons (pg_name (i := 6) sc_House_need.nd rfl (Or.inl rfl)) pgs_nil))))) (pss_one (ps_if (PW.pt (pw_and (pt_cmpR op_eq (pv 3) (pv 1) (nomark _)) (pw_and1 (pt_cmpR op_eq (pv 4) (pv 2) (nomark _))))) (pss_one (ps_ret (pe_tup (pa_cons (pv 5) (pa_cons (pv 6) pa_nil))))) pss_nil)))
      (pss_one (ps_ret (pe_tup (pa_cons pe_int (pa_cons pe_int pa_nil)))))), ?_⟩
    walk_at "st"
    have cH := tx.c_House.cl
    have nH := tx.n_House_needs
    walk_at "rd"
    refine for_list (K := K) (xs := xs) (fun i σ H2 => Here (∃ v1 v2 v3 v4, σ = [some (.ref h), some (.int d), some (T [k]), v1, v2, v3, v4] ∧ (∀ j < i, ∀ n, nds[j]? = some n → ¬ (n.day = d ∧ n.kind = k)) ∧ H2 = H)) (Here.mk ⟨none, none, none, none, rfl, fun j hj => absurd hj (Nat.not_lt_zero _), rfl⟩) (fun i σ H2 _ hv => by obtain ⟨_, _, _, _, _, _, e⟩ := hv.out; rw [e]; exact SqL.of h2) ?_ ?_
    · rintro i x σ H2 hx hv
      obtain ⟨v1, v2, v3, v4, rfl, hno, rfl⟩ := hv.out
      obtain ⟨n, hn, t, rfl, ht⟩ := h3.back hx
      have nx : ¬ (n.day = d ∧ n.kind = k) → ∀ j < i + 1, ∀ m, nds[j]? = some m → ¬ (m.day = d ∧ m.kind = k) := fun z j hj m hm => by
        rcases Nat.lt_or_ge j i with y | y
        · exact hno j y m hm
        · have : j = i := by omega
          subst this
          rw [hn] at hm
          cases hm
          exact z
      walk_at "rd"
      refine ite2 (fun e1 => ?_) (fun e1 => ?_)
      · have e1' : n.day = d := by have := of_decide_eq_true e1; injection this
        walk_at "rd"
        refine ite2 (fun e2 => ?_) (fun e2 => ?_)
        · have e2' : n.kind = k := by have := T_inj (of_decide_eq_true e2); simpa using this
          walk_at "rd"
          intro t2 ht2
          refine q t2 _ (same_new ht2 _) ?_
          rw [upd_same, needF_hit hno hn ⟨e1', e2'⟩]
        · exact Here.mk ⟨_, _, _, _, rfl, nx fun z => e2 (decide_eq_true (by rw [z.2])), rfl⟩
      · walk_at "rd"
        exact Here.mk ⟨_, _, _, _, rfl, nx fun z => e1 (decide_eq_true (by rw [z.1])), rfl⟩
    · rintro σ H2 hv
      obtain ⟨v1, v2, v3, v4, rfl, hno, rfl⟩ := hv.out
      walk_at "rd"
      intro t2 ht2
      refine q t2 _ (same_new ht2 _) ?_
      rw [upd_same, needF_none (by rw [← h3.len]; exact hno)]

theorem g_may (tx : Tx K mg C_Person C_House C_Costs C_EvenCosts C_ChangeCosts C_LevelCosts C_Paper C_Places C_Prices) : MtG P w K mg base C_House "may" 2 ["self", "p", "day"] (sp_may2 C_Person C_House) := by
  have G_need := g_need (P := P) (w := w) (base := base) tx
  refine tx.m_House_may.g tx.c_House.cl sc_House_may (fun _ _ _ _ _ _ us hl => match us, hl with | [_, _, _], _ => rfl) (fun vs H Q E h => ?_) (fun f cdv A outer s H vs Q E hr h => ?_)
  · obtain ⟨h, p, d, dd, ks, nds, pns, ls, n, rfl, _⟩ := h
    rfl
  · obtain ⟨h, p, d, dd, ks, nds, pns, ls, n, rfl, hs, hp0, hn, hkl, q⟩ := h
    have hs' := hs
    obtain ⟨a1, a2, a3, a4, a5, a6, xs, ys, zs, ws, ⟨dx, h1⟩, h2, h3, h4, h5, h6, h7, h8⟩ := hs'
    refine ⟨_, (pss_cons (ps_set (i := 3) sc_House_may.nd rfl (Or.inr rfl) (pe_ix (ix_listK (K := K) rfl) (pe_fldK (K := K) rfl (pv 0) rfl) (pv 1) (fun _ _ => rfl)))
      (pss_cons (ps_if (pt_cmpR (op_inT (K := K) rfl (hu_of hr)) (pe_tup (pa_cons (pe_fldK (K := K) rfl (pv 3) rfl) (pa_cons (pv 2) pa_nil))) (pe_fldK (K := K) rfl (pv 0) rfl) rfl) (pss_one (ps_ret (pe_txt (l := []) (by decide +kernel)))) pss_nil)
      (pss_cons (ps_setC (k := 4) (osc := defScope s_House_may) (ON := ["self", "p", "day", "person", "able"]) (N := ["kind", "person"]) (js := [none, some 3]) sc_House_may.nd rfl (Or.inl rfl) ⟨rfl, by decide +kernel, by decide +kernel, by decide +kernel, rfl, by decide +kernel⟩ rfl rfl rfl (pi_txt (pe_fldK (K := K) rfl (pv 0) rfl)) (fun _ _ _ _ _ => pg_name (i := 0) (show List.Nodup (["kind", "person"] : List Str) from by decide +kernel) rfl (Or.inl rfl)) (fun _ _ _ _ _ => pifs_one (pt_cmpR op_inS (pv 0) (pe_fldK (K := K) rfl (pv 1) rfl) rfl)) (fun _ _ _ _ _ => (pv 0)))
      (pss_one (ps_ret (pe_joinK (K := K) rfl (pe_txt (l := []) (by decide +kernel)) (pa_cons (pe_comp (osc := defScope s_House_may) (ON := ["self", "p", "day", "person", "able"]) (N := ["kind", "day", "self"]) (js := [none, some 2, some 0]) ⟨rfl, by decide +kernel, by decide +kernel, by decide +kernel, rfl, by decide +kernel⟩ rfl rfl rfl (pi_listK (K := K) rfl (pv 4)) (fun _ _ _ _ _ => pg_name (i := 0) (show List.Nodup (["kind", "day", "self"] : List Str) from by decide +kernel) rfl (Or.inl rfl)) (fun _ _ _ _ _ => pifs_one (pt_cmpR op_ge (pe_ix (ix_tupK (K := K) rfl) (pe_mt G_need (hr.mono (by decide)) (pv 2) (pa_cons (pv 1) (pa_cons (pv 0) pa_nil))) pe_int (fun _ _ => rfl)) pe_int (nomark _))) (fun _ _ _ _ _ => (pv 0))) pa_nil))))))), ?_⟩
    walk_at "st"
    clear G_need
    have cH := tx.c_House.cl
    have nH1 := tx.n_House_persons
    have nH2 := tx.n_House_leave
    have nH3 := tx.n_House_kinds
    have cP := tx.c_Person.cl
    have nP1 := tx.n_Person_name
    have nP2 := tx.n_Person_skills
    obtain ⟨y, hy, pa, rfl, dxp, hp⟩ := h5.get hn
    have hix : atI ys p = some (.ref pa) := by have := atI_nat hy; rwa [Int.toNat_of_nonneg hp0] at this
    walk_at "rd"
    intro t ht
    obtain ⟨H1, e1, ht1, s1⟩ := newt (xs := [T n.nm, .int d]) ht
    rw [← e1]
    have k1 := s1 _ _ h1
    have k6 := s1 _ _ h6
    have kp := s1 _ _ hp
    have k7 := lv_tp (K := K) (h7.imp fun a y => LvT.keeps a y _ _ s1.keeps)
    have fl : ([T n.nm, V.int d] : List V).all flatV = true := rfl
    walk_at "rd"
    refine ite2 (fun e => ?_) (fun e => ?_)
    · have e' : awayF ls n.nm d = true := e
      walk_at "rd"
      have := q H1 s1
      unfold mayP at this
      rw [if_pos e'] at this
      exact this
    have e' : ¬ awayF ls n.nm d = true := e
    have q' := q
    unfold mayP at q'
    rw [if_neg e'] at q'
    clear e e' q k6 k7 fl ht1 e1 ht h2 h3 h4 h5 h6 h7
    walk_at "rd"
    refine comp_by (onT fun k => decide (k ∈ n.sk)) (fun x => x) (hands_txt ks) ?_ (fun x hx H' s' R hR => ?_) (fun x hx hpx H' s' R hR => ?_) (fun ab H2 nab s2 hab => ?_)
    · rw [List.length_map]; omega
    · obtain ⟨k, _, rfl⟩ := List.mem_map.mp hx
      have kp' := s' _ _ kp
      walk_at "rd"
      exact hR H' (Same.refl _)
    · walk_at "rd"
      exact hR H' (Same.refl _)
    rw [txt_filter] at hab
    have hl := List.length_filter_le (fun k => decide (k ∈ n.sk)) ks
    generalize ks.filter (fun k => decide (k ∈ n.sk)) = as at hab q' hl
    have hs2 := hs.same (s1.trans s2)
    walk_at "rd"
    refine comp_hands as (fun k => decide (1 ≤ (needF nds d k).2)) (fun k y _ => y = T [k]) (fun σ => ∃ v, σ = [v, some (.int d), some (.ref h)]) (hands_list (SqL.of hab)) (by rw [List.length_map]) (by omega) ⟨_, rfl⟩ (fun _ _ _ _ _ z => z) (fun i k v σ H' hk hv hσ s' Rf Rt hF hR => ?_) (fun D H3 rs nD s3 hrs hD => ?_)
    · obtain ⟨w1, rfl⟩ := hσ
      rw [List.getElem?_map, hk] at hv
      cases hv
      have hs' := hs2.same s'
      have k1' := s' _ _ (s2 _ _ k1)
      walk_at "rd"
      intro t2 H4 s4 ht2
      have e2 := at1 (V.int (needF nds d k).1) (V.int (needF nds d k).2)
      walk_at "rd"
      refine ite2 (fun e => ?_) (fun e => ?_)
      · walk_at "rd"
        exact hR _ _ _ e ⟨_, rfl⟩ s4 rfl
      · exact hF _ _ (Bool.eq_false_iff.mpr e) ⟨_, rfl⟩ s4
    have hl2 := List.length_filter_le (fun k => decide (1 ≤ (needF nds d k).2)) as
    have er := hrs.eqmap (f := fun k => T [k]) (fun a y e => e)
    generalize as.filter (fun k => decide (1 ≤ (needF nds d k).2)) = bs at hl2 er q'
    have hD3 : SqL K H3 D ((bs.map fun c => [c]).map T) := by rw [List.map_map]; refine SqL.of ?_; rw [hD, er]; rfl
    have hjl : (((bs.map fun c => [c]).map List.length).sum + (bs.map fun c => [c]).length * ([] : List Nat).length ≤ 16777216) := by
      rw [sum_ones, List.length_map, List.length_nil, Nat.mul_zero]
      omega
    walk_at "rd"
    rw [joinN_nil, flat_ones]
    exact q' H3 ((s1.trans s2).trans s3)
end

/-! ### k52: the prices' parts -/
def sp_fneed : Sp := fun vs H Q _ => ∃ (t : Addr) (n : Nd) (z : Int), vs = [.ref t, .int z] ∧ NdAt n (.ref t) H ∧ (-(2 ^ 64) < n.least ∧ n.least < 2 ^ 64) ∧ (-(2 ^ 64) < n.most ∧ n.most < 2 ^ 64) ∧ Q (.int (if z * n.most < z * n.least then z * n.most else z * n.least)) H
def sp_chg (C1 C2 : Addr) : Sp := fun vs H Q _ => ∃ (h pl : Addr) (dd : Int) (ks : List Nat) (nds : List Nd) (ps : List Ps) (ls : List (List Nat × Int)) (ods : List Int), vs = [.ref h, .ref pl] ∧ Hk C1 C2 H h dd ks nds ps ls ∧ H pl = some (.lst (ods.map V.int)) ∧ nds.Pairwise apartN ∧ nds.length ≤ 21 ∧ ods.length = nds.length ∧
  ∀ D H' kvs, H D = none → Same H H' → H' D = some (.dT kvs) → (∀ n z, (n, z) ∈ nds.zip ods → valV kvs (kd n.day n.kind) = some (.int z)) → Q (.ref D) H'
def sp_fcnt (P : Program) (w : World) (K : PySem.W.Frag) (mg : Str → Option Value) (base : Heap) (C1 C2 : Addr) : Sp := fun vs H Q _ => ∃ (h c : Addr) (p z : Int) (dd : Int) (ks : List Nat) (nds : List Nd) (ps : List Ps) (ls : List (List Nat × Int)) (f : Int → Int → Int) (g : Int → Int → Nat → Int) (n : Ps), vs = [.ref h, .ref c, .int p, .int z] ∧ Hk C1 C2 H h dd ks nds ps ls ∧ CoQ P w K mg base H c f g ps.length dd ∧ 0 ≤ p ∧ ps[p.toNat]? = some n ∧ 0 ≤ n.most ∧ n.most ≤ 9 ∧ ∀ H', Same H H' → Q (.int (minI (cntL f z p n.most))) H'
def dayL (g : Int → Int → Nat → Int) (p d z : Int) (ms : List Nat) (ch : Nat → Int) : List Int := g p d 45 :: ms.map fun k => g p d k + z - ch k
def sp_fday (P : Program) (w : World) (K : PySem.W.Frag) (mg : Str → Option Value) (base : Heap) (C1 C2 : Addr) : Sp := fun vs H Q _ => ∃ (h c D : Addr) (p d z : Int) (dd : Int) (ks : List Nat) (nds : List Nd) (ps : List Ps) (ls : List (List Nat × Int)) (f : Int → Int → Int) (g : Int → Int → Nat → Int) (n : Ps) (kvs : List (List Key × V)) (ch : Nat → Int), vs = [.ref h, .ref c, .int p, .int d, .int z, .ref D] ∧ Hk C1 C2 H h dd ks nds ps ls ∧ CoQ P w K mg base H c f g ps.length dd ∧ 0 ≤ p ∧ ps[p.toNat]? = some n ∧ 0 ≤ d ∧ d < dd ∧ ks.length ≤ 3 ∧ H D = some (.dT kvs) ∧ (∀ k ∈ mayP ks nds ls n d, valV kvs (kd d k) = some (.int (ch k))) ∧ ∀ H', Same H H' → Q (.int (minI (dayL g p d z (mayP ks nds ls n d) ch))) H'
theorem lH_days' (a b c d e f g h : V) : List.lookup ("days" : Str) (fH a b c d e f g h) = some a := lk_eq
theorem may_len (ks : List Nat) (nds : List Nd) (ls : List (List Nat × Int)) (p : Ps) (d : Int) : (mayP ks nds ls p d).length ≤ ks.length := by
  unfold mayP
  split
  · exact Nat.zero_le _
  · exact Nat.le_trans (List.length_filter_le _ _) (List.length_filter_le _ _)
abbrev fPr (a b : V) : List (Str × V) := [("persons", a), ("needs", b)]
theorem lPr_persons (a b : V) : List.lookup ("persons" : Str) (fPr a b) = some a := lk_eq
theorem lPr_needs (a b : V) : List.lookup ("needs" : Str) (fPr a b) = some b := by rw [lk_ne (by decide +kernel), lk_eq]
theorem lPr_floor (a b : V) : List.lookup ("floor" : Str) (fPr a b) = none := by rw [lk_ne (by decide +kernel), lk_ne (by decide +kernel)]; rfl
theorem putPr (a b : V) : putF "needs" b (putF "persons" a []) = fPr a b := by
  show putF "needs" b ([(("persons" : Str), a)] : List (Str × V)) = _
  rw [putN (fs := [("persons", a)]) (show ∀ g ∈ [("persons" : Str)], g ≠ "needs" from by decide +kernel)]
  rfl
def sp_prinit (C : Addr) : Sp := fun vs H Q _ => ∃ p dx l1 l2 xs ys, vs = [.ref p, .ref l1, .ref l2] ∧ H p = some (.ins C dx []) ∧ H l1 = some (.lst xs) ∧ H l2 = some (.lst ys) ∧ ∀ H' a b, But p H H' → H' p = some (.ins C dx (fPr (.ref a) (.ref b))) → H' a = some (.lst xs) → H' b = some (.lst ys) → H a = none → H b = none → Q .non H'
def rPri (C : Addr) : List V → Hp → VK → Prop := fun vs H Q => ∃ l1 l2 xs ys, vs = [.ref l1, .ref l2] ∧ H l1 = some (.lst xs) ∧ H l2 = some (.lst ys) ∧ ∀ p dx a b H', Same H H' → H' p = some (.ins C dx (fPr (.ref a) (.ref b))) → H' a = some (.lst xs) → H' b = some (.lst ys) → H a = none → H b = none → Q (.ref p) H'
theorem mk_pri {C : Addr} : ∀ vs H Q, rPri C vs H Q → ∀ x dx, H x = none → H dx = none → dx ≠ x → sp_prinit C (.ref x :: (vs ++ [])) (upd (upd H dx (.own x)) x (.ins C dx [])) (fun v H2 => v = .non ∧ Q (.ref x) H2) E0 := by
  rintro _ H Q ⟨l1, l2, xs, ys, rfl, h1, h2, q⟩ x dx nx nd _
  exact ⟨x, dx, l1, l2, xs, ys, rfl, upd_same, made_at nx nd h1, made_at nx nd h2, fun H' a b bt e e1 e2 n1 n2 => ⟨rfl, q x dx a b H' (made_same nx nd bt) e e1 e2 (made_free n1) (made_free n2)⟩⟩
def ndM (a : Nd × Int) : Int := if a.2 * a.1.most < a.2 * a.1.least then a.2 * a.1.most else a.2 * a.1.least
def dayM (g : Int → Int → Nat → Int) (ks : List Nat) (nds : List Nd) (ls : List (List Nat × Int)) (ods : List Int) (n : Ps) (i z d : Int) : Int := minI (dayL g i d z (mayP ks nds ls n d) (chgF nds ods d))
def perM (f : Int → Int → Int) (g : Int → Int → Nat → Int) (dd : Int) (ks : List Nat) (nds : List Nd) (ls : List (List Nat × Int)) (ods : List Int) (n : Ps) (i z : Int) : Int := minI (cntL f z i n.most) + ((List.range dd.toNat).map fun (j : Nat) => dayM g ks nds ls ods n i z (0 + (j : Int))).sum
def dft : Ps := ⟨[], [], 0, 0, []⟩
def floorF (f : Int → Int → Int) (g : Int → Int → Nat → Int) (dd : Int) (ks : List Nat) (nds : List Nd) (ps : List Ps) (ls : List (List Nat × Int)) (prs ods : List Int) : Int := ((nds.zip ods).map ndM).sum + ((List.range ps.length).map fun (i : Nat) => perM f g dd ks nds ls ods (ps.getD i dft) (i : Int) (prs.getD i 0)).sum
def sp_pfloor (P : Program) (w : World) (K : PySem.W.Frag) (mg : Str → Option Value) (base : Heap) (C1 C2 C3 : Addr) : Sp := fun vs H Q _ => ∃ (pp h c a b dx : Addr) (dd : Int) (ks : List Nat) (nds : List Nd) (ps : List Ps) (ls : List (List Nat × Int)) (f : Int → Int → Int) (g : Int → Int → Nat → Int) (prs ods : List Int), vs = [.ref pp, .ref h, .ref c] ∧ H pp = some (.ins C3 dx (fPr (.ref a) (.ref b))) ∧ H a = some (.lst (prs.map V.int)) ∧ H b = some (.lst (ods.map V.int)) ∧ Hk C1 C2 H h dd ks nds ps ls ∧ CoQ P w K mg base H c f g ps.length dd ∧ nds.Pairwise apartN ∧ nds.length ≤ 21 ∧ (∀ n ∈ nds, (-(2 ^ 64) < n.least ∧ n.least < 2 ^ 64) ∧ (-(2 ^ 64) < n.most ∧ n.most < 2 ^ 64)) ∧ ps.length ≤ 5 ∧ (∀ n ∈ ps, 0 ≤ n.most ∧ n.most ≤ 9) ∧ ks.length ≤ 3 ∧ 0 ≤ dd ∧ dd ≤ 7 ∧ ∀ H', Same H H' → Q (.int (if prs.length = ps.length ∧ ods.length = nds.length then floorF f g dd ks nds ps ls prs ods else 0)) H'
theorem chg_may {ks : List Nat} {nds : List Nd} {ls : List (List Nat × Int)} {ods : List Int} {n : Ps} {d : Int} {kvs : List (List Key × V)} (hU : nds.Pairwise apartN) (hl : ods.length = nds.length) (hkv : ∀ n z, (n, z) ∈ nds.zip ods → valV kvs (kd n.day n.kind) = some (.int z)) : ∀ k ∈ mayP ks nds ls n d, valV kvs (kd d k) = some (.int (chgF nds ods d k)) := fun k hk => by
  unfold mayP at hk
  split at hk
  · cases hk
  · obtain ⟨m, hm, e1, e2, _⟩ := need_hit (of_decide_eq_true (List.mem_filter.mp hk).2)
    obtain ⟨i, hi⟩ := List.getElem?_of_mem hm
    have hil := (List.getElem?_eq_some_iff.mp hi).1
    have ho : ods[i]? = some (ods[i]'(by omega)) := List.getElem?_eq_getElem (by omega)
    have hz : (m, ods[i]'(by omega)) ∈ nds.zip ods := List.mem_of_getElem? (List.getElem?_zip_eq_some.mpr ⟨hi, ho⟩)
    have c1 := hkv _ _ hz
    have c2 := chg_of hU hz
    rw [e1, e2] at c1 c2
    rw [c2]
    exact c1
section
variable {P : Program} {w : World} {K : PySem.W.Frag} {mg : Str → Option Value} {base : Heap} {C_Person C_House C_Costs C_EvenCosts C_ChangeCosts C_LevelCosts C_Paper C_Places C_Prices : Addr}
local macro_rules | `(tactic| walk_at "lk") => `(tactic| first | exact lP_most _ _ _ _ _ | exact lH_persons _ _ _ _ _ _ _ _ | exact lH_needs _ _ _ _ _ _ _ _ | exact lH_may _ _ _ _ _ _ _ _ | exact lH_days' _ _ _ _ _ _ _ _ | exact lPr_persons _ _ | exact lPr_needs _ _)

theorem g_floor_of_need (tx : Tx K mg C_Person C_House C_Costs C_EvenCosts C_ChangeCosts C_LevelCosts C_Paper C_Places C_Prices) : FnG P w K mg base "floor_of_need" 1 ["need", "price"] sp_fneed := by
  refine tx.f_floor_of_need.g sc_floor_of_need (fun _ _ _ _ _ _ us hl => match us, hl with | [_, _], _ => rfl) (fun vs H Q E h => ?_) (fun f cdv A outer s H vs Q E hr h => ?_)
  · obtain ⟨t, n, z, rfl, _⟩ := h
    rfl
  · obtain ⟨t, n, z, rfl, ⟨t', e, ht⟩, hl, hm, q⟩ := h
    cases e
    refine ⟨_, (pss_one (ps_ret (pe_callB (call_min2 rfl) rfl tx.z_min bt_min (pa_cons (pe_op op_mul (pv 1) (pe_ix (ix_tupK (K := K) rfl) (pv 0) pe_int (fun _ _ => rfl))) (pa_cons (pe_op op_mul (pv 1) (pe_ix (ix_tupK (K := K) rfl) (pv 0) pe_int (fun _ _ => rfl))) pa_nil))))), ?_⟩
    walk_at "st"
    have b2 : atI [V.int n.day, T [n.kind], .int n.least, .int n.most] 2 = some (.int n.least) := by simp [atI, ixN]
    have b3 : atI [V.int n.day, T [n.kind], .int n.least, .int n.most] 3 = some (.int n.most) := by simp [atI, ixN]
    have c1 : CMul z n.least := .inr hl
    have c2 : CMul z n.most := .inr hm
    walk_at "rd"
    exact q

theorem g_charges (tx : Tx K mg C_Person C_House C_Costs C_EvenCosts C_ChangeCosts C_LevelCosts C_Paper C_Places C_Prices) : FnG P w K mg base "charges_by_place" 1 ["house", "prices"] (sp_chg C_Person C_House) := by
  refine tx.f_charges_by_place.g sc_charges_by_place (fun _ _ _ _ _ _ us hl => match us, hl with | [_, _], _ => rfl) (fun vs H Q E h => ?_) (fun f cdv A outer s H vs Q E hr h => ?_)
  · obtain ⟨h, pl, dd, ks, nds, ps, ls, ods, rfl, _⟩ := h
    rfl
  · obtain ⟨h, pl, dd, ks, nds, ps, ls, ods, rfl, ⟨a1, a2, a3, a4, a5, a6, xs, ys, zs, ws, ⟨dx, h1⟩, h2, h3, _⟩, hpl, hU, hn21, hol, q⟩ := h
    refine ⟨_, (pss_cons (ps_set (i := 2) sc_charges_by_place.nd rfl (Or.inl rfl) pe_dnewT)
      (pss_cons (ps_for PassesOwn.never rfl (pi_zipLK (K := K) rfl rfl tx.z_zip (pa_cons (pe_fldK (K := K) rfl (pv 0) rfl) (pa_cons (pv 1) pa_nil))) (pg_tup rfl (pgs_cons (pg_name (i := 3) sc_charges_by_place.nd rfl (Or.inl rfl)) (pgs_cons (pg_name (i := 4) sc_charges_by_place.nd rfl (Or.inl rfl)) pgs_nil))) (pss_one (ps_dput (hu_of hr) (pv 2) (pe_tup (pa_cons (pe_ix (ix_tupK (K := K) rfl) (pv 3) pe_int (fun _ _ => rfl)) (pa_cons (pe_ix (ix_tupK (K := K) rfl) (pv 3) pe_int (fun _ _ => rfl)) pa_nil))) (pv 4) rfl)))
      (pss_one (ps_ret (pv 2))))), ?_⟩
    walk_at "st"
    have cH := tx.c_House.cl
    have nH := tx.n_House_needs
    have hxl := h3.len
    walk_at "rd"
    intro D nD
    have s1 : Same H (upd H D (.dT [])) := same_new nD _
    have h11 := s1 _ _ h1
    have h21 := s1 _ _ h2
    have hpl1 := s1 _ _ hpl
    have yD : upd H D (.dT []) D = some (.dT []) := upd_same
    generalize upd H D (.dT []) = H1 at s1 h11 h21 hpl1 yD ⊢
    walk_at "rd"
    refine for_zipL (K := K) (xs := xs) (ys := ods.map V.int) (fun i σ H2 => Here (∃ v1 v2 kvs, σ = [some (.ref h), some (.ref pl), some (.ref D), v1, v2] ∧ Same H H2 ∧ H2 D = some (.dT kvs) ∧ kvs.length ≤ i ∧ ∀ (j : Nat) (n : Nd) (z : Int), j < i → nds[j]? = some n → ods[j]? = some z → valV kvs (kd n.day n.kind) = some (.int z))) (Here.mk ⟨none, none, [], rfl, s1, yD, Nat.le_refl _, fun j n z hj => absurd hj (Nat.not_lt_zero _)⟩) (fun i σ H2 _ _ hv => by obtain ⟨_, _, _, _, s2, _⟩ := hv.out; exact ⟨SqL.of (s2 _ _ h2), SqL.of (s2 _ _ hpl)⟩) ?_ ?_
    · rintro i x y p σ H2 hx hy hp hv
      obtain ⟨v1, v2, kvs, rfl, s2, yD2, hkl, hk⟩ := hv.out
      obtain ⟨n, hn, t, rfl, ht⟩ := h3.back hx
      obtain ⟨z, hz, rfl⟩ : ∃ z, ods[i]? = some z ∧ y = .int z := by
        rw [List.getElem?_map] at hy
        cases h : ods[i]? with
        | none => rw [h] at hy; cases hy
        | some cc => rw [h] at hy; exact ⟨cc, rfl, (Option.some.inj hy).symm⟩
      have hin := (List.getElem?_eq_some_iff.mp hn).1
      obtain ⟨H3, e3, yp, s3⟩ := newt (xs := [V.ref t, V.int z]) hp
      rw [← e3]
      have ht3 := s3 _ _ (s2 _ _ ht)
      have yD3 := s3 _ _ yD2
      have b0 : atI [V.int n.day, T [n.kind], .int n.least, .int n.most] 0 = some (.int n.day) := by simp [atI, ixN]
      have b1 : atI [V.int n.day, T [n.kind], .int n.least, .int n.most] 1 = some (T [n.kind]) := by simp [atI, ixN]
      walk_at "rd"
      intro t2 ft2
      obtain ⟨H4, e4, yt2, s4⟩ := newt (xs := [V.int n.day, T [n.kind]]) ft2
      rw [← e4]
      have yD4 := s4 _ _ yD3
      refine ⟨D, _, rfl, DPut.t (k := kd n.day n.kind) yD4 yt2 (Nat.lt_of_le_of_lt (show kvs.length ≤ 20 by omega) (by decide)), ?_⟩
      refine Here.mk ⟨_, _, putK kvs (kd n.day n.kind) (.int z), rfl, (((s2.trans s3).trans s4)).upd nD, upd_same, Nat.le_trans (length_putK _ _ _) (by omega), fun j m z' hj hm hz' => ?_⟩
      rw [valV_put]
      by_cases e : j = i
      · subst e
        rw [hn] at hm
        cases hm
        rw [hz] at hz'
        cases hz'
        rw [if_pos rfl]
      · have hji : j < i := by omega
        have hjn := (List.getElem?_eq_some_iff.mp hm).1
        have ha := List.pairwise_iff_getElem.mp hU j i hjn hin hji
        rw [(List.getElem?_eq_some_iff.mp hm).2, (List.getElem?_eq_some_iff.mp hn).2] at ha
        rw [if_neg fun z => ha (kd_inj z)]
        exact hk j m z' hji hm hz'
    · rintro i σ H2 hi hv
      obtain ⟨v1, v2, kvs, rfl, s2, yD2, hkl, hk⟩ := hv.out
      rw [List.length_map] at hi
      have hi' : i = nds.length := by omega
      walk_at "rd"
      refine q D H2 kvs nD s2 yD2 fun n z hnz => ?_
      obtain ⟨j, hj⟩ := List.getElem?_of_mem hnz
      obtain ⟨j1, j2⟩ := List.getElem?_zip_eq_some.mp hj
      exact hk j n z (by have := (List.getElem?_eq_some_iff.mp j1).1; omega) j1 j2

theorem g_floor_of_counts (tx : Tx K mg C_Person C_House C_Costs C_EvenCosts C_ChangeCosts C_LevelCosts C_Paper C_Places C_Prices) : FnG P w K mg base "floor_of_counts" 2 ["house", "costs", "p", "price"] (sp_fcnt P w K mg base C_Person C_House) := by
  refine tx.f_floor_of_counts.g sc_floor_of_counts (fun _ _ _ _ _ _ us hl => match us, hl with | [_, _, _, _], _ => rfl) (fun vs H Q E h => ?_) (fun f cdv A outer s H vs Q E hr h => ?_)
  · obtain ⟨h, c, p, z, dd, ks, nds, ps, ls, f, g, n, rfl, _⟩ := h
    rfl
  · obtain ⟨h, c, p, z, dd, ks, nds, ps, ls, f, g, n, rfl, ⟨a1, a2, a3, a4, a5, a6, xs, ys, zs, ws, ⟨dx, h1⟩, h2, h3, h4, h5, _⟩, hC, hp0, hn, m0, m6, q⟩ := h
    refine ⟨_, (pss_cons (ps_set (i := 4) sc_floor_of_counts.nd rfl (Or.inl rfl) (pe_fldK (K := K) rfl (pe_ix (ix_listK (K := K) rfl) (pe_fldK (K := K) rfl (pv 0) rfl) (pv 2) (fun _ _ => rfl)) rfl))
      (pss_one (ps_ret (pe_callB (call_minL (K := K) rfl rfl) rfl tx.z_min bt_min (pa_cons (pe_comp (osc := defScope s_floor_of_counts) (ON := ["house", "costs", "p", "price", "most"]) (N := ["many", "p", "price", "costs"]) (js := [none, some 2, some 3, some 1]) ⟨rfl, by decide +kernel, by decide +kernel, by decide +kernel, rfl, by decide +kernel⟩ rfl rfl rfl (pi_range1 rfl tx.z_range (pa_cons (pe_op op_add (pv 4) pe_int) pa_nil)) (fun _ _ _ _ _ => pg_name (i := 0) (show List.Nodup (["many", "p", "price", "costs"] : List Str) from by decide +kernel) rfl (Or.inl rfl)) (fun _ _ _ _ _ => pifs_nil) (fun _ _ _ _ _ => (pe_op op_sub (pe_mtD (P := P) (w := w) (K := K) (mg := mg) (base := base) hr (pv 3) (pa_cons (pv 1) (pa_cons (pv 0) pa_nil)) rfl rfl rfl rfl rfl) (pe_op op_mul (pv 2) (pv 0))))) pa_nil))))), ?_⟩
    walk_at "st"
    have cH := tx.c_House.cl
    have nH1 := tx.n_House_persons
    have cP := tx.c_Person.cl
    have nP1 := tx.n_Person_most
    obtain ⟨y, hy, pa, rfl, dxp, hp⟩ := h5.get hn
    have hix : atI ys p = some (.ref pa) := by have := atI_nat hy; rwa [Int.toNat_of_nonneg hp0] at this
    have hpn := (List.getElem?_eq_some_iff.mp hn).1
    walk_at "rd"
    refine comp_hands (List.range (n.most + 1).toNat) (fun _ => true) (fun (i : Nat) y _ => y = .int (f p (0 + (i : Int)) - z * (0 + (i : Int)))) (fun σ => ∃ v, σ = [v, some (.int p), some (.int z), some (.ref c)]) (hands_range 0 (n.most + 1).toNat) (by rw [List.length_map]) (by rw [List.length_range]; omega) ⟨_, rfl⟩ (fun _ _ _ _ _ z => z) (fun i a v σ H' ha hv hσ s' Rf Rt _ hR => ?_) (fun D H2 us nD s2 hus hD => ?_)
    · obtain ⟨w1, rfl⟩ := hσ
      rw [List.getElem?_map, ha] at hv
      cases hv
      obtain ⟨ea, hal⟩ := range_at ha
      obtain ⟨C, dxc, fs, ps1, ps2, sp1, sp2, hc, l1, l2, M1, M2, A1, A2⟩ := hC.same s'
      have k1 : 1 ≤ 1 := Nat.le_refl _
      have AA := A1 p (0 + (a : Int)) hp0 (by omega) (by omega) (by omega)
      have cm : CMul z (0 + (a : Int)) := .inr ⟨by omega, by omega⟩
      walk_at "rd"
      refine AA _ _ (Same.refl _) fun H3 s3 => ?_
      walk_at "rd"
      exact hR _ _ _ rfl ⟨_, rfl⟩ s3 rfl
    rw [List.filter_eq_self.mpr fun _ _ => rfl] at hus
    have eu : us = (cntL f z p n.most).map V.int := by
      unfold cntL
      rw [List.map_map]
      exact hus.eqmap fun a y h => h
    rw [eu] at hD
    have hq : SqL K H2 D ((cntL f z p n.most).map V.int) := SqL.of hD
    have hl : 0 < (cntL f z p n.most).length := by
      unfold cntL
      rw [List.length_map, List.length_range]
      omega
    walk_at "rd"
    refine fun M m1 m2 => ?_
    have := q H2 s2
    rw [IsMin.eq ⟨m1, m2⟩] at this
    exact this

theorem g_floor_of_day (tx : Tx K mg C_Person C_House C_Costs C_EvenCosts C_ChangeCosts C_LevelCosts C_Paper C_Places C_Prices) : FnG P w K mg base "floor_of_day" 3 ["house", "costs", "p", "day", "price", "charges"] (sp_fday P w K mg base C_Person C_House) := by
  have G_may := g_may (P := P) (w := w) (base := base) tx
  refine tx.f_floor_of_day.g sc_floor_of_day (fun _ _ _ _ _ _ us hl => match us, hl with | [_, _, _, _, _, _], _ => rfl) (fun vs H Q E h => ?_) (fun f cdv A outer s H vs Q E hr h => ?_)
  · obtain ⟨h, c, D, p, d, z, dd, ks, nds, ps, ls, f, g, n, kvs, ch, rfl, _⟩ := h
    rfl
  · obtain ⟨h, c, D, p, d, z, dd, ks, nds, ps, ls, f, g, n, kvs, ch, rfl, hK, hC, hp0, hn, d0, d1, hkl, hD, hch, q⟩ := h
    refine ⟨_, (pss_cons (ps_set (i := 6) sc_floor_of_day.nd rfl (Or.inl rfl) (pe_mt G_may (hr.mono (by decide)) (pv 0) (pa_cons (pv 2) (pa_cons (pv 3) pa_nil))))
      (pss_cons (ps_setC (k := 7) (osc := defScope s_floor_of_day) (ON := ["house", "costs", "p", "day", "price", "charges", "kinds", "duties"]) (N := ["kind", "price", "charges", "p", "day", "costs"]) (js := [none, some 4, some 5, some 2, some 3, some 1]) sc_floor_of_day.nd rfl (Or.inl rfl) ⟨rfl, by decide +kernel, by decide +kernel, by decide +kernel, rfl, by decide +kernel⟩ rfl rfl rfl (pi_txt (pv 6)) (fun _ _ _ _ _ => pg_name (i := 0) (show List.Nodup (["kind", "price", "charges", "p", "day", "costs"] : List Str) from by decide +kernel) rfl (Or.inl rfl)) (fun _ _ _ _ _ => pifs_nil) (fun _ _ _ _ _ => (pe_op op_sub (pe_op op_add (pe_mtD (P := P) (w := w) (K := K) (mg := mg) (base := base) hr (pv 5) (pa_cons (pv 3) (pa_cons (pv 4) (pa_cons (pv 0) pa_nil))) rfl rfl rfl rfl rfl) (pv 1)) (pe_dget (hu_of hr) (pv 2) (pe_tup (pa_cons (pv 4) (pa_cons (pv 0) pa_nil))) (fun _ _ => rfl)))))
      (pss_one (ps_ret (pe_callB (call_minL (K := K) rfl rfl) rfl tx.z_min bt_min (pa_cons (pe_op op_cat (pe_lst (pa_cons (pe_mtD (P := P) (w := w) (K := K) (mg := mg) (base := base) hr (pv 1) (pa_cons (pv 2) (pa_cons (pv 3) (pa_cons (pe_txt (l := [45]) (by decide +kernel)) pa_nil))) rfl rfl rfl rfl rfl) pa_nil)) (pv 7)) pa_nil)))))), ?_⟩
    walk_at "st"
    clear G_may
    have hpn := (List.getElem?_eq_some_iff.mp hn).1
    have hml := may_len ks nds ls n d
    obtain ⟨dxh, hh⟩ : ∃ a1 a2 a3 a4 a5 a6 dxh, H h = some (.ins C_House dxh (fH (.int dd) (T ks) (.ref a1) (.ref a2) (.ref a3) (.ref a4) (.ref a5) (.ref a6))) := by
      obtain ⟨a1, a2, a3, a4, a5, a6, xs, ys, zs, ws, ⟨dx, h1⟩, _⟩ := hK
      exact ⟨a1, a2, a3, a4, a5, a6, dx, h1⟩
    obtain ⟨a2, a3, a4, a5, a6, dxx, h1⟩ := hh
    walk_at "rd"
    intro H1 s1
    generalize mayP ks nds ls n d = ms at hml hch q ⊢
    have hD1 := s1 _ _ hD
    walk_at "rd"
    refine comp_hands ms (fun _ => true) (fun (k : Nat) y _ => y = .int (g p d k + z - ch k)) (fun σ => ∃ v, σ = [v, some (.int z), some (.ref D), some (.int p), some (.int d), some (.ref c)]) (hands_txt ms) (by rw [List.length_map]) (by omega) ⟨_, rfl⟩ (fun _ _ _ _ _ z => z) (fun i k v σ H' hk hv hσ s' Rf Rt _ hR => ?_) (fun D2 H2 us nD s2 hus hD2 => ?_)
    · obtain ⟨w1, rfl⟩ := hσ
      rw [List.getElem?_map, hk] at hv
      cases hv
      obtain ⟨C, dxc, fs, ps1, ps2, sp1, sp2, hc, l1, l2, M1, M2, A1, A2⟩ := hC.same (s1.trans s')
      have k1 : 1 ≤ 2 := by decide
      have AA := A2 p d k hp0 (by omega) d0 d1
      walk_at "rd"
      refine AA _ _ (Same.refl _) fun H3 s3 => ?_
      have hD3 := s3 _ _ (s' _ _ hD1)
      walk_at "rd"
      intro t ft
      obtain ⟨H4, e4, yt, s4⟩ := newt (xs := [V.int d, T [k]]) ft
      rw [← e4]
      refine ⟨D, .int (ch k), rfl, ?_, ?_⟩
      · rw [← hch k (List.mem_of_getElem? hk)]
        exact DGet.t (k := kd d k) (s4 _ _ hD3) yt
      · walk_at "rd"
        exact hR _ _ _ rfl ⟨_, rfl⟩ (s3.trans s4) rfl
    rw [List.filter_eq_self.mpr fun _ _ => rfl] at hus
    have eu : us = (ms.map fun k => g p d k + z - ch k).map V.int := by
      rw [List.map_map]
      exact hus.eqmap fun a y h => h
    rw [eu] at hD2
    obtain ⟨C, dxc, fs, ps1, ps2, sp1, sp2, hc, l1, l2, M1, M2, A1, A2⟩ := hC.same (s1.trans s2)
    have k1 : 1 ≤ 2 := by decide
    have AA := A2 p d 45 hp0 (by omega) d0 d1
    walk_at "rd"
    refine AA _ _ (Same.refl _) fun H3 s3 => ?_
    have hD3 := s3 _ _ hD2
    walk_at "rd"
    intro l4 f4
    obtain ⟨H4, e4, y4, s4⟩ := newl (xs := [V.int (g p d 45)]) f4
    rw [← e4]
    have hD4 := s4 _ _ hD3
    walk_at "rd"
    intro l5 f5
    obtain ⟨H5, e5, y5, s5⟩ := newl (xs := [V.int (g p d 45)] ++ (ms.map fun k => g p d k + z - ch k).map V.int) f5
    rw [← e5]
    have hq : SqL K H5 l5 ((dayL g p d z ms ch).map V.int) := SqL.of y5
    have hl : 0 < (dayL g p d z ms ch).length := Nat.succ_pos _
    walk_at "rd"
    refine fun M m1 m2 => ?_
    have := q H5 ((((s1.trans s2).trans s3).trans s4).trans s5)
    rw [IsMin.eq ⟨m1, m2⟩] at this
    exact this

theorem g_Prices_init (tx : Tx K mg C_Person C_House C_Costs C_EvenCosts C_ChangeCosts C_LevelCosts C_Paper C_Places C_Prices) : MtG P w K mg base C_Prices "__init__" 1 ["self", "persons", "needs"] (sp_prinit C_Prices) := by
  refine tx.m_Prices_init.g tx.c_Prices.cl sc_Prices_init (fun _ _ _ _ _ _ us hl => match us, hl with | [_, _, _], _ => rfl) (fun vs H Q E h => ?_) (fun f cdv A outer s H vs Q E hr h => ?_)
  · obtain ⟨p, dx, l1, l2, xs, ys, rfl, _⟩ := h
    rfl
  · obtain ⟨p, dx, l1, l2, xs, ys, rfl, hp, h1, h2, q⟩ := h
    refine ⟨_, (pss_cons (ps_fld (pv 0) (pe_callTy call_list_of rfl tx.z_list bt_ty_list (pa_cons (pv 1) pa_nil)) rfl)
      (pss_one (ps_fld (pv 0) (pe_callTy call_list_of rfl tx.z_list bt_ty_list (pa_cons (pv 2) pa_nil)) rfl))), ?_⟩
    walk_at "st"
    have cE := tx.c_Prices.cl
    have n1 := tx.n_Prices_persons
    have n2 := tx.n_Prices_needs
    have z0 : ([] : List (Str × V)).length < 1000 := by decide
    have I1 : SqL K H l1 xs ∨ SqT K H l1 xs := .inl (SqL.of h1)
    walk_at "rd"
    intro a1 f1
    obtain ⟨H1, e1, y1, s1⟩ := newl (xs := xs) f1
    rw [← e1]
    have hp1 := s1 _ _ hp
    have nl2 : l2 ≠ p := ne_of h2 hp (fun z => by cases z)
    have na1 : a1 ≠ p := (ne_of_none hp f1).symm
    have h21 : upd H1 p (.ins C_Prices dx (putF "persons" (.ref a1) [])) l2 = some (.lst ys) := by rw [upd_ne nl2]; exact s1 _ _ h2
    have I2 : SqL K (upd H1 p (.ins C_Prices dx (putF "persons" (.ref a1) []))) l2 ys ∨ SqT K (upd H1 p (.ins C_Prices dx (putF "persons" (.ref a1) []))) l2 ys := .inl (SqL.of h21)
    have y11 : upd H1 p (.ins C_Prices dx (putF "persons" (.ref a1) [])) a1 = some (.lst xs) := by rw [upd_ne na1]; exact y1
    walk_at "rd"
    have B1 : But p H (upd H1 p (.ins C_Prices dx (putF "persons" (.ref a1) []))) := ((But.refl p H).same s1).at
    have hpp : upd H1 p (.ins C_Prices dx (putF "persons" (.ref a1) [])) p = some (.ins C_Prices dx (putF "persons" (.ref a1) [])) := upd_same
    have hfr : ∀ a, upd H1 p (.ins C_Prices dx (putF "persons" (.ref a1) [])) a = none → H a = none := fun a e => by
      have na : a ≠ p := fun z => by rw [z, upd_same] at e; cases e
      rw [upd_ne na] at e
      exact s1.free e
    generalize upd H1 p (.ins C_Prices dx (putF "persons" (.ref a1) [])) = H2 at h21 y11 B1 hpp hfr ⊢
    intro a2 f2
    obtain ⟨H3, e3, y3, s3⟩ := newl (xs := ys) f2
    rw [← e3]
    have hp3 := s3 _ _ hpp
    have y13 := s3 _ _ y11
    have na2 : a2 ≠ p := (ne_of_none hpp f2).symm
    have z1 : (putF "persons" (.ref a1) []).length < 1000 := by show 1 < 1000; decide
    walk_at "rd"
    refine q _ a1 a2 ((B1.same s3).at) ?_ ?_ ?_ f1 (hfr _ f2)
    · rw [upd_same, putPr]
    · rw [upd_ne na1]; exact y13
    · rw [upd_ne na2]; exact y3

theorem g_floor (tx : Tx K mg C_Person C_House C_Costs C_EvenCosts C_ChangeCosts C_LevelCosts C_Paper C_Places C_Prices) : MtG P w K mg base C_Prices "floor" 4 ["self", "house", "costs"] (sp_pfloor P w K mg base C_Person C_House C_Prices) := by
  have G_floor_of_need := g_floor_of_need (P := P) (w := w) (base := base) tx
  have G_charges_by_place := g_charges (P := P) (w := w) (base := base) tx
  have G_floor_of_counts := g_floor_of_counts (P := P) (w := w) (base := base) tx
  have G_floor_of_day := g_floor_of_day (P := P) (w := w) (base := base) tx
  refine tx.m_Prices_floor.g tx.c_Prices.cl sc_Prices_floor (fun _ _ _ _ _ _ us hl => match us, hl with | [_, _, _], _ => rfl) (fun vs H Q E h => ?_) (fun f cdv A outer s H vs Q E hr h => ?_)
  · obtain ⟨pp, h, c, a, b, dx, dd, ks, nds, ps, ls, f, g, prs, ods, rfl, _⟩ := h
    rfl
  · obtain ⟨pp, h, c, a, b, dx, dd, ks, nds, ps, ls, f, g, prs, ods, rfl, hpp, ha, hb, hK, hC, hU, hn21, hsm, hp5, hps, hk3, dd0, dd7, q⟩ := h
    refine ⟨_, (pss_cons (ps_if (PW.pt (pw_or (pt_cmpR op_ne (pe_callB (call_len_seqK (K := K) rfl) rfl tx.z_len PySem.boot_len (pa_cons (pe_fldK (K := K) rfl (pv 0) rfl) pa_nil)) (pe_callB (call_len_seqK (K := K) rfl) rfl tx.z_len PySem.boot_len (pa_cons (pe_fldK (K := K) rfl (pv 1) rfl) pa_nil)) (nomark _)) (pw_or1 (pt_cmpR op_ne (pe_callB (call_len_seqK (K := K) rfl) rfl tx.z_len PySem.boot_len (pa_cons (pe_fldK (K := K) rfl (pv 0) rfl) pa_nil)) (pe_callB (call_len_seqK (K := K) rfl) rfl tx.z_len PySem.boot_len (pa_cons (pe_fldK (K := K) rfl (pv 1) rfl) pa_nil)) (nomark _))))) (pss_one (ps_ret pe_int)) pss_nil)
      (pss_cons (ps_set (i := 3) sc_Prices_floor.nd rfl (Or.inl rfl) (pe_callB (call_sumK (K := K) rfl rfl) rfl tx.z_sum bt_sum (pa_cons (pe_comp (osc := defScope s_Prices_floor) (ON := ["self", "house", "costs", "total", "charges", "p", "price"]) (N := ["need", "price"]) (js := [none, none]) ⟨rfl, by decide +kernel, by decide +kernel, by decide +kernel, rfl, by decide +kernel⟩ rfl rfl rfl (pi_zipLK (K := K) rfl rfl tx.z_zip (pa_cons (pe_fldK (K := K) rfl (pv 1) rfl) (pa_cons (pe_fldK (K := K) rfl (pv 0) rfl) pa_nil))) (fun _ _ _ _ _ => pg_two (K := K) (i := 0) (j := 1) rfl rfl (show List.Nodup (["need", "price"] : List Str) from by decide +kernel) rfl rfl (Or.inl rfl) (Or.inl rfl)) (fun _ _ _ _ _ => pifs_nil) (fun _ _ _ _ _ => (pe_fn G_floor_of_need (hr.mono (by decide)) (pa_cons (pv 0) (pa_cons (pv 1) pa_nil))))) pa_nil)))
      (pss_cons (ps_set (i := 4) sc_Prices_floor.nd rfl (Or.inr rfl) (pe_fn G_charges_by_place (hr.mono (by decide)) (pa_cons (pv 1) (pa_cons (pe_fldK (K := K) rfl (pv 0) rfl) pa_nil))))
      (pss_cons (ps_for PassesOwn.never rfl (pi_enumLK (K := K) rfl rfl tx.z_enumerate (pa_cons (pe_fldK (K := K) rfl (pv 0) rfl) pa_nil)) (pg_tup rfl (pgs_cons (pg_name (i := 5) sc_Prices_floor.nd rfl (Or.inr rfl)) (pgs_cons (pg_name (i := 6) sc_Prices_floor.nd rfl (Or.inr rfl)) pgs_nil))) (pss_cons (ps_aug (i := 3) sc_Prices_floor.nd rfl (Or.inl rfl) (pe_fn G_floor_of_counts (hr.mono (by decide)) (pa_cons (pv 1) (pa_cons (pv 2) (pa_cons (pv 5) (pa_cons (pv 6) pa_nil))))) ip_add)
      (pss_one (ps_aug (i := 3) sc_Prices_floor.nd rfl (Or.inl rfl) (pe_callB (call_sumK (K := K) rfl rfl) rfl tx.z_sum bt_sum (pa_cons (pe_comp (osc := defScope s_Prices_floor) (ON := ["self", "house", "costs", "total", "charges", "p", "price"]) (N := ["day", "house", "costs", "p", "price", "charges"]) (js := [none, some 1, some 2, some 5, some 6, some 4]) ⟨rfl, by decide +kernel, by decide +kernel, by decide +kernel, rfl, by decide +kernel⟩ rfl rfl rfl (pi_range1 rfl tx.z_range (pa_cons (pe_fldK (K := K) rfl (pv 1) rfl) pa_nil)) (fun _ _ _ _ _ => pg_name (i := 0) (show List.Nodup (["day", "house", "costs", "p", "price", "charges"] : List Str) from by decide +kernel) rfl (Or.inl rfl)) (fun _ _ _ _ _ => pifs_nil) (fun _ _ _ _ _ => (pe_fn G_floor_of_day (hr.mono (by decide)) (pa_cons (pv 1) (pa_cons (pv 2) (pa_cons (pv 3) (pa_cons (pv 0) (pa_cons (pv 4) (pa_cons (pv 5) pa_nil))))))))) pa_nil)) ip_add))))
      (pss_one (ps_ret (pv 3))))))), ?_⟩
    walk_at "st"
    clear G_floor_of_need G_charges_by_place G_floor_of_counts G_floor_of_day
    obtain ⟨a1, a2, a3, a4, a5, a6, xs, ys, zs, ws, ⟨dxh, h1⟩, h2, h3, h4, h5, h6, h7, h8⟩ := id hK
    have cH := tx.c_House.cl
    have nH1 := tx.n_House_persons
    have nH2 := tx.n_House_needs
    have nH3 := tx.n_House_days
    have cE := tx.c_Prices.cl
    have n1 := tx.n_Prices_persons
    have n2 := tx.n_Prices_needs
    have lx := h3.len
    have ly := h5.len
    have lp : (prs.map V.int).length = prs.length := List.length_map _
    have lo : (ods.map V.int).length = ods.length := List.length_map _
    walk_at "rd"
    rw [lp, ly]
    refine ite2 (fun e => ?_) (fun e => ?_)
    · have e' : ¬ prs.length = ps.length := fun z => by rw [z] at e; simp at e
      walk_at "rd"
      have := q H (Same.refl _)
      rw [if_neg fun z => e' z.1] at this
      exact this
    have e1' : prs.length = ps.length := by
      have : ((prs.length : Nat) : Int) = ((ps.length : Nat) : Int) := by simpa using e
      omega
    walk_at "rd"
    rw [lo, lx]
    refine ite2 (fun e => ?_) (fun e => ?_)
    · have e' : ¬ ods.length = nds.length := fun z => by rw [z] at e; simp at e
      walk_at "rd"
      have := q H (Same.refl _)
      rw [if_neg fun z => e' z.2] at this
      exact this
    have e2' : ods.length = nds.length := by
      have : ((ods.length : Nat) : Int) = ((nds.length : Nat) : Int) := by simpa using e
      omega
    have q' : ∀ H', Same H H' → Q (.int (floorF f g dd ks nds ps ls prs ods)) H' := fun H' s' => by have := q H' s'; rwa [if_pos ⟨e1', e2'⟩] at this
    clear q
    walk_at "rd"
    refine comp_zipLG (nds.zip ods) (fun _ => true) (fun a y _ => y = V.int (ndM a)) (fun σ => ∃ v1 v2, σ = [v1, v2]) (SqL.of h2) (SqL.of hb) (by rw [List.length_zip]; omega) (by rw [List.length_map, List.length_zip]; omega) (by rw [List.length_zip]; omega) ⟨_, _, rfl⟩ (fun _ _ _ _ _ z => z) (fun i x u v p σ H' hx hu hv hσ s' hp Rf Rt _ hR => ?_) (fun D1 H1 us nD1 s1 hus hD1 => ?_)
    · obtain ⟨v1, v2, rfl⟩ := hσ
      obtain ⟨x1, x2⟩ := List.getElem?_zip_eq_some.mp hx
      obtain ⟨n, hn, t, rfl, ht⟩ := h3.back hu
      rw [x1] at hn
      cases hn
      rw [List.getElem?_map, x2] at hv
      cases hv
      obtain ⟨b1, b2⟩ := hsm x.1 (List.mem_of_getElem? x1)
      obtain ⟨H3, e3, yp, s3⟩ := newt (xs := [V.ref t, V.int x.2]) hp
      have e3' : upd H' p (.tup [V.ref t, V.int x.2]) = H3 := e3.symm
      rw [e3']
      have hN : NdAt x.1 (.ref t) H3 := ⟨t, rfl, s3 _ _ (s' _ _ ht)⟩
      walk_at "rd"
      exact hR _ _ _ rfl ⟨_, _, rfl⟩ s3 rfl
    rw [List.filter_eq_self.mpr fun _ _ => rfl] at hus
    have eu : us = ((nds.zip ods).map ndM).map V.int := by
      rw [List.map_map]
      exact hus.eqmap fun a y h => h
    rw [eu] at hD1
    have hq1 : SqL K H1 D1 (((nds.zip ods).map ndM).map V.int) := SqL.of hD1
    have hK1 := hK.same s1
    have hpp1 := s1 _ _ hpp
    have hb1 := s1 _ _ hb
    have hF : floorF f g dd ks nds ps ls prs ods = ((nds.zip ods).map ndM).sum + ((List.range ps.length).map fun (i : Nat) => perM f g dd ks nds ls ods (ps.getD i dft) (i : Int) (prs.getD i 0)).sum := rfl
    generalize ((nds.zip ods).map ndM) = ns at hq1 hD1 hF
    walk_at "rd"
    intro D H2 kvs nD s2 hD hkv
    have S2 := s1.trans s2
    have hpp2 := S2 _ _ hpp
    have ha2 := S2 _ _ ha
    have qa2 : SqL K H2 a (prs.map V.int) := SqL.of ha2
    clear hus eu hD1 hq1 hpp1 hb1 hK1
    walk_at "rd"
    refine for_enumL (K := K) (xs := prs.map V.int) (fun i σ H3 => Here (∃ v5 v6, σ = [some (.ref pp), some (.ref h), some (.ref c), some (.int (ns.sum + ((List.range i).map fun (i : Nat) => perM f g dd ks nds ls ods (ps.getD i dft) (i : Int) (prs.getD i 0)).sum)), some (.ref D), v5, v6] ∧ Same H2 H3)) (Here.mk ⟨_, _, by rw [List.range_zero, List.map_nil, List.sum_nil, Int.add_zero], Same.refl _⟩) (fun i σ H3 _ hv => by obtain ⟨_, _, _, s3⟩ := hv.out; exact SqL.of (s3 _ _ ha2)) ?_ ?_
    · rintro i x p σ H3 hx hp hv
      obtain ⟨v5, v6, rfl, s3⟩ := hv.out
      obtain ⟨z, hz, rfl⟩ : ∃ z, prs[i]? = some z ∧ x = .int z := by
        rw [List.getElem?_map] at hx
        cases h : prs[i]? with
        | none => rw [h] at hx; cases hx
        | some cc => rw [h] at hx; exact ⟨cc, rfl, (Option.some.inj hx).symm⟩
      have hil := (List.getElem?_eq_some_iff.mp hz).1
      have hn : ps[i]? = some (ps[i]'(by omega)) := List.getElem?_eq_getElem (by omega)
      generalize ps[i]'(by omega) = n at hn
      obtain ⟨m0, m6⟩ := hps n (List.mem_of_getElem? hn)
      have hnn : ps[((i : Nat) : Int).toNat]? = some n := by rw [Int.toNat_natCast]; exact hn
      have i0 : (0 : Int) ≤ ((i : Nat) : Int) := by omega
      have stp : ns.sum + ((List.range i).map fun (i : Nat) => perM f g dd ks nds ls ods (ps.getD i dft) (i : Int) (prs.getD i 0)).sum + minI (cntL f z (i : Int) n.most) + ((List.range dd.toNat).map fun (j : Nat) => dayM g ks nds ls ods n (i : Int) z (0 + (j : Int))).sum = ns.sum + ((List.range (i + 1)).map fun (i : Nat) => perM f g dd ks nds ls ods (ps.getD i dft) (i : Int) (prs.getD i 0)).sum := by
        rw [List.range_succ, List.map_append, List.sum_append, List.map_singleton, List.sum_singleton, List.getD_eq_getElem?_getD, List.getD_eq_getElem?_getD, hn, hz]
        show _ = _ + (_ + perM f g dd ks nds ls ods n (i : Int) z)
        unfold perM
        omega
      generalize ((List.range i).map fun (i : Nat) => perM f g dd ks nds ls ods (ps.getD i dft) (i : Int) (prs.getD i 0)).sum = S0 at stp ⊢
      generalize ((List.range (i + 1)).map fun (i : Nat) => perM f g dd ks nds ls ods (ps.getD i dft) (i : Int) (prs.getD i 0)).sum = S1 at stp ⊢
      obtain ⟨H4, e4, yp, s4⟩ := newt (xs := [V.int (i : Nat), V.int z]) hp
      have e4' : upd H3 p (.tup [V.int (i : Nat), V.int z]) = H4 := e4.symm
      rw [e4']
      have S4 := (S2.trans s3).trans s4
      have hK4 := hK.same S4
      have hC4 := hC.same S4
      walk_at "rd"
      intro H5 s5
      have S5 := S4.trans s5
      have h15 := S5 _ _ h1
      walk_at "rd"
      refine comp_hands (List.range dd.toNat) (fun _ => true) (fun (j : Nat) y _ => y = .int (dayM g ks nds ls ods n (i : Int) z (0 + (j : Int)))) (fun σ => ∃ v, σ = [v, some (.ref h), some (.ref c), some (.int (i : Int)), some (.int z), some (.ref D)]) (hands_range 0 dd.toNat) (by rw [List.length_map]) (by rw [List.length_range]; omega) ⟨_, rfl⟩ (fun _ _ _ _ _ z => z) (fun j0 j v σ H' hj hv hσ s' Rf Rt _ hR => ?_) (fun D6 H6 us nD6 s6 hus hD6 => ?_)
      · obtain ⟨w1, rfl⟩ := hσ
        rw [List.getElem?_map, hj] at hv
        cases hv
        obtain ⟨ej, hjl⟩ := range_at hj
        have S6 := S5.trans s'
        have hK6 := hK.same S6
        have hC6 := hC.same S6
        have hD' := ((s3.trans s4).trans (s5.trans s')) _ _ hD
        have hch := chg_may (ks := ks) (ls := ls) (n := n) (d := 0 + (j : Int)) hU e2' hkv
        have j0' : (0 : Int) ≤ 0 + (j : Int) := by omega
        have j1' : 0 + (j : Int) < dd := by omega
        walk_at "rd"
        intro H7 s7
        exact hR _ _ _ rfl ⟨_, rfl⟩ s7 rfl
      rw [List.filter_eq_self.mpr fun _ _ => rfl] at hus
      have eu : us = ((List.range dd.toNat).map fun (j : Nat) => dayM g ks nds ls ods n (i : Int) z (0 + (j : Int))).map V.int := by
        rw [List.map_map]
        exact hus.eqmap fun a y h => h
      rw [eu] at hD6
      have hq6 : SqL K H6 D6 (((List.range dd.toNat).map fun (j : Nat) => dayM g ks nds ls ods n (i : Int) z (0 + (j : Int))).map V.int) := SqL.of hD6
      walk_at "rd"
      refine Here.mk ⟨some (.int (i : Nat)), some (.int z), ?_, ((s3.trans s4).trans s5).trans s6⟩
      show ([some (.ref pp), some (.ref h), some (.ref c), some (.int (ns.sum + S0 + minI (cntL f z (i : Int) n.most) + ((List.range dd.toNat).map fun (j : Nat) => dayM g ks nds ls ods n (i : Int) z (0 + (j : Int))).sum)), some (.ref D), some (.int (i : Nat)), some (.int z)] : St) = _
      rw [stp]
    · rintro σ H3 hv
      obtain ⟨v5, v6, rfl, s3⟩ := hv.out
      rw [List.length_map, e1', ← hF]
      walk_at "rd"
      exact q' H3 (S2.trans s3)
end

/-! ### places: the program's part -/
theorem lPl (v : V) : List.lookup ("places" : Str) [(("places" : Str), v)] = some v := lk_eq
theorem lPf (v : V) : List.lookup ("floor" : Str) [(("places" : Str), v)] = none := by
  rw [lk_ne (by decide +kernel)]
  rfl
def PlT : Int × List Nat → V → Hp → Prop := fun l y H => ∃ t, y = .ref t ∧ H t = some (.tup [.int l.1, T l.2])
theorem PlT.keeps (n : Int × List Nat) (y : V) (Ha Hb : Hp) (k : Keeps Ha Hb) (h : PlT n y Ha) : PlT n y Hb := let ⟨t, e, h⟩ := h; ⟨t, e, k _ _ h fun zs z => by cases z⟩
def plI (l : Int × List Nat) : List V := [.int l.1, T l.2]
theorem pl_tp {K : PySem.W.Frag} {H : Hp} : ∀ {ls : List (Int × List Nat)} {vs : List V}, All2 PlT H ls vs → All2 (TpAt K) H (ls.map plI) vs
  | [], [], _ => trivial
  | l :: ls, v :: vs, h => ⟨by obtain ⟨t, e, h⟩ := h.1; exact ⟨t, e, SqT.of h, rfl⟩, pl_tp h.2⟩
  | [], _ :: _, h => h.elim
  | _ :: _, [], h => h.elim
def inP (pc : List (Int × List Nat)) (n : Nd) : Bool := (pc.map plI).any fun ys => eqVs ys [.int n.day, T [n.kind]]
structure PlOk (ks : List Nat) (nds : List Nd) (ps : List Ps) : Prop where
  k3 : ks.length ≤ 3
  n21 : nds.length ≤ 21
  p5 : ps.length ≤ 5
  u : nds.Pairwise apartN
  k : ∀ n ∈ nds, n.kind ∈ ks
def sp_able (C1 C2 : Addr) : Sp := fun vs H Q _ => ∃ (h al : Addr) (p : Int) (dd : Int) (ks : List Nat) (nds held : List Nd) (ps : List Ps) (ls : List (List Nat × Int)) (n : Ps) (as : List V), vs = [.ref h, .int p, .ref al] ∧ Hk C1 C2 H h dd ks nds ps ls ∧ 0 ≤ p ∧ ps[p.toNat]? = some n ∧ ks.length ≤ 3 ∧ H al = some (.lst as) ∧ All2 NdAt H held as ∧ held.length ≤ 21 ∧ nds.Pairwise apartN ∧ (∀ n ∈ held, n ∈ nds ∧ n.kind ∈ ks) ∧ ∀ H', Same H H' → Q (.int (canP ls held n)) H'
def sp_plinit (C : Addr) : Sp := fun vs H Q _ => ∃ p dx l xs, vs = [.ref p, .ref l] ∧ H p = some (.ins C dx []) ∧ H l = some (.lst xs) ∧ ∀ H' a, But p H H' → H' p = some (.ins C dx [("places", .ref a)]) → H' a = some (.lst xs) → H a = none → Q .non H'
def rPla (C : Addr) : List V → Hp → VK → Prop := fun vs H Q => ∃ l xs, vs = [.ref l] ∧ H l = some (.lst xs) ∧ ∀ p dx a H', Same H H' → H' p = some (.ins C dx [("places", .ref a)]) → H' a = some (.lst xs) → H a = none → Q (.ref p) H'
theorem mk_pla {C : Addr} : ∀ vs H Q, rPla C vs H Q → ∀ x dx, H x = none → H dx = none → dx ≠ x → sp_plinit C (.ref x :: (vs ++ [])) (upd (upd H dx (.own x)) x (.ins C dx [])) (fun v H2 => v = .non ∧ Q (.ref x) H2) E0 := by
  rintro _ H Q ⟨l, xs, rfl, hl, q⟩ x dx nx nd _
  exact ⟨x, dx, l, xs, rfl, upd_same, made_at nx nd hl, fun H' a b e e1 n1 => ⟨rfl, q x dx a H' (made_same nx nd b) e e1 (made_free n1)⟩⟩
def sp_plfloor (C1 C2 C3 : Addr) : Sp := fun vs H Q _ => ∃ (pp h a dx : Addr) (c : V) (dd : Int) (ks : List Nat) (nds : List Nd) (ps : List Ps) (ls : List (List Nat × Int)) (pc : List (Int × List Nat)) (as : List V), vs = [.ref pp, .ref h, c] ∧ H pp = some (.ins C3 dx [("places", .ref a)]) ∧ H a = some (.lst as) ∧ All2 PlT H pc as ∧ Hk C1 C2 H h dd ks nds ps ls ∧ PlOk ks nds ps ∧ pc.length ≤ 100 ∧
  ∀ H', Same H H' → Q (if canF ls ps (nds.filter (inP pc)) < leastF (nds.filter (inP pc)) then .non else .int 0) H'
section
variable {P : Program} {w : World} {K : PySem.W.Frag} {mg : Str → Option Value} {base : Heap} {C_Person C_House C_Costs C_EvenCosts C_ChangeCosts C_LevelCosts C_Paper C_Places C_Prices : Addr}
local macro_rules | `(tactic| walk_at "lk") => `(tactic| first | exact lP_most _ _ _ _ _ | exact lH_persons _ _ _ _ _ _ _ _ | exact lH_needs _ _ _ _ _ _ _ _ | exact lH_may _ _ _ _ _ _ _ _ | exact lPl _ | exact lPf _ | exact Or.inr (SqT.of (by with_reducible assumption)))

theorem g_able_to_do (tx : Tx K mg C_Person C_House C_Costs C_EvenCosts C_ChangeCosts C_LevelCosts C_Paper C_Places C_Prices) : FnG P w K mg base "able_to_do" 3 ["house", "p", "asked"] (sp_able C_Person C_House) := by
  have G_may := g_may (P := P) (w := w) (base := base) tx
  refine tx.f_able_to_do.g sc_able_to_do (fun _ _ _ _ _ _ us hl => match us, hl with | [_, _, _], _ => rfl) (fun vs H Q E h => ?_) (fun f cdv A outer s H vs Q E hr h => ?_)
  · obtain ⟨h, al, p, dd, ks, nds, held, ps, ls, n, as, rfl, _⟩ := h
    rfl
  · obtain ⟨h, al, p, dd, ks, nds, held, ps, ls, n, as, rfl, hs, hp0, hn, hkl, hal, aH, hhl, hU, hin, q⟩ := h
    refine ⟨_, (pss_cons (ps_setC (k := 3) (osc := defScope s_able_to_do) (ON := ["house", "p", "asked", "days"]) (N := ["day", "kind", "least", "most", "p", "house"]) (js := [none, none, none, none, some 1, some 0]) sc_able_to_do.nd rfl (Or.inl rfl) ⟨rfl, by decide +kernel, by decide +kernel, by decide +kernel, rfl, by decide +kernel⟩ rfl rfl rfl (pi_listK (K := K) rfl (pv 2)) (fun _ _ _ _ _ => pg_tupK (K := K) (n := 4) rfl rfl (pgs_cons (pg_name (i := 0) (show List.Nodup (["day", "kind", "least", "most", "p", "house"] : List Str) from by decide +kernel) rfl (Or.inl rfl)) (pgs_cons (pg_name (i := 1) (show List.Nodup (["day", "kind", "least", "most", "p", "house"] : List Str) from by decide +kernel) rfl (Or.inl rfl)) (pgs_cons (pg_name (i := 2) (show List.Nodup (["day", "kind", "least", "most", "p", "house"] : List Str) from by decide +kernel) rfl (Or.inl rfl)) (pgs_cons (pg_name (i := 3) (show List.Nodup (["day", "kind", "least", "most", "p", "house"] : List Str) from by decide +kernel) rfl (Or.inl rfl)) pgs_nil))))) (fun _ _ _ _ _ => pifs_one (pt_cmpR op_inS (pv 1) (pe_mt G_may (hr.mono (by decide)) (pv 5) (pa_cons (pv 4) (pa_cons (pv 0) pa_nil))) rfl)) (fun _ _ _ _ _ => (pv 0)))
      (pss_one (ps_ret (pe_callB (call_min2 rfl) rfl tx.z_min bt_min (pa_cons (pe_fldK (K := K) rfl (pe_ix (ix_listK (K := K) rfl) (pe_fldK (K := K) rfl (pv 0) rfl) (pv 1) (fun _ _ => rfl)) rfl) (pa_cons (pe_callB call_lenSet rfl tx.z_len PySem.boot_len (pa_cons (pe_callTy (call_setI (K := K) rfl rfl) rfl tx.z_set bt_ty_set (pa_cons (pv 3) pa_nil)) pa_nil)) pa_nil)))))), ?_⟩
    walk_at "st"
    clear G_may
    have hs' := hs
    obtain ⟨a1, a2, a3, a4, a5, a6, xs, ys, zs, ws0, ⟨dx, h1⟩, h2, h3, h4, h5, h6, h7, h8⟩ := hs'
    have cH := tx.c_House.cl
    have nH1 := tx.n_House_persons
    have cP := tx.c_Person.cl
    have nP1 := tx.n_Person_most
    obtain ⟨y, hy, pa, rfl, dxp, hp⟩ := h5.get hn
    have hix : atI ys p = some (.ref pa) := by have := atI_nat hy; rwa [Int.toNat_of_nonneg hp0] at this
    walk_at "rd"
    refine comp_hands held (canB ls n) (fun m y _ => y = .int m.day) (fun σ => ∃ v1 v2 v3 v4, σ = [v1, v2, v3, v4, some (.int p), some (.ref h)]) (hands_list (SqL.of hal)) aH.len (by omega) ⟨_, _, _, _, rfl⟩ (fun _ _ _ _ _ z => z) (fun i m v σ H' hm hv hσ s' Rf Rt hF hR => ?_) (fun D H2 rs nD s2 hrs hD => ?_)
    · obtain ⟨w1, w2, w3, w4, rfl⟩ := hσ
      obtain ⟨m', hm', t, rfl, ht⟩ := aH.back hv
      rw [hm] at hm'
      cases hm'
      obtain ⟨i1, i2⟩ := hin m (List.mem_of_getElem? hm)
      have hc := may_can (ls := ls) (p := n) hU i1 i2
      have ht' := s' _ _ ht
      have hs' := hs.same s'
      have h1' := s' _ _ h1
      walk_at "rd"
      intro H3 s3
      walk_at "rd"
      rw [hc]
      refine ite2 (fun e => ?_) (fun e => ?_)
      · walk_at "rd"
        exact hR _ _ _ e ⟨_, _, _, _, rfl⟩ s3 rfl
      · exact hF _ _ (Bool.eq_false_iff.mpr e) ⟨_, _, _, _, rfl⟩ s3
    have er : rs = ((held.filter (canB ls n)).map (·.day)).map V.int := by
      rw [List.map_map]
      exact hrs.eqmap fun a y h => h
    rw [er] at hD
    have hdl : ((held.filter (canB ls n)).map (·.day)).length ≤ 1000 := by
      rw [List.length_map]
      have := List.length_filter_le (canB ls n) held
      omega
    have qD : SqL K H2 D (((held.filter (canB ls n)).map (·.day)).map V.int) := SqL.of hD
    have k1 := s2 _ _ h1
    have k4 := s2 _ _ h4
    have kp := s2 _ _ hp
    walk_at "rd"
    intro st S fst
    walk_at "rd"
    exact q _ (s2.trans (same_new fst _))

theorem g_Places_init (tx : Tx K mg C_Person C_House C_Costs C_EvenCosts C_ChangeCosts C_LevelCosts C_Paper C_Places C_Prices) : MtG P w K mg base C_Places "__init__" 1 ["self", "places"] (sp_plinit C_Places) := by
  refine tx.m_Places_init.g tx.c_Places.cl sc_Places_init (fun _ _ _ _ _ _ us hl => match us, hl with | [_, _], _ => rfl) (fun vs H Q E h => ?_) (fun f cdv A outer s H vs Q E hr h => ?_)
  · obtain ⟨p, dx, l, xs, rfl, _⟩ := h
    rfl
  · obtain ⟨p, dx, l, xs, rfl, hp, hl, q⟩ := h
    refine ⟨_, (pss_one (ps_fld (pv 0) (pe_callTy call_list_of rfl tx.z_list bt_ty_list (pa_cons (pv 1) pa_nil)) rfl)), ?_⟩
    walk_at "st"
    refine ⟨_, rfl, l, xs, rfl, .inl (SqL.of hl), fun a1 n1 => ?_⟩
    refine ⟨_, rfl, p, C_Places, dx, [], rfl, (upd_ne (ne_of_none hp n1)).trans hp, tx.c_Places.cl, tx.n_Places_places, (by show 0 < 1000; decide), ?_⟩
    have z1 : a1 ≠ p := (ne_of_none hp n1).symm
    exact q _ a1 ((But.refl p H).new n1).at upd_same (by rw [upd_ne z1]; exact upd_same) n1

theorem g_plfloor (tx : Tx K mg C_Person C_House C_Costs C_EvenCosts C_ChangeCosts C_LevelCosts C_Paper C_Places C_Prices) : MtG P w K mg base C_Places "floor" 4 ["self", "house", "costs"] (sp_plfloor C_Person C_House C_Places) := by
  have G_able_to_do := g_able_to_do (P := P) (w := w) (base := base) tx
  refine tx.m_Places_floor.g tx.c_Places.cl sc_Places_floor (fun _ _ _ _ _ _ us hl => match us, hl with | [_, _, _], _ => rfl) (fun vs H Q E h => ?_) (fun f cdv A outer s H vs Q E hr h => ?_)
  · obtain ⟨pp, h, a, dx, c, dd, ks, nds, ps, ls, pc, as, rfl, _⟩ := h
    rfl
  · obtain ⟨pp, h, a, dx, c, dd, ks, nds, ps, ls, pc, as, rfl, hpp, ha, aP, hs, hok, hpc, q⟩ := h
    refine ⟨_, (pss_cons (ps_set (i := 3) sc_Places_floor.nd rfl (Or.inr rfl) (pe_comp (osc := defScope s_Places_floor) (ON := ["self", "house", "costs", "asked", "least", "able"]) (N := ["need", "self"]) (js := [none, some 0]) ⟨rfl, by decide +kernel, by decide +kernel, by decide +kernel, rfl, by decide +kernel⟩ rfl rfl rfl (pi_listK (K := K) rfl (pe_fldK (K := K) rfl (pv 1) rfl)) (fun _ _ _ _ _ => pg_name (i := 0) (show List.Nodup (["need", "self"] : List Str) from by decide +kernel) rfl (Or.inl rfl)) (fun _ _ _ _ _ => pifs_one (pt_cmpR (op_inT (K := K) rfl (hu_of hr)) (pe_tup (pa_cons (pe_ix (ix_tupK (K := K) rfl) (pv 0) pe_int (fun _ _ => rfl)) (pa_cons (pe_ix (ix_tupK (K := K) rfl) (pv 0) pe_int (fun _ _ => rfl)) pa_nil))) (pe_fldK (K := K) rfl (pv 1) rfl) rfl)) (fun _ _ _ _ _ => (pv 0))))
      (pss_cons (ps_set (i := 4) sc_Places_floor.nd rfl (Or.inl rfl) (pe_callB (call_sumK (K := K) rfl rfl) rfl tx.z_sum bt_sum (pa_cons (pe_comp (osc := defScope s_Places_floor) (ON := ["self", "house", "costs", "asked", "least", "able"]) (N := ["need"]) (js := [none]) ⟨rfl, by decide +kernel, by decide +kernel, by decide +kernel, rfl, by decide +kernel⟩ rfl rfl rfl (pi_listK (K := K) rfl (pv 3)) (fun _ _ _ _ _ => pg_name (i := 0) (show List.Nodup (["need"] : List Str) from by decide +kernel) rfl (Or.inl rfl)) (fun _ _ _ _ _ => pifs_nil) (fun _ _ _ _ _ => (pe_ix (ix_tupK (K := K) rfl) (pv 0) pe_int (fun _ _ => rfl)))) pa_nil)))
      (pss_cons (ps_set (i := 5) sc_Places_floor.nd rfl (Or.inl rfl) (pe_callB (call_sumK (K := K) rfl rfl) rfl tx.z_sum bt_sum (pa_cons (pe_comp (osc := defScope s_Places_floor) (ON := ["self", "house", "costs", "asked", "least", "able"]) (N := ["p", "house", "asked"]) (js := [none, some 1, some 3]) ⟨rfl, by decide +kernel, by decide +kernel, by decide +kernel, rfl, by decide +kernel⟩ rfl rfl rfl (pi_range1 rfl tx.z_range (pa_cons (pe_callB (call_len_seqK (K := K) rfl) rfl tx.z_len PySem.boot_len (pa_cons (pe_fldK (K := K) rfl (pv 1) rfl) pa_nil)) pa_nil)) (fun _ _ _ _ _ => pg_name (i := 0) (show List.Nodup (["p", "house", "asked"] : List Str) from by decide +kernel) rfl (Or.inl rfl)) (fun _ _ _ _ _ => pifs_nil) (fun _ _ _ _ _ => (pe_fn G_able_to_do (hr.mono (by decide)) (pa_cons (pv 1) (pa_cons (pv 0) (pa_cons (pv 2) pa_nil)))))) pa_nil)))
      (pss_one (ps_ret (pe_ifExp (pt_cmpR op_gt (pv 4) (pv 5) (nomark _)) pe_non pe_int)))))), ?_⟩
    walk_at "st"
    clear G_able_to_do
    have hs' := hs
    obtain ⟨a1, a2, a3, a4, a5, a6, xs, ys, zs, ws0, ⟨dxh, h1⟩, h2, h3, h4, h5, h6, h7, h8⟩ := hs'
    have cH := tx.c_House.cl
    have nH1 := tx.n_House_persons
    have nH2 := tx.n_House_needs
    have cL := tx.c_Places.cl
    have nL := tx.n_Places_places
    have n21 := hok.n21
    have p5 := hok.p5
    have k3 := hok.k3
    walk_at "rd"
    refine comp_hands nds (inP pc) NdAt (fun σ => ∃ v, σ = [v, some (.ref pp)]) (hands_list (SqL.of h2)) h3.len (by omega) ⟨_, rfl⟩ NdAt.keeps (fun i m v σ H' hm hv hσ s' Rf Rt hF hR => ?_) (fun D H2 rs nD s2 hrs hD => ?_)
    · obtain ⟨w1, rfl⟩ := hσ
      obtain ⟨m', hm', t, rfl, ht⟩ := h3.back hv
      rw [hm] at hm'
      cases hm'
      have ht' := s' _ _ ht
      have b0 : atI [V.int m.day, T [m.kind], .int m.least, .int m.most] 0 = some (.int m.day) := by simp [atI, ixN]
      have b1 : atI [V.int m.day, T [m.kind], .int m.least, .int m.most] 1 = some (T [m.kind]) := by simp [atI, ixN]
      walk_at "rd"
      intro t2 ft2
      obtain ⟨H3, e3, yt2, s3⟩ := newt (xs := [V.int m.day, T [m.kind]]) ft2
      rw [← e3]
      have hpp3 := (s'.trans s3) _ _ hpp
      have ha3 := (s'.trans s3) _ _ ha
      have aP3 := pl_tp (K := K) (aP.imp fun a y => PlT.keeps a y _ _ (s'.trans s3).keeps)
      have fl : ([V.int m.day, T [m.kind]] : List V).all flatV = true := rfl
      walk_at "rd"
      refine ite2 (fun e => ?_) (fun e => ?_)
      · walk_at "rd"
        exact hR _ _ _ e ⟨_, rfl⟩ s3 ⟨t, rfl, s3 _ _ ht'⟩
      · exact hF _ _ (Bool.eq_false_iff.mpr e) ⟨_, rfl⟩ s3
    have hfl := List.length_filter_le (inP pc) nds
    have hin : ∀ n ∈ nds.filter (inP pc), n ∈ nds ∧ n.kind ∈ ks := fun n hn => ⟨(List.mem_filter.mp hn).1, hok.k n (List.mem_filter.mp hn).1⟩
    have hU := hok.u
    generalize nds.filter (inP pc) = held at hrs hfl hin q
    have hhl : held.length ≤ 21 := by omega
    walk_at "rd"
    refine comp_hands held (fun _ => true) (fun m y _ => y = .int m.least) (fun σ => ∃ v, σ = [v]) (hands_list (SqL.of hD)) hrs.len (by omega) ⟨_, rfl⟩ (fun _ _ _ _ _ z => z) (fun i m v σ H' hm hv hσ s' Rf Rt hF hR => ?_) (fun D2 H3 us nD2 s3 hus hD2 => ?_)
    · obtain ⟨w1, rfl⟩ := hσ
      obtain ⟨m', hm', t, rfl, ht⟩ := hrs.back hv
      rw [hm] at hm'
      cases hm'
      have ht' := s' _ _ ht
      have b2 : atI [V.int m.day, T [m.kind], .int m.least, .int m.most] 2 = some (.int m.least) := by simp [atI, ixN]
      walk_at "rd"
      exact hR _ _ _ rfl ⟨_, rfl⟩ (Same.refl _) rfl
    rw [List.filter_eq_self.mpr fun _ _ => rfl] at hus
    have eu : us = (held.map (·.least)).map V.int := by
      rw [List.map_map]
      exact hus.eqmap fun a y h => h
    rw [eu] at hD2
    have qD2 : SqL K H3 D2 ((held.map (·.least)).map V.int) := SqL.of hD2
    have S3 := s2.trans s3
    have k1 := S3 _ _ h1
    have k4 := S3 _ _ h4
    have hsl := h5.len
    walk_at "rd"
    have tp : (((ys.length : Nat) : Int)).toNat = ps.length := by rw [Int.toNat_natCast, hsl]
    rw [tp]
    refine comp_hands (List.range ps.length) (fun _ => true) (fun (k : Nat) y _ => ∀ n, ps[k]? = some n → y = .int (canP ls held n)) (fun σ => ∃ v, σ = [v, some (.ref h), some (.ref D)]) (hands_range 0 ps.length) (by rw [List.length_map]) (by rw [List.length_range]; omega) ⟨_, rfl⟩ (fun _ _ _ _ _ z => z) (fun i k v σ H' hk hv hσ s' Rf Rt hF hR => ?_) (fun D3 H4 ws nD3 s4 hws hD3 => ?_)
    · obtain ⟨w1, rfl⟩ := hσ
      rw [List.getElem?_map, hk] at hv
      cases hv
      obtain ⟨ek, hkl⟩ := range_at hk
      have hkl' : k < ps.length := by omega
      have hn : ps[(0 + (k : Int)).toNat]? = some ps[k] := by rw [show (0 + (k : Int)).toNat = k by omega]; exact List.getElem?_eq_getElem hkl'
      have k0 : (0 : Int) ≤ 0 + (k : Int) := by omega
      have hs' := hs.same (S3.trans s')
      have hD' := (s3.trans s') _ _ hD
      have aH' := hrs.imp fun a y => NdAt.keeps a y _ _ (s3.trans s').keeps
      walk_at "rd"
      exact fun H6 s6 => hR _ _ _ rfl ⟨_, rfl⟩ s6 fun n hn' => by rw [List.getElem?_eq_getElem hkl'] at hn'; rw [← Option.some.inj hn']
    rw [List.filter_eq_self.mpr fun _ _ => rfl] at hws
    have ew : ws = (ps.map (canP ls held)).map V.int := by
      have hl := hws.len
      rw [List.length_range] at hl
      refine List.ext_getElem? fun j => ?_
      rw [List.getElem?_map, List.getElem?_map]
      cases hj : ps[j]? with
      | none => exact List.getElem?_eq_none (by have := List.getElem?_eq_none_iff.mp hj; omega)
      | some n =>
        have hjl := (List.getElem?_eq_some_iff.mp hj).1
        obtain ⟨y, hy, e⟩ := hws.get (i := j) (a := j) (List.getElem?_range hjl)
        rw [hy, e n hj]
        rfl
    rw [ew] at hD3
    have qD3 : SqL K H4 D3 ((ps.map (canP ls held)).map V.int) := SqL.of hD3
    walk_at "rd"
    have eC : (decide (leastF held > canF ls ps held)) = decide ((ps.map (canP ls held)).sum < (held.map (·.least)).sum) := rfl
    have q' := q H4 (S3.trans s4)
    refine ite2 (fun e => ?_) (fun e => ?_)
    · have e' : canF ls ps held < leastF held := of_decide_eq_true e
      rw [if_pos e'] at q'
      walk_at "rd"
      exact q'
    · have e' : ¬ canF ls ps held < leastF held := fun z => e (decide_eq_true z)
      rw [if_neg e'] at q'
      walk_at "rd"
      exact q'
end

section
variable {P : Program} {w : World} {K : PySem.W.Frag} {mg : Str → Option Value} {base : Heap} {C_Person C_House C_Costs C_EvenCosts C_ChangeCosts C_LevelCosts C_Paper C_Places C_Prices : Addr}

theorem g_duties_in (tx : Tx K mg C_Person C_House C_Costs C_EvenCosts C_ChangeCosts C_LevelCosts C_Paper C_Places C_Prices) : FnG P w K mg base "duties_in" 1 ["marks"] sp_dut := by
  refine tx.f_duties_in.g sc_duties_in (fun _ _ _ _ _ _ us hl => match us, hl with | [_], _ => rfl) (fun vs H Q E h => ?_) (fun f cdv A outer s H vs Q E hr h => ?_)
  · obtain ⟨l, rfl, _⟩ := h
    rfl
  · obtain ⟨l, rfl, hl, q⟩ := h
    refine ⟨_, (pss_one (ps_ret (pe_callB (call_len_seqK (K := K) rfl) rfl tx.z_len PySem.boot_len (pa_cons (pe_comp (osc := defScope s_duties_in) (ON := ["marks"]) (N := ["mark"]) (js := [none]) ⟨rfl, by decide +kernel, by decide +kernel, by decide +kernel, rfl, by decide +kernel⟩ rfl rfl rfl (pi_txt (pv 0)) (fun _ _ _ _ _ => pg_name (i := 0) (show List.Nodup (["mark"] : List Str) from by decide +kernel) rfl (Or.inl rfl)) (fun _ _ _ _ _ => pifs_one (pt_cmpR op_ne (pv 0) (pe_txt (l := [45]) (by decide +kernel)) (nomark _))) (fun _ _ _ _ _ => (pv 0))) pa_nil)))), ?_⟩
    walk_at "st"
    walk_at "rd"
    refine comp_by (fun x => !decide (x = T [45])) (fun x => x) (hands_txt l) ?_ (fun x hx H' s' R hR => ?_) (fun x hx hp H' s' R hR => ?_) (fun D H' hD s' hDD => ?_)
    · rw [List.length_map]; omega
    · obtain ⟨k, _, rfl⟩ := List.mem_map.mp hx
      walk_at "rd"
      exact hR H' (Same.refl _)
    · walk_at "rd"
      exact hR H' (Same.refl _)
    refine ⟨D, _, rfl, .inl (SqL.of hDD), ?_⟩
    rw [dut_txt]
    exact q H' s'

end
/-! ### what a rota costs -/
def rowN (g : Nat → Nat → Nat → Int) (p : Nat) (row : List Nat) (j : Nat) : Int := ((List.range j).map fun d => g p d (row.getD d 0)).sum
def totN (f : Nat → List Nat → Int) (g : Nat → Nat → Nat → Int) (rows : List (List Nat)) (i : Nat) : Int := ((List.range i).map fun p => f p (rows.getD p []) + rowN g p (rows.getD p []) (rows.getD p []).length).sum
theorem sum_snoc (l : List Int) (x : Int) : (l ++ [x]).sum = l.sum + x := by
  rw [List.sum_append, List.sum_cons, List.sum_nil, Int.add_zero]
theorem totN_succ (f : Nat → List Nat → Int) (g : Nat → Nat → Nat → Int) (rows : List (List Nat)) {i : Nat} {row : List Nat} (h : rows[i]? = some row) : totN f g rows (i + 1) = totN f g rows i + f i row + rowN g i row row.length := by
  unfold totN
  rw [List.range_succ, List.map_append]
  show (_ ++ [f i (rows.getD i []) + rowN g i (rows.getD i []) (rows.getD i []).length]).sum = _
  rw [sum_snoc, List.getD_eq_getElem?_getD, h]
  show _ + (f i row + rowN g i row row.length) = _
  omega
def Ans1 (H : Hp) (sp : Sp) (c : Addr) (f : Nat → List Nat → Int) (rows : List (List Nat)) : Prop := ∀ (p : Nat) (row : List Nat), rows[p]? = some row → Ans H sp [.ref c, .int (p : Int), .int (dut row : Nat)] (f p row)
def Ans2 (H : Hp) (sp : Sp) (c : Addr) (g : Nat → Nat → Nat → Int) (rows : List (List Nat)) : Prop := ∀ (p d x : Nat) (row : List Nat), rows[p]? = some row → row[d]? = some x → Ans H sp [.ref c, .int (p : Int), .int (d : Int), T [x]] (g p d x)
/-- costs at c that answer f and g -/
structure CoAt (P : Program) (w : World) (K : PySem.W.Frag) (mg : Str → Option Value) (base : Heap) (H : Hp) (c : Addr) (f : Nat → List Nat → Int) (g : Nat → Nat → Nat → Int) (rows : List (List Nat)) : Prop where
  ex : ∃ (C dx : Addr) (fs : List (Str × V)) (k1 k2 : Nat) (ps1 ps2 : List Str) (sp1 sp2 : Sp), H c = some (.ins C dx fs) ∧ fs.lookup ("of_count" : Str) = none ∧ fs.lookup ("of_mark" : Str) = none ∧ MtG P w K mg base C "of_count" k1 ps1 sp1 ∧ k1 ≤ 3 ∧ MtG P w K mg base C "of_mark" k2 ps2 sp2 ∧ k2 ≤ 3 ∧ Ans1 H sp1 c f rows ∧ Ans2 H sp2 c g rows
theorem CoAt.same {P : Program} {w : World} {K : PySem.W.Frag} {mg : Str → Option Value} {base : Heap} {H H' : Hp} {c : Addr} {f : Nat → List Nat → Int} {g : Nat → Nat → Nat → Int} {rows : List (List Nat)} (x : CoAt P w K mg base H c f g rows) (s : Same H H') : CoAt P w K mg base H' c f g rows := by
  obtain ⟨C, dx, fs, k1, k2, ps1, ps2, sp1, sp2, h1, l1, l2, m1, e1, m2, e2, a1, a2⟩ := x.ex
  exact ⟨C, dx, fs, k1, k2, ps1, ps2, sp1, sp2, s _ _ h1, l1, l2, m1, e1, m2, e2, fun p row h => (a1 p row h).same s, fun p d x row h h2 => (a2 p d x row h h2).same s⟩
def sp_total (P : Program) (w : World) (K : PySem.W.Frag) (mg : Str → Option Value) (base : Heap) : Sp := fun vs H Q _ => ∃ (hv : V) (c r : Addr) (f : Nat → List Nat → Int) (g : Nat → Nat → Nat → Int) (rows : List (List Nat)), vs = [hv, .ref c, .ref r] ∧ CoAt P w K mg base H c f g rows ∧ H r = some (.lst (rows.map T)) ∧ (∀ x ∈ rows, x.length ≤ 1000) ∧ ∀ H', Same H H' → Q (.int (totN f g rows rows.length)) H'
section
variable {P : Program} {w : World} {K : PySem.W.Frag} {mg : Str → Option Value} {base : Heap} {C_Person C_House C_Costs C_EvenCosts C_ChangeCosts C_LevelCosts C_Paper C_Places C_Prices : Addr}

theorem g_total_of (tx : Tx K mg C_Person C_House C_Costs C_EvenCosts C_ChangeCosts C_LevelCosts C_Paper C_Places C_Prices) : FnG P w K mg base "total_of" 5 ["house", "costs", "rota"] (sp_total P w K mg base) := by
  have G_duties_in := g_duties_in (P := P) (w := w) (base := base) tx
  refine tx.f_total_of.g sc_total_of (fun _ _ _ _ _ _ us hl => match us, hl with | [_, _, _], _ => rfl) (fun vs H Q E h => ?_) (fun f cdv A outer s H vs Q E hr h => ?_)
  · obtain ⟨hv, c, r, f, g, rows, rfl, _⟩ := h
    rfl
  · obtain ⟨hv, c, r, f, g, rows, rfl, hC, hr1, hx, q⟩ := h
    refine ⟨_, (pss_cons (ps_set (i := 3) sc_total_of.nd rfl (Or.inl rfl) pe_int)
      (pss_cons (ps_for PassesOwn.never rfl (pi_enumLK (K := K) rfl rfl tx.z_enumerate (pa_cons (pv 2) pa_nil)) (pg_tup rfl (pgs_cons (pg_name (i := 4) sc_total_of.nd rfl (Or.inr rfl)) (pgs_cons (pg_name (i := 5) sc_total_of.nd rfl (Or.inl rfl)) pgs_nil))) (pss_cons (ps_aug (i := 3) sc_total_of.nd rfl (Or.inl rfl) (pe_mtD (P := P) (w := w) (K := K) (mg := mg) (base := base) hr (pv 1) (pa_cons (pv 4) (pa_cons (pe_fn G_duties_in (hr.mono (by decide)) (pa_cons (pv 5) pa_nil)) pa_nil)) rfl rfl rfl rfl rfl) ip_add)
      (pss_one (ps_aug (i := 3) sc_total_of.nd rfl (Or.inl rfl) (pe_callB (call_sumK (K := K) rfl rfl) rfl tx.z_sum bt_sum (pa_cons (pe_comp (osc := defScope s_total_of) (ON := ["house", "costs", "rota", "total", "p", "row"]) (N := ["day", "mark", "p", "costs"]) (js := [none, none, some 4, some 1]) ⟨rfl, by decide +kernel, by decide +kernel, by decide +kernel, rfl, by decide +kernel⟩ rfl rfl rfl (pi_enumT rfl tx.z_enumerate (pa_cons (pv 5) pa_nil)) (fun _ _ _ _ _ => pg_two (K := K) (i := 0) (j := 1) rfl rfl (show List.Nodup (["day", "mark", "p", "costs"] : List Str) from by decide +kernel) rfl rfl (Or.inl rfl) (Or.inl rfl)) (fun _ _ _ _ _ => pifs_nil) (fun _ _ _ _ _ => (pe_mtD (P := P) (w := w) (K := K) (mg := mg) (base := base) hr (pv 3) (pa_cons (pv 2) (pa_cons (pv 0) (pa_cons (pv 1) pa_nil))) rfl rfl rfl rfl rfl))) pa_nil)) ip_add))))
      (pss_one (ps_ret (pv 3))))), ?_⟩
    walk_at "st"
    clear G_duties_in
    walk_at "rd"
    refine for_enumL (K := K) (xs := rows.map T) (fun i σ H2 => Here (∃ v1 v2, σ = [some hv, some (.ref c), some (.ref r), some (.int (totN f g rows i)), v1, v2] ∧ Same H H2)) (Here.mk ⟨none, none, rfl, Same.refl _⟩) (fun i σ H2 _ hv => by obtain ⟨_, _, _, s2⟩ := hv.out; exact SqL.of (s2 _ _ hr1)) ?_ ?_
    · rintro i x p σ H2 hxi hp hv2
      obtain ⟨v1, v2, rfl, s2⟩ := hv2.out
      rw [List.getElem?_map] at hxi
      cases hri : rows[i]? with
      | none => rw [hri] at hxi; cases hxi
      | some row =>
        rw [hri] at hxi
        cases hxi
        have hrl := hx row (List.mem_of_getElem? hri)
        have e1 := totN_succ f g rows hri
        obtain ⟨H3, e3, h3, s3⟩ := newt (xs := [V.int i, T row]) hp
        rw [← e3]
        have S3 := s2.trans s3
        obtain ⟨C, dx, fs, k1, k2, ps1, ps2, sp1, sp2, h1, l1, l2, M1, hk1, M2, hk2, A1, A2⟩ := (hC.same S3).ex
        walk_at "rd"
        intro H4 s4
        have h14 := s4 _ _ h1
        walk_at "rd"
        refine (A1 i row hri) _ _ s4 fun H5 s5 => ?_
        have h15 := s5 _ _ h14
        walk_at "rd"
        refine comp_enumTG (fun _ => true) (fun d y _ => y = V.int (g i d (row.getD d 0))) (fun σ => ∃ v1 v2, σ = [v1, v2, some (.int i), some (.ref c)]) (by omega) ⟨_, _, rfl⟩ (fun _ _ _ _ _ z => z) (fun d x q σ H' hxd hσ s' hq Rf Rt _ hR => ?_) (fun D H6 ys nD s6 hys hD => ?_)
        · obtain ⟨w1, w2, rfl⟩ := hσ
          obtain ⟨H7, e7, h7, s7⟩ := newt (xs := [V.int d, T [x]]) hq
          rw [← e7]
          have h17 := (s'.trans s7) _ _ h15
          walk_at "rd"
          refine (A2 i d x row hri hxd) _ _ ((s4.trans s5).trans (s'.trans s7)) fun H8 s8 => ?_
          refine hR _ _ _ rfl ⟨_, _, rfl⟩ (s7.trans s8) ?_
          rw [List.getD_eq_getElem?_getD, hxd]
          rfl
        rw [hys.eqmap (f := fun d => V.int (g i d (row.getD d 0))) (fun a y e => e), List.filter_eq_self.mpr fun _ _ => rfl, show (fun d => V.int (g i d (row.getD d 0))) = V.int ∘ (fun d => g i d (row.getD d 0)) from rfl, ← List.map_map] at hD
        have hS : SqL K H6 D (((List.range row.length).map fun d => g i d (row.getD d 0)).map V.int) := SqL.of hD
        walk_at "rd"
        refine Here.mk ⟨some (.int i), some (T row), ?_, ((S3.trans s4).trans s5).trans s6⟩
        rw [e1]
        rfl
    · rintro σ H2 hv2
      obtain ⟨v1, v2, rfl, s2⟩ := hv2.out
      rw [List.length_map]
      walk_at "rd"
      exact q H2 s2
end

/-! ### sums -/
theorem notM_snoc (W : List Wi) (w : Wi) (p d c : Nat) : notM (W ++ [w]) p d c = notM W p d c + (if (w.k = p ∧ w.day = d) ∧ ¬ c ∈ w.marks then 1 else 0) := by
  unfold notM
  rw [mkOf_snoc]
  by_cases h : w.k = p ∧ w.day = d
  · rw [if_pos h, List.filter_append, List.length_append]
    by_cases hc : c ∈ w.marks
    · rw [if_neg (fun z => z.2 hc)]
      simp [hc]
    · rw [if_pos ⟨h, hc⟩]
      simp [hc]
  · rw [if_neg h, if_neg (fun z => h z.1)]
    rfl
def unm (W : List Wi) (rows : List (List Nat)) : Nat := (W.filter fun w => !decide ((rows.getD w.k []).getD w.day 0 ∈ w.marks)).length
def WIn (rows : List (List Nat)) (w : Wi) : Prop := w.k < rows.length ∧ w.day < (rows.getD w.k []).length ∧ w.marks.length ≤ 1000
theorem sum_add_map {α : Type} (f g : α → Int) : ∀ l : List α, (l.map fun x => f x + g x).sum = (l.map f).sum + (l.map g).sum
  | [] => rfl
  | x :: l => by
    rw [List.map_cons, List.map_cons, List.map_cons, List.sum_cons, List.sum_cons, List.sum_cons, sum_add_map f g l]
    omega
theorem sum_mul_map {α : Type} (k : Int) (f : α → Int) : ∀ l : List α, (l.map fun x => k * f x).sum = k * (l.map f).sum
  | [] => (Int.mul_zero k).symm
  | x :: l => by rw [List.map_cons, List.map_cons, List.sum_cons, List.sum_cons, sum_mul_map k f l, Int.mul_add]
theorem sum_zero_map {α : Type} (f : α → Int) : ∀ l : List α, (∀ x ∈ l, f x = 0) → (l.map f).sum = 0
  | [], _ => rfl
  | x :: l, h => by rw [List.map_cons, List.sum_cons, h x List.mem_cons_self, sum_zero_map f l fun y hy => h y (List.mem_cons_of_mem _ hy)]; rfl
theorem sum_one_map (v : Int) (k : Nat) : ∀ n, ((List.range n).map (fun i => if i = k then v else 0)).sum = if k < n then v else 0
  | 0 => rfl
  | n + 1 => by
    rw [List.range_succ, List.map_append]
    show (_ ++ [if n = k then v else 0]).sum = _
    rw [sum_snoc, sum_one_map v k n]
    by_cases h : n = k
    · subst h; rw [if_neg (Nat.lt_irrefl _), if_pos rfl, if_pos (Nat.lt_succ_self _), Int.zero_add]
    · rw [if_neg h, Int.add_zero]
      by_cases h2 : k < n
      · rw [if_pos h2, if_pos (by omega)]
      · rw [if_neg h2, if_neg (by omega)]
theorem tot_split (f : Nat → List Nat → Int) (g : Nat → Nat → Nat → Int) (rows : List (List Nat)) (n : Nat) : totN f g rows n = ((List.range n).map fun p => f p (rows.getD p [])).sum + ((List.range n).map fun p => rowN g p (rows.getD p []) (rows.getD p []).length).sum := sum_add_map _ _ _
theorem unm_snoc (W : List Wi) (w : Wi) (rows : List (List Nat)) : unm (W ++ [w]) rows = unm W rows + (if (rows.getD w.k []).getD w.day 0 ∈ w.marks then 0 else 1) := by
  unfold unm
  rw [List.filter_append, List.length_append]
  by_cases h : (rows.getD w.k []).getD w.day 0 ∈ w.marks
  · rw [if_pos h, List.filter_cons, if_neg (by rw [decide_eq_true h]; decide)]; rfl
  · rw [if_neg h, List.filter_cons, if_pos (by rw [decide_eq_false h]; rfl)]; rfl
theorem tot_wish (rows : List (List Nat)) (W : List Wi) : ∀ k ≤ W.length, (∀ w ∈ W, WIn rows w) → ((List.range rows.length).map fun p => rowN (fun p d c => (notM (W.take k) p d c : Nat)) p (rows.getD p []) (rows.getD p []).length).sum = (unm (W.take k) rows : Nat)
  | 0, _, _ => by
    rw [List.take_zero]
    exact sum_zero_map _ _ fun p _ => sum_zero_map _ _ fun d _ => rfl
  | k + 1, hk, hW => by
    have ih := tot_wish rows W k (by omega) hW
    obtain ⟨w, hw⟩ : ∃ w, W[k]? = some w := ⟨W[k], List.getElem?_eq_getElem (by omega)⟩
    obtain ⟨h1, h2, _⟩ := hW w (List.mem_of_getElem? hw)
    have et : W.take (k + 1) = W.take k ++ [w] := by rw [List.take_add_one, hw]; rfl
    rw [et, unm_snoc]
    have e1 : ∀ p ∈ List.range rows.length, rowN (fun p d c => (notM (W.take k ++ [w]) p d c : Nat)) p (rows.getD p []) (rows.getD p []).length = rowN (fun p d c => (notM (W.take k) p d c : Nat)) p (rows.getD p []) (rows.getD p []).length + (if p = w.k then (if (rows.getD w.k []).getD w.day 0 ∈ w.marks then 0 else 1) else 0) := fun p _ => by
      unfold rowN
      rw [show (fun d => ((notM (W.take k ++ [w]) p d ((rows.getD p []).getD d 0) : Nat) : Int)) = fun d => ((notM (W.take k) p d ((rows.getD p []).getD d 0) : Nat) : Int) + (if d = w.day then (if p = w.k then (if (rows.getD w.k []).getD w.day 0 ∈ w.marks then 0 else 1) else 0) else 0) from ?_]
      · rw [sum_add_map, sum_one_map]
        by_cases hp : p = w.k
        · subst hp
          rw [if_pos h2]
        · rw [if_neg hp]
          split <;> rfl
      · funext d
        rw [notM_snoc]
        by_cases hd : d = w.day
        · subst hd
          by_cases hp : p = w.k
          · subst hp
            rw [if_pos rfl, if_pos rfl]
            by_cases hm : (rows.getD w.k []).getD w.day 0 ∈ w.marks
            · rw [if_pos hm, if_neg fun z => z.2 hm]; rfl
            · rw [if_neg hm, if_pos ⟨⟨rfl, rfl⟩, hm⟩]; rfl
          · rw [if_pos rfl, if_neg hp, if_neg fun z => hp z.1.1.symm]; rfl
        · rw [if_neg hd, if_neg fun z => hd z.1.2.symm]; rfl
    rw [List.map_congr_left e1, sum_add_map, sum_one_map, ih, if_pos h1]
    split <;> simp

/-! ### k53: no rota that fills what is asked costs less than a floor -/
theorem minI_le {l : List Int} {x : Int} (h : x ∈ l) : minI l ≤ x := by
  cases l with
  | nil => cases h
  | cons a r => exact (minI_go r a).2 x h
theorem sum_le {α : Type} {f g : α → Int} : ∀ {l : List α}, (∀ x ∈ l, f x ≤ g x) → (l.map f).sum ≤ (l.map g).sum
  | [], _ => Int.le_refl _
  | x :: l, h => by
    have a := h x List.mem_cons_self
    have b := sum_le (l := l) fun y hy => h y (List.mem_cons_of_mem _ hy)
    rw [List.map_cons, List.map_cons, List.sum_cons, List.sum_cons]
    omega
theorem sum_swap {α β : Type} (F : α → β → Int) : ∀ (l : List α) (m : List β), (l.map fun a => (m.map fun b => F a b).sum).sum = (m.map fun b => (l.map fun a => F a b).sum).sum
  | [], m => by
    rw [List.map_nil, List.sum_nil]
    exact (sum_zero_map _ _ fun _ _ => rfl).symm
  | a :: l, m => by
    rw [List.map_cons, List.sum_cons, sum_swap F l m, ← sum_add_map]
    congr 1
theorem chg_cons (n : Nd) (z : Int) (nds : List Nd) (ods : List Int) (d : Int) (k : Nat) : chgF (n :: nds) (z :: ods) d k = if n.day = d ∧ n.kind = k then z else chgF nds ods d k := by
  unfold chgF
  rw [List.zip_cons_cons, List.find?_cons]
  by_cases h : n.day = d ∧ n.kind = k
  · rw [if_pos h, decide_eq_true h]; rfl
  · rw [if_neg h, decide_eq_false h]
theorem chg_none : ∀ {nds : List Nd} {ods : List Int} {d : Int} {k : Nat}, (∀ n ∈ nds, ¬ (n.day = d ∧ n.kind = k)) → ((nds.zip ods).map fun a => if a.1.day = d ∧ a.1.kind = k then a.2 else 0).sum = 0
  | nds, ods, d, k, h => sum_zero_map _ _ fun a ha => if_neg (h a.1 (List.of_mem_zip (a := a.1) (b := a.2) ha).1)
theorem chg_sum : ∀ {nds : List Nd} {ods : List Int} {d : Int} {k : Nat}, nds.Pairwise apartN → ((nds.zip ods).map fun a => if a.1.day = d ∧ a.1.kind = k then a.2 else 0).sum = chgF nds ods d k
  | [], _, _, _, _ => rfl
  | _ :: _, [], _, _, _ => rfl
  | n :: nds, z :: ods, d, k, hU => by
    obtain ⟨h1, h2⟩ := List.pairwise_cons.mp hU
    rw [chg_cons, List.zip_cons_cons, List.map_cons, List.sum_cons]
    by_cases h : n.day = d ∧ n.kind = k
    · rw [if_pos h, if_pos h, chg_none fun m hm e => h1 m hm ⟨h.1.trans e.1.symm, h.2.trans e.2.symm⟩, Int.add_zero]
    · rw [if_neg h, if_neg h, Int.zero_add]
      exact chg_sum h2
theorem chg_rest {nds : List Nd} {ods : List Int} (hU : nds.Pairwise apartN) {d : Int} {k : Nat} (h : ∀ n ∈ nds, n.kind ≠ k) : chgF nds ods d k = 0 := by
  rw [← chg_sum hU]
  exact chg_none fun n hn e => h n hn e.2
theorem hit_row {nds : List Nd} {ods : List Int} (hU : nds.Pairwise apartN) (h0 : ∀ n ∈ nds, 0 ≤ n.day) (row : List Nat) : ((nds.zip ods).map fun a => if hitB a.1 row = true then a.2 else 0).sum = ((List.range row.length).map fun (j : Nat) => chgF nds ods (0 + (j : Int)) (row.getD j 0)).sum := by
  have e1 : ((List.range row.length).map fun (j : Nat) => chgF nds ods (0 + (j : Int)) (row.getD j 0)) = (List.range row.length).map fun (j : Nat) => ((nds.zip ods).map fun a => if a.1.day = 0 + (j : Int) ∧ a.1.kind = row.getD j 0 then a.2 else 0).sum := List.map_congr_left fun j _ => (chg_sum hU).symm
  rw [e1, ← sum_swap (fun (a : Nd × Int) (j : Nat) => if a.1.day = 0 + (j : Int) ∧ a.1.kind = row.getD j 0 then a.2 else 0)]
  congr 1
  refine List.map_congr_left fun a ha => ?_
  have ha0 := h0 a.1 (List.of_mem_zip (a := a.1) (b := a.2) ha).1
  have e2 : ((List.range row.length).map fun (j : Nat) => if a.1.day = 0 + (j : Int) ∧ a.1.kind = row.getD j 0 then a.2 else 0) = (List.range row.length).map fun (j : Nat) => if j = a.1.day.toNat then (if a.1.kind = row.getD a.1.day.toNat 0 then a.2 else 0) else 0 := List.map_congr_left fun j _ => by
    by_cases hj : j = a.1.day.toNat
    · rw [if_pos hj]
      have hd : a.1.day = 0 + (j : Int) := by omega
      subst hj
      by_cases hk : a.1.kind = row.getD a.1.day.toNat 0
      · rw [if_pos hk, if_pos ⟨hd, hk⟩]
      · rw [if_neg hk, if_neg fun z => hk z.2]
    · rw [if_neg hj, if_neg fun z => hj (by have := z.1; omega)]
  rw [e2, sum_one_map]
  unfold hitB
  by_cases hl : a.1.day.toNat < row.length
  · rw [if_pos hl, List.getD_eq_getElem?_getD, List.getElem?_eq_getElem hl]
    show (if decide (some row[a.1.day.toNat] = some a.1.kind) = true then a.2 else 0) = if a.1.kind = row[a.1.day.toNat] then a.2 else 0
    by_cases hk : a.1.kind = row[a.1.day.toNat]
    · rw [if_pos hk, if_pos (decide_eq_true (by rw [hk]))]
    · rw [if_neg hk, if_neg]
      intro z
      exact hk (Option.some.inj (of_decide_eq_true z)).symm
  · rw [if_neg hl, List.getElem?_eq_none (by omega), if_neg (by simp)]
theorem hit_rows (nz : List (Nd × Int)) : ∀ rows : List (List Nat), (nz.map fun a => a.2 * (cntR rows a.1 : Int)).sum = (rows.map fun row => (nz.map fun a => if hitB a.1 row = true then a.2 else 0).sum).sum
  | [] => by
    rw [List.map_nil, List.sum_nil]
    refine sum_zero_map _ _ fun a _ => ?_
    show a.2 * ((0 : Nat) : Int) = 0
    exact Int.mul_zero _
  | row :: rows => by
    rw [List.map_cons, List.sum_cons, ← hit_rows nz rows, ← sum_add_map]
    congr 1
    refine List.map_congr_left fun a _ => ?_
    unfold cntR
    rw [List.filter_cons]
    by_cases h : hitB a.1 row = true
    · rw [if_pos h, if_pos h, List.length_cons]
      show a.2 * (((rows.filter (hitB a.1)).length + 1 : Nat) : Int) = _
      rw [Int.natCast_add, Int.mul_add, Int.add_comm]
      show a.2 * 1 + _ = _
      rw [Int.mul_one]
    · rw [if_neg h, if_neg h, Int.zero_add]
theorem ndM_le {n : Nd} {z : Int} {c : Int} (h1 : n.least ≤ c) (h2 : c ≤ n.most) : ndM (n, z) ≤ z * c := by
  show (if z * n.most < z * n.least then z * n.most else z * n.least) ≤ z * c
  by_cases hz : 0 ≤ z
  · have a := Int.mul_le_mul_of_nonneg_left h1 hz
    split <;> omega
  · have b := Int.mul_le_mul_of_nonpos_left (show z ≤ 0 by omega) h2
    split <;> omega
theorem dut_sum (z : Int) : ∀ row : List Nat, ((List.range row.length).map fun j => if row.getD j 0 = 45 then 0 else z).sum = z * (dut row : Int)
  | [] => (Int.mul_zero z).symm
  | c :: row => by
    rw [List.length_cons, List.range_succ_eq_map, List.map_cons, List.sum_cons, List.map_map]
    have e : ((fun j => if (c :: row).getD j 0 = 45 then 0 else z) ∘ Nat.succ) = fun j => if row.getD j 0 = 45 then (0 : Int) else z := by
      funext j
      rfl
    rw [e, dut_sum z row]
    show (if c = 45 then 0 else z) + z * (dut row : Int) = z * (dut (c :: row) : Int)
    unfold dut
    rw [List.filter_cons]
    by_cases h : c = 45
    · rw [if_pos h, if_neg (by rw [decide_eq_true h]; decide), Int.zero_add]
    · rw [if_neg h, if_pos (by rw [decide_eq_false h]; rfl), List.length_cons, Int.natCast_add, Int.mul_add, Int.add_comm]
      show _ = _ + z * 1
      rw [Int.mul_one]
theorem weak {rows : List (List Nat)} {ps : List Ps} {ls : List (List Nat × Int)} {nds : List Nd} {ks : List Nat} {dd : Int} {prs ods : List Int} {f : Int → Int → Int} {g : Int → Int → Nat → Int} (R : Rota rows ps ls nds) (hU : nds.Pairwise apartN) (hk : ∀ n ∈ nds, n.kind ∈ ks)
    (hd : ∀ row ∈ rows, row.length = dd.toNat) (hA : ∀ row ∈ rows, ∀ (j c : Nat), row[j]? = some c → c ≠ 45 → ∃ n ∈ nds, n.day = (j : Int) ∧ n.kind = c) :
    floorF f g dd ks nds ps ls prs ods ≤ totN (fun p row => f (p : Int) (dut row : Int)) (fun p d c => g (p : Int) (d : Int) c) rows rows.length := by
  have h45 : ∀ n ∈ nds, n.kind ≠ 45 := fun n hn => (R.nds n hn).2.1
  have h0 : ∀ n ∈ nds, 0 ≤ n.day := fun n hn => (R.nds n hn).1
  have b1 : ((nds.zip ods).map ndM).sum ≤ ((List.range ps.length).map fun (i : Nat) => ((List.range (rows.getD i []).length).map fun (j : Nat) => chgF nds ods (0 + (j : Int)) ((rows.getD i []).getD j 0)).sum).sum := by
    have e : (rows.map fun row => ((nds.zip ods).map fun a => if hitB a.1 row = true then a.2 else 0).sum) = (List.range ps.length).map fun (i : Nat) => ((List.range (rows.getD i []).length).map fun (j : Nat) => chgF nds ods (0 + (j : Int)) ((rows.getD i []).getD j 0)).sum := by
      refine List.ext_getElem? fun i => ?_
      rw [List.getElem?_map, List.getElem?_map]
      by_cases hi : i < rows.length
      · rw [List.getElem?_eq_getElem hi, List.getElem?_range (by rw [← R.len]; exact hi)]
        refine congrArg some ?_
        show ((nds.zip ods).map fun a => if hitB a.1 rows[i] = true then a.2 else 0).sum = ((List.range (rows.getD i []).length).map fun (j : Nat) => chgF nds ods (0 + (j : Int)) ((rows.getD i []).getD j 0)).sum
        rw [hit_row hU h0, List.getD_eq_getElem?_getD (l := rows), List.getElem?_eq_getElem hi]
        rfl
      · rw [List.getElem?_eq_none (by omega), List.getElem?_eq_none (by rw [List.length_range, ← R.len]; omega)]
        rfl
    rw [← e, ← hit_rows]
    refine sum_le fun a ha => ?_
    obtain ⟨_, _, c1, c2⟩ := R.nds a.1 (List.of_mem_zip (a := a.1) (b := a.2) ha).1
    exact ndM_le c1 c2
  have b2 : ∀ i ∈ List.range ps.length, perM f g dd ks nds ls ods (ps.getD i dft) (i : Int) (prs.getD i 0) + ((List.range (rows.getD i []).length).map fun (j : Nat) => chgF nds ods (0 + (j : Int)) ((rows.getD i []).getD j 0)).sum ≤ f (i : Int) (dut (rows.getD i []) : Int) + rowN (fun p d c => g (p : Int) (d : Int) c) i (rows.getD i []) (rows.getD i []).length := fun i hi => by
    have hip := List.mem_range.mp hi
    have hir : i < rows.length := by rw [R.len]; exact hip
    have ep : ps[i]? = some (ps[i]'hip) := List.getElem?_eq_getElem hip
    have er : rows[i]? = some (rows[i]'hir) := List.getElem?_eq_getElem hir
    rw [List.getD_eq_getElem?_getD (l := ps), List.getD_eq_getElem?_getD (l := rows), ep, er]
    simp only [Option.getD_some]
    generalize ps[i]'hip = p at ep
    generalize rows[i]'hir = row at er
    generalize prs.getD i 0 = z
    obtain ⟨k1, k2⟩ := R.per i p row ep er
    have hrl := hd row (List.mem_of_getElem? er)
    have hrA := hA row (List.mem_of_getElem? er)
    have c1 : minI (cntL f z (i : Int) p.most) ≤ f (i : Int) (dut row : Int) - z * (dut row : Int) := by
      refine minI_le ?_
      unfold cntL
      refine List.mem_map.mpr ⟨dut row, List.mem_range.mpr (by omega), ?_⟩
      rw [Int.zero_add]
    have c2 : ((List.range dd.toNat).map fun (j : Nat) => dayM g ks nds ls ods p (i : Int) z (0 + (j : Int))).sum ≤ ((List.range dd.toNat).map fun (j : Nat) => (g (i : Int) (j : Int) (row.getD j 0) + (if row.getD j 0 = 45 then 0 else z)) + -chgF nds ods (0 + (j : Int)) (row.getD j 0)).sum := by
      refine sum_le fun j hj => ?_
      have hjl : j < row.length := by rw [hrl]; exact List.mem_range.mp hj
      have ej : row[j]? = some (row[j]'hjl) := List.getElem?_eq_getElem hjl
      rw [List.getD_eq_getElem?_getD, ej]
      simp only [Option.getD_some]
      generalize row[j]'hjl = c at ej
      refine minI_le ?_
      unfold dayL
      by_cases hc : c = 45
      · rw [if_pos hc, hc, chg_rest hU h45, Int.zero_add]
        have : g (i : Int) (j : Int) 45 + 0 + -0 = g (i : Int) (j : Int) 45 := by omega
        rw [this]
        exact List.mem_cons_self
      · rw [if_neg hc]
        obtain ⟨n, hn, e1, e2⟩ := hrA j c ej hc
        refine List.mem_cons_of_mem _ (List.mem_map.mpr ⟨c, ?_, by rw [Int.zero_add]; omega⟩)
        have m1 : n.kind ∈ p.sk := by rw [e2]; exact k1 c (List.mem_of_getElem? ej) hc
        have nd0 := h0 n hn
        have hjn : n.day.toNat = j := by omega
        have m2 : 0 < n.most := by
          have : 0 < cntR rows n := List.length_pos_of_mem (List.mem_filter.mpr ⟨List.mem_of_getElem? er, by unfold hitB; exact decide_eq_true (by rw [hjn, e2]; exact ej)⟩)
          have := (R.nds n hn).2.2.2
          omega
        have m3 : awayF ls p.nm n.day = false := Bool.eq_false_iff.mpr fun y => by
          obtain ⟨j', p', row', e1', e2', e3, e4, e5⟩ := R.lev _ (away_mem y)
          have ejj := R.nms j' i p' p e1' ep e3
          subst ejj
          rw [er] at e2'
          cases e2'
          have e5' : row[n.day.toNat]? = some 45 := e5
          rw [hjn, ej] at e5'
          exact hc (Option.some.inj e5')
        have hcan : canB ls p n = true := by
          unfold canB
          rw [decide_eq_true m1, decide_eq_true m2, m3]
          rfl
        have := of_decide_eq_true ((may_can (ls := ls) (p := p) hU hn (hk n hn)).trans hcan)
        rw [e1, e2] at this
        rw [Int.zero_add]
        exact this
    have c3 : ((List.range dd.toNat).map fun (j : Nat) => (g (i : Int) (j : Int) (row.getD j 0) + (if row.getD j 0 = 45 then 0 else z)) + -chgF nds ods (0 + (j : Int)) (row.getD j 0)).sum = rowN (fun p d c => g (p : Int) (d : Int) c) i row row.length + z * (dut row : Int) + -((List.range row.length).map fun (j : Nat) => chgF nds ods (0 + (j : Int)) (row.getD j 0)).sum := by
      rw [← hrl, sum_add_map (fun (j : Nat) => g (i : Int) (j : Int) (row.getD j 0) + (if row.getD j 0 = 45 then 0 else z)) (fun (j : Nat) => -chgF nds ods (0 + (j : Int)) (row.getD j 0)), sum_add_map, dut_sum]
      have : ((List.range row.length).map fun (j : Nat) => -chgF nds ods (0 + (j : Int)) (row.getD j 0)).sum = -((List.range row.length).map fun (j : Nat) => chgF nds ods (0 + (j : Int)) (row.getD j 0)).sum := by
        have e : ((List.range row.length).map fun (j : Nat) => -chgF nds ods (0 + (j : Int)) (row.getD j 0)) = (List.range row.length).map fun (j : Nat) => (-1 : Int) * chgF nds ods (0 + (j : Int)) (row.getD j 0) := List.map_congr_left fun j _ => by omega
        rw [e, sum_mul_map]
        omega
      rw [this]
      rfl
    unfold perM
    omega
  have b3 := sum_le b2
  rw [sum_add_map] at b3
  unfold floorF
  show _ ≤ ((List.range rows.length).map fun (p : Nat) => f (p : Int) (dut (rows.getD p []) : Int) + rowN (fun p d c => g (p : Int) (d : Int) c) p (rows.getD p []) (rows.getD p []).length).sum
  rw [R.len]
  omega

theorem cutVm (ns : List Int) (lo hi : Option Int) : cutV (ns.map V.int) lo hi = (cutN ns lo hi).map V.int := by
  unfold cutV cutN
  rw [List.length_map, List.map_take, List.map_drop]
def sp_names : Sp := fun vs H Q _ => ∃ (c m : Int), vs = [.int c, .int m] ∧ 0 ≤ m ∧ m ≤ 5 ∧ ∀ (a : Addr) (H' : Hp) (nms : List (List Nat)), Same H H' → H a = none → H' a = some (.lst (nms.map T)) → (nms.length : Int) = m → (∀ (i j : Nat) (nm : List Nat), nms[i]? = some nm → nms[j]? = some nm → i = j) → Q (.ref a) H'
theorem ltr_ne {x i j : Int} (hi : 0 ≤ i ∧ i < 5) (hj : 0 ≤ j ∧ j < 5) (h : ltr ((x + 5 * i) % 26) = ltr ((x + 5 * j) % 26)) : i = j := by
  unfold ltr at h
  have a := Int.emod_nonneg (x + 5 * i) (show (26 : Int) ≠ 0 by decide)
  have b := Int.emod_nonneg (x + 5 * j) (show (26 : Int) ≠ 0 by decide)
  omega
section
variable {P : Program} {w : World} {K : PySem.W.Frag} {mg : Str → Option Value} {base : Heap} {C_Person C_House C_Costs C_EvenCosts C_ChangeCosts C_LevelCosts C_Paper C_Places C_Prices : Addr}

theorem g_law_cell_at (tx : Tx K mg C_Person C_House C_Costs C_EvenCosts C_ChangeCosts C_LevelCosts C_Paper C_Places C_Prices) : FnG P w K mg base "_law_cell_at" 1 ["_law_script", "_law_k"] (sp_cellx K) := by
  refine tx.f_law_cell_at.g sc_law_cell_at (fun _ _ _ _ _ _ us hl => match us, hl with | [_, _], _ => rfl) (fun vs H Q E h => ?_) (fun f cdv A outer s H vs Q E hr h => ?_)
  · obtain ⟨a, ns, k, rfl, _⟩ := h
    rfl
  · obtain ⟨a, ns, k, rfl, hS, h0, q⟩ := h
    refine ⟨_, (pss_cons (ps_if (pt_cmpR op_lt (pv 1) (pe_callB (call_len_seqK (K := K) rfl) rfl tx.z_len PySem.boot_len (pa_cons (pv 0) pa_nil)) (nomark _)) (pss_one (ps_ret (pe_ix (ix_listK (K := K) rfl) (pv 0) (pv 1) (fun _ _ => rfl)))) pss_nil)
      (pss_one (ps_ret pe_int))), ?_⟩
    walk_at "st"
    walk_at "rd"
    refine ite2 (fun c => ?_) (fun c => ?_)
    · have c' : k < ((ns.map V.int).length : Int) := of_decide_eq_true c
      rw [List.length_map] at c'
      have hv := cell_lit h0 c'
      walk_at "rd"
      exact q
    · have c' : ¬ k < ((ns.map V.int).length : Int) := of_decide_eq_false (Bool.eq_false_iff.mpr c)
      rw [List.length_map] at c'
      walk_at "rd"
      rw [cell_out (by omega)] at q
      exact q


theorem g_law_drawn (tx : Tx K mg C_Person C_House C_Costs C_EvenCosts C_ChangeCosts C_LevelCosts C_Paper C_Places C_Prices) : FnG P w K mg base "_law_drawn" 1 ["_law_cell", "_law_many"] sp_drawn := by
  refine tx.f_law_drawn.g sc_law_drawn (fun _ _ _ _ _ _ us hl => match us, hl with | [_, _], _ => rfl) (fun vs H Q E h => ?_) (fun f cdv A outer s H vs Q E hr h => ?_)
  · obtain ⟨c, m, rfl, _⟩ := h
    rfl
  · obtain ⟨c, m, rfl, h0, h1, q⟩ := h
    refine ⟨_, (pss_cons (ps_set (i := 2) sc_law_drawn.nd rfl (Or.inl rfl) (pe_lst pa_nil))
      (pss_cons (ps_set (i := 3) sc_law_drawn.nd rfl (Or.inl rfl) (pe_op op_add (pe_op op_mod (pv 0) pe_int) pe_int))
      (pss_cons (ps_for PassesOwn.never rfl (pi_range1 rfl tx.z_range (pa_cons (pe_op op_add (pv 1) pe_int) pa_nil)) (pg_name (i := 4) sc_law_drawn.nd rfl (Or.inl rfl)) (pss_cons (ps_set (i := 3) sc_law_drawn.nd rfl (Or.inl rfl) (pe_op op_mod (pe_op op_add (pe_op op_add (pe_op op_add (pe_op op_mul (pv 3) (pv 3)) (pe_op op_mul pe_int (pv 3))) (pe_op op_mul pe_int (pv 4))) pe_int) pe_int))
      (pss_one (ps_expr (pe_bm PySem.F.plainAttrs_list PySem.F.slot_list_append PySem.F.type_list_append mt_append (pv 2) (pa_cons (pv 3) pa_nil))))))
      (pss_one (ps_ret (pe_slice (sl_listK (K := K) rfl) (pv 2) (po_some pe_int) po_none)))))), ?_⟩
    walk_at "st"
    have b0 : 0 ≤ c % 2147483629 := Int.emod_nonneg _ (by decide)
    have b1 : c % 2147483629 < 2147483629 := Int.emod_lt_of_pos _ (by decide)
    walk_at "rd"
    intro p hp
    walk_at "rd"
    refine for_range (n := (m + 2).toNat) (fun i σ H2 => Here (∃ (n : Int) (v : Option V) (ys : List Int), σ = [some (.int c), some (.int m), some (.ref p), some (.int n), v] ∧ 0 ≤ n ∧ n < 2147600000 ∧ ys.length = i ∧ H2 p = some (.lst (ys.map V.int)) ∧ (∀ y ∈ ys, 0 ≤ y ∧ y < 2147483629) ∧ Same H H2))
      (Here.mk ⟨_, none, [], rfl, by omega, by omega, rfl, upd_same, fun _ h => (by cases h), same_new hp _⟩) ?_ ?_
    · rintro i σ H2 hi hv
      obtain ⟨n, v, ys, rfl, hn0, hn1, hy, hpp, hb, hs⟩ := hv.out
      have z0 : 0 ≤ (n * n + 69621 * n + 11 * (0 + (i : Int)) + 3) % 2147483629 := Int.emod_nonneg _ (by decide)
      have z1 : (n * n + 69621 * n + 11 * (0 + (i : Int)) + 3) % 2147483629 < 2147483629 := Int.emod_lt_of_pos _ (by decide)
      have hl : (ys.map V.int).length ≤ 1000 := by rw [List.length_map]; omega
      walk_at "rd"
      refine Here.mk ⟨_, _, ys ++ [(n * n + 69621 * n + 11 * (0 + (i : Int)) + 3) % 2147483629], rfl, z0, by omega, ?_, ?_, fun y hy => ?_, hs.upd hp⟩
      · rw [List.length_append, List.length_singleton, hy]
      · rw [upd_same, List.map_append]
        rfl
      · rcases List.mem_append.mp hy with hy | hy
        · exact hb y hy
        · obtain rfl := List.mem_singleton.mp hy
          exact ⟨z0, z1⟩
    · rintro σ H2 hv
      obtain ⟨n, v, ys, rfl, hn0, hn1, hy, hpp, hb, hs⟩ := hv.out
      walk_at "rd"
      intro r hr'
      refine q r _ (ys.drop 2) (hs.trans (same_new hr' _)) (hs.free hr') ?_ ?_ (fun y hy => hb y (List.mem_of_mem_drop hy))
      · rw [upd_same]
        have e : cutV (ys.map V.int) (some 2) none = (ys.drop 2).map V.int := by
          rw [List.map_drop]
          exact cut_from (ys.map V.int) 2 (by decide)
        rw [e]
      · rw [List.length_drop, hy]
        omega


theorem g_law_kinds (tx : Tx K mg C_Person C_House C_Costs C_EvenCosts C_ChangeCosts C_LevelCosts C_Paper C_Places C_Prices) : FnG P w K mg base "_law_kinds" 1 ["_law_cell", "_law_many"] sp_kinds2 := by
  refine tx.f_law_kinds.g sc_law_kinds (fun _ _ _ _ _ _ us hl => match us, hl with | [_, _], _ => rfl) (fun vs H Q E h => ?_) (fun f cdv A outer s H vs Q E hr h => ?_)
  · obtain ⟨c, m, rfl, _⟩ := h
    rfl
  · obtain ⟨c, m, rfl, m1, m3, q⟩ := h
    refine ⟨_, (pss_cons (ps_set (i := 2) sc_law_kinds.nd rfl (Or.inr rfl) (pe_txt (l := [65, 66, 67, 68, 69, 70, 71, 72, 73, 74, 75, 76, 77, 78, 79, 80, 81, 82, 83, 84, 85, 86, 87, 88, 89, 90]) (by decide +kernel)))
      (pss_one (ps_ret (pe_joinK (K := K) rfl (pe_txt (l := []) (by decide +kernel)) (pa_cons (pe_comp (osc := defScope s_law_kinds) (ON := ["_law_cell", "_law_many", "_law_great"]) (N := ["_law_k", "_law_great", "_law_cell"]) (js := [none, some 2, some 0]) ⟨rfl, by decide +kernel, by decide +kernel, by decide +kernel, rfl, by decide +kernel⟩ rfl rfl rfl (pi_range1 rfl tx.z_range (pa_cons (pv 1) pa_nil)) (fun _ _ _ _ _ => pg_name (i := 0) (show List.Nodup (["_law_k", "_law_great", "_law_cell"] : List Str) from by decide +kernel) rfl (Or.inl rfl)) (fun _ _ _ _ _ => pifs_nil) (fun _ _ _ _ _ => (pe_ix ix_txt (pv 1) (pe_op op_mod (pe_op op_add (pv 2) (pe_op op_mul pe_int (pv 0))) pe_int) (fun _ _ => rfl)))) pa_nil))))), ?_⟩
    walk_at "st"
    walk_at "rd"
    refine comp_hands (List.range m.toNat) (fun _ => true) (fun (i : Nat) y _ => y = T [cap ((c + 7 * (0 + (i : Int))) % 26)]) (fun σ => ∃ v, σ = [v, some (T ABC), some (.int c)]) (hands_range 0 m.toNat) (by rw [List.length_map]) (by rw [List.length_range]; omega) ⟨_, rfl⟩ (fun _ _ _ _ _ z => z) (fun i a v σ H' ha hv hσ s' Rf Rt _ hR => ?_) (fun D H2 ys nD s2 hys hD => ?_)
    · obtain ⟨w1, rfl⟩ := hσ
      rw [List.getElem?_map, ha] at hv
      cases hv
      have hl := at_ABC ((c + 7 * (0 + (a : Int))) % 26) (Int.emod_nonneg _ (by decide)) (Int.emod_lt_of_pos _ (by decide))
      walk_at "rd"
      exact hR _ _ _ rfl ⟨_, rfl⟩ (Same.refl _) rfl
    rw [List.filter_eq_self.mpr fun _ _ => rfl] at hys
    have ey : ys = (((List.range m.toNat).map fun (i : Nat) => cap ((c + 7 * (0 + (i : Int))) % 26)).map fun c => [c]).map T := by
      rw [List.map_map, List.map_map]
      exact hys.eqmap fun a y h => h
    have hl : ((List.range m.toNat).map fun (i : Nat) => cap ((c + 7 * (0 + (i : Int))) % 26)).length = m.toNat := by rw [List.length_map, List.length_range]
    have hn : ((List.range m.toNat).map fun (i : Nat) => cap ((c + 7 * (0 + (i : Int))) % 26)).Nodup := nodup_map_on _ List.nodup_range fun x hx y hy e => by
      have h1 := List.mem_range.mp hx
      have h2 := List.mem_range.mp hy
      have a := Int.emod_nonneg (c + 7 * (0 + (x : Int))) (show (26 : Int) ≠ 0 by decide)
      have b := Int.emod_nonneg (c + 7 * (0 + (y : Int))) (show (26 : Int) ≠ 0 by decide)
      unfold cap at e
      omega
    have h45 : ∀ k ∈ ((List.range m.toNat).map fun (i : Nat) => cap ((c + 7 * (0 + (i : Int))) % 26)), k ≠ 45 := fun k hk => by
      obtain ⟨i, _, rfl⟩ := List.mem_map.mp hk
      unfold cap
      omega
    generalize ((List.range m.toNat).map fun (i : Nat) => cap ((c + 7 * (0 + (i : Int))) % 26)) = ks at ey hl hn h45
    rw [ey] at hD
    have hD3 : SqL K H2 D ((ks.map fun c => [c]).map T) := SqL.of hD
    have hjl : (((ks.map fun c => [c]).map List.length).sum + (ks.map fun c => [c]).length * ([] : List Nat).length ≤ 16777216) := by
      rw [sum_ones, List.length_map, List.length_nil, Nat.mul_zero]
      omega
    walk_at "rd"
    rw [joinN_nil, flat_ones]
    exact q ks H2 s2 (by omega) hn h45

theorem g_law_names (tx : Tx K mg C_Person C_House C_Costs C_EvenCosts C_ChangeCosts C_LevelCosts C_Paper C_Places C_Prices) : FnG P w K mg base "_law_names" 2 ["_law_cell", "_law_many"] sp_names := by
  have G_law_drawn := g_law_drawn (P := P) (w := w) (base := base) tx
  refine tx.f_law_names.g sc_law_names (fun _ _ _ _ _ _ us hl => match us, hl with | [_, _], _ => rfl) (fun vs H Q E h => ?_) (fun f cdv A outer s H vs Q E hr h => ?_)
  · obtain ⟨c, m, rfl, _⟩ := h
    rfl
  · obtain ⟨c, m, rfl, m0, m5, q⟩ := h
    refine ⟨_, (pss_cons (ps_set (i := 2) sc_law_names.nd rfl (Or.inr rfl) (pe_txt (l := [97, 98, 99, 100, 101, 102, 103, 104, 105, 106, 107, 108, 109, 110, 111, 112, 113, 114, 115, 116, 117, 118, 119, 120, 121, 122]) (by decide +kernel)))
      (pss_cons (ps_set (i := 3) sc_law_names.nd rfl (Or.inl rfl) (pe_fn G_law_drawn (hr.mono (by decide)) (pa_cons (pv 0) (pa_cons pe_int pa_nil))))
      (pss_cons (ps_set (i := 4) sc_law_names.nd rfl (Or.inl rfl) (pe_ix (ix_listK (K := K) rfl) (pe_lst (pa_cons pe_int (pa_cons pe_int (pa_cons pe_int (pa_cons pe_int pa_nil))))) (pe_op op_mod (pe_ix (ix_listK (K := K) rfl) (pv 3) pe_int (fun _ _ => rfl)) pe_int) (fun _ _ => rfl)))
      (pss_cons (ps_set (i := 5) sc_law_names.nd rfl (Or.inl rfl) (pe_op op_mod (pe_ix (ix_listK (K := K) rfl) (pv 3) pe_int (fun _ _ => rfl)) (pv 4)))
      (pss_cons (ps_set (i := 6) sc_law_names.nd rfl (Or.inl rfl) (pe_joinK (K := K) rfl (pe_txt (l := []) (by decide +kernel)) (pa_cons (pe_comp (osc := defScope s_law_names) (ON := ["_law_cell", "_law_many", "_law_small", "_law_xs", "_law_size", "_law_at", "_law_base", "_law_names_here", "_law_k", "_law_name"]) (N := ["_law_x", "_law_small"]) (js := [none, some 2]) ⟨rfl, by decide +kernel, by decide +kernel, by decide +kernel, rfl, by decide +kernel⟩ rfl rfl rfl (pi_listK (K := K) rfl (pe_slice (sl_listK (K := K) rfl) (pv 3) po_none (po_some (pv 4)))) (fun _ _ _ _ _ => pg_name (i := 0) (show List.Nodup (["_law_x", "_law_small"] : List Str) from by decide +kernel) rfl (Or.inl rfl)) (fun _ _ _ _ _ => pifs_nil) (fun _ _ _ _ _ => (pe_ix ix_txt (pv 1) (pe_op op_mod (pv 0) pe_int) (fun _ _ => rfl)))) pa_nil)))
      (pss_cons (ps_set (i := 7) sc_law_names.nd rfl (Or.inl rfl) (pe_lst pa_nil))
      (pss_cons (ps_for PassesOwn.never rfl (pi_range1 rfl tx.z_range (pa_cons (pv 1) pa_nil)) (pg_name (i := 8) sc_law_names.nd rfl (Or.inl rfl)) (pss_cons (ps_set (i := 9) sc_law_names.nd rfl (Or.inl rfl) (pe_op op_catS (pe_op op_catS (pe_slice sl_txt (pv 6) po_none (po_some (pv 5))) (pe_ix ix_txt (pv 2) (pe_op op_mod (pe_op op_add (pe_ix (ix_listK (K := K) rfl) (pv 3) pe_int (fun _ _ => rfl)) (pe_op op_mul pe_int (pv 8))) pe_int) (fun _ _ => rfl))) (pe_slice sl_txt (pv 6) (po_some (pe_op op_add (pv 5) pe_int)) po_none)))
      (pss_cons (ps_cut (ps_if (pt_cmpR op_eq (pe_op op_mod (pv 8) pe_int) (pe_op op_mod (pe_op op_fdiv (pe_ix (ix_listK (K := K) rfl) (pv 3) pe_int (fun _ _ => rfl)) pe_int) pe_int) (nomark _)) (pss_one (ps_set (i := 9) sc_law_names.nd rfl (Or.inl rfl) (pe_op op_catS (pv 9) (pe_slice sl_txt (pv 6) po_none (po_some pe_int))))) pss_nil))
      (pss_one (ps_expr (pe_bm PySem.F.plainAttrs_list PySem.F.slot_list_append PySem.F.type_list_append mt_append (pv 7) (pa_cons (pv 9) pa_nil)))))))
      (pss_one (ps_ret (pv 7)))))))))), ?_⟩
    walk_at "st"
    clear G_law_drawn
    walk_at "rd"
    intro xa H1 xs s1 nxa hxa hxl hxb
    have c8 := cell_lit (ns := xs) (k := 8) (by decide) (by omega)
    have c9 := cell_lit (ns := xs) (k := 9) (by decide) (by omega)
    have c7 := cell_lit (ns := xs) (k := 7) (by decide) (by omega)
    obtain ⟨sz, hsz, z1, z7⟩ := fourS (cellF xs 8 % 4) (Int.emod_nonneg _ (by decide)) (Int.emod_lt_of_pos _ (by decide))
    walk_at "rd"
    intro l4 f4
    obtain ⟨H2, e2, y4, s2⟩ := newl (xs := [V.int 1, V.int 4, V.int 5, V.int 7]) f4
    rw [← e2]
    have hxa2 := s2 _ _ hxa
    have z0 : (0 : Int) < sz := by omega
    have a0 := Int.emod_nonneg (cellF xs 9) (show sz ≠ 0 by omega)
    have a1 := Int.emod_lt_of_pos (cellF xs 9) z0
    walk_at "rd"
    generalize cellF xs 9 % sz = at' at a0 a1
    intro l5 f5
    rw [cutVm, cut_to _ _ (by omega)]
    obtain ⟨H3, e3, y5, s3⟩ := newl (xs := (xs.take sz.toNat).map V.int) f5
    rw [← e3]
    refine ⟨l5, rfl, ⟨_, SqL.of y5⟩, ?_⟩
    have hxa3 := s3 _ _ hxa2
    have S3 := (s1.trans s2).trans s3
    refine comp_hands (xs.take sz.toNat) (fun _ => true) (fun x y _ => y = T [ltr (x % 26)]) (fun σ => ∃ v, σ = [v, some (T abc)]) (hands_list (SqL.of y5)) (by rw [List.length_map]) (by rw [List.length_take]; omega) ⟨_, rfl⟩ (fun _ _ _ _ _ z => z) (fun i a v σ H' ha hv hσ s' Rf Rt _ hR => ?_) (fun D H4 ys nD s4 hys hD => ?_)
    · obtain ⟨w1, rfl⟩ := hσ
      rw [List.getElem?_map, ha] at hv
      cases hv
      have hl := at_abc (a % 26) (Int.emod_nonneg _ (by decide)) (Int.emod_lt_of_pos _ (by decide))
      walk_at "rd"
      exact hR _ _ _ rfl ⟨_, rfl⟩ (Same.refl _) rfl
    rw [List.filter_eq_self.mpr fun _ _ => rfl] at hys
    have ey : ys = (((xs.take sz.toNat).map fun x => ltr (x % 26)).map fun c => [c]).map T := by
      rw [List.map_map, List.map_map]
      exact hys.eqmap fun a y h => h
    have hbl : ((xs.take sz.toNat).map fun x => ltr (x % 26)).length = sz.toNat := by rw [List.length_map, List.length_take]; omega
    generalize ((xs.take sz.toNat).map fun x => ltr (x % 26)) = bs at ey hbl
    rw [ey] at hD
    have hD3 : SqL K H4 D ((bs.map fun c => [c]).map T) := SqL.of hD
    have hjl : (((bs.map fun c => [c]).map List.length).sum + (bs.map fun c => [c]).length * ([] : List Nat).length ≤ 16777216) := by
      rw [sum_ones, List.length_map, List.length_nil, Nat.mul_zero]
      omega
    walk_at "rd"
    rw [joinN_nil, flat_ones]
    walk_at "rd"
    intro nl fnl
    obtain ⟨H5, e5, ynl, s5⟩ := newl (xs := []) fnl
    rw [← e5]
    have S5 := (S3.trans s4).trans s5
    have S4 := S3.trans s4
    have hxa5 := (s4.trans s5) _ _ hxa3
    have fnl0 : H nl = none := S4.free fnl
    have nxn : xa ≠ nl := ne_of_none (s4 _ _ hxa3) fnl
    walk_at "rd"
    refine for_range (n := m.toNat) (fun i σ H6 => Here (∃ (v8 v9 : Option V) (nms : List (List Nat)), σ = [some (.int c), some (.int m), some (T abc), some (.ref xa), some (.int sz), some (.int at'), some (T bs), some (.ref nl), v8, v9] ∧ Same H H6 ∧ H6 xa = some (.lst (xs.map V.int)) ∧ H6 nl = some (.lst (nms.map T)) ∧ nms.length = i ∧ ∀ (j : Nat) (nm : List Nat), nms[j]? = some nm → ∃ suf, nm = cutN bs none (some at') ++ [ltr ((cellF xs 7 + 5 * (0 + (j : Int))) % 26)] ++ suf)) (Here.mk ⟨none, none, [], rfl, S5, hxa5, ynl, rfl, fun j nm h => by simp at h⟩) ?_ ?_
    · rintro i σ H6 hi hv
      obtain ⟨v8, v9, nms, rfl, S6, hxa6, ynl6, hnl, hnm⟩ := hv.out
      have hlt := at_abc ((cellF xs 7 + 5 * (0 + (i : Int))) % 26) (Int.emod_nonneg _ (by decide)) (Int.emod_lt_of_pos _ (by decide))
      have k1 := cut_len bs none (some at')
      have k2 := cut_len bs (some (at' + 1)) none
      have k3 := cut_len bs none (some 1)
      have hml : (nms.map T).length ≤ 1000 := by rw [List.length_map]; omega
      have fin : ∀ (suf : List Nat), (∀ (j : Nat) (nm : List Nat), (nms ++ [cutN bs none (some at') ++ [ltr ((cellF xs 7 + 5 * (0 + (i : Int))) % 26)] ++ suf])[j]? = some nm → ∃ suf, nm = cutN bs none (some at') ++ [ltr ((cellF xs 7 + 5 * (0 + (j : Int))) % 26)] ++ suf) := fun suf j nm hj => by
        rcases Nat.lt_trichotomy j nms.length with z | z | z
        · rw [List.getElem?_append_left z] at hj
          exact hnm j nm hj
        · rw [List.getElem?_append_right (by omega), z, Nat.sub_self] at hj
          have e := Option.some.inj hj
          refine ⟨suf, ?_⟩
          rw [← e, z, hnl]
        · rw [List.getElem?_append_right (by omega)] at hj
          have := (List.getElem?_eq_some_iff.mp hj).1
          rw [List.length_singleton] at this
          omega
      walk_at "rd"
      refine tCut.mk (fun σ' H' => Here (∃ suf : List Nat, suf.length ≤ 30 ∧ σ' = [some (.int c), some (.int m), some (T abc), some (.ref xa), some (.int sz), some (.int at'), some (T bs), some (.ref nl), some (.int (0 + (i : Int))), some (T (cutN bs none (some at') ++ [ltr ((cellF xs 7 + 5 * (0 + (i : Int))) % 26)] ++ suf))] ∧ H' = H6)) ?_ ?_
      · walk_at "rd"
        refine ite2 (fun _ => ?_) (fun _ => ?_)
        · walk_at "rd"
          refine Here.mk ⟨cutN bs (some (at' + 1)) none ++ cutN bs none (some 1), by rw [List.length_append]; omega, ?_, rfl⟩
          rw [← List.append_assoc]
        · exact Here.mk ⟨cutN bs (some (at' + 1)) none, by omega, rfl, rfl⟩
      rintro σ' H' hv'
      obtain ⟨suf, hsl, rfl, eH⟩ := hv'.out
      rw [eH]
      walk_at "rd"
      refine Here.mk ⟨_, _, nms ++ [cutN bs none (some at') ++ [ltr ((cellF xs 7 + 5 * (0 + (i : Int))) % 26)] ++ suf], rfl, S6.upd fnl0, ?_, ?_, by rw [List.length_append, List.length_singleton, hnl], fin suf⟩
      · rw [upd_ne nxn]; exact hxa6
      · rw [upd_same, List.map_append]; rfl
    · rintro σ H6 hv
      obtain ⟨v8, v9, nms, rfl, S6, hxa6, ynl6, hnl, hnm⟩ := hv.out
      walk_at "rd"
      refine q nl H6 nms S6 fnl0 ynl6 (by omega) fun i j nm h1 h2 => ?_
      obtain ⟨u1, e1⟩ := hnm i nm h1
      obtain ⟨u2, e2⟩ := hnm j nm h2
      have hi := (List.getElem?_eq_some_iff.mp h1).1
      have hj := (List.getElem?_eq_some_iff.mp h2).1
      have e := e1.symm.trans e2
      rw [List.append_assoc, List.append_assoc] at e
      have e' := List.append_cancel_left e
      have e3 : ltr ((cellF xs 7 + 5 * (0 + (i : Int))) % 26) = ltr ((cellF xs 7 + 5 * (0 + (j : Int))) % 26) := (List.cons.inj e').1
      have := ltr_ne (i := 0 + (i : Int)) (j := 0 + (j : Int)) ⟨by omega, by omega⟩ ⟨by omega, by omega⟩ e3
      omega
end

def LevP (nms rows : List (List Nat)) (l : List Nat × Int) : Prop := ∃ (i : Nat) (row : List Nat), nms[i]? = some l.1 ∧ rows[i]? = some row ∧ 0 ≤ l.2 ∧ row[l.2.toNat]? = some 45
def sp_lev (K : PySem.W.Frag) : Sp := fun vs H Q _ => ∃ (cl nl rl : Addr) (cs : List Int) (nms rows : List (List Nat)), vs = [.ref cl, .ref nl, .ref rl] ∧ SqL K H cl (cs.map V.int) ∧ H nl = some (.lst (nms.map T)) ∧ H rl = some (.lst (rows.map T)) ∧ cs.length ≤ 5 ∧ nms.length = cs.length ∧ rows.length = cs.length ∧ (∀ r ∈ rows, r.length ≤ 7) ∧
  ∀ (a : Addr) (H' : Hp) (ls : List (List Nat × Int)) (xs : List V), Same H H' → H a = none → H' a = some (.lst xs) → All2 LvT H' ls xs → (∀ l ∈ ls, LevP nms rows l) → ls.length ≤ 35 → Q (.ref a) H'
section
variable {P : Program} {w : World} {K : PySem.W.Frag} {mg : Str → Option Value} {base : Heap} {C_Person C_House C_Costs C_EvenCosts C_ChangeCosts C_LevelCosts C_Paper C_Places C_Prices : Addr}

theorem g_law_row (tx : Tx K mg C_Person C_House C_Costs C_EvenCosts C_ChangeCosts C_LevelCosts C_Paper C_Places C_Prices) : FnG P w K mg base "_law_row" 2 ["_law_cell", "_law_kinds_here", "_law_days"] sp_row := by
  have G_law_drawn := g_law_drawn (P := P) (w := w) (base := base) tx
  refine tx.f_law_row.g sc_law_row (fun _ _ _ _ _ _ us hl => match us, hl with | [_, _, _], _ => rfl) (fun vs H Q E h => ?_) (fun f cdv A outer s H vs Q E hr h => ?_)
  · obtain ⟨c, d, ks, rfl, _⟩ := h
    rfl
  · obtain ⟨c, d, ks, rfl, d1, d7, hk, q⟩ := h
    refine ⟨_, (pss_one (ps_ret (pe_joinK (K := K) rfl (pe_txt (l := []) (by decide +kernel)) (pa_cons (pe_comp (osc := defScope s_law_row) (ON := ["_law_cell", "_law_kinds_here", "_law_days"]) (N := ["_law_x", "_law_kinds_here"]) (js := [none, some 1]) ⟨rfl, by decide +kernel, by decide +kernel, by decide +kernel, rfl, by decide +kernel⟩ rfl rfl rfl (pi_listK (K := K) rfl (pe_fn G_law_drawn (hr.mono (by decide)) (pa_cons (pv 0) (pa_cons (pv 2) pa_nil)))) (fun _ _ _ _ _ => pg_name (i := 0) (show List.Nodup (["_law_x", "_law_kinds_here"] : List Str) from by decide +kernel) rfl (Or.inl rfl)) (fun _ _ _ _ _ => pifs_nil) (fun _ _ _ _ _ => (pe_ix ix_txt (pe_op op_catS (pv 1) (pe_txt (l := [45, 45]) (by decide +kernel))) (pe_op op_mod (pe_op op_fdiv (pv 0) pe_int) (pe_op op_add (pe_callB call_lenS rfl tx.z_len PySem.boot_len (pa_cons (pv 1) pa_nil)) pe_int)) (fun _ _ => rfl)))) pa_nil)))), ?_⟩
    walk_at "st"
    clear G_law_drawn
    have hk' : ks.length ≤ 1000 := by omega
    walk_at "rd"
    intro xa H1 xs s1 nxa hxa hxl hxb
    refine ⟨xa, rfl, ⟨_, SqL.of hxa⟩, ?_⟩
    refine comp_hands xs (fun _ => true) (fun _ y _ => ∃ c, y = T [c] ∧ (c ∈ ks ∨ c = 45)) (fun σ => ∃ v, σ = [v, some (T ks)]) (hands_list (SqL.of hxa)) (by rw [List.length_map]) (by omega) ⟨_, rfl⟩ (fun _ _ _ _ _ z => z) (fun i a v σ H' ha hv hσ s' Rf Rt _ hR => ?_) (fun D H2 ys nD s2 hys hD => ?_)
    · obtain ⟨w1, rfl⟩ := hσ
      rw [List.getElem?_map, ha] at hv
      cases hv
      have l2 : (0 : Int) < (ks.length : Int) + 2 := by omega
      obtain ⟨cc, hc, hc2⟩ := at_some (ks ++ [45, 45]) (a / 5 % ((ks.length : Int) + 2)) (Int.emod_nonneg _ (by omega)) (by have := Int.emod_lt_of_pos (a / 5) l2; rw [List.length_append]; show _ < ((ks.length + 2 : Nat) : Int); omega)
      have hm : cc ∈ ks ∨ cc = 45 := by
        rcases List.mem_append.mp (List.mem_of_getElem? hc2) with z | z
        · exact .inl z
        · exact .inr (by simpa using z)
      walk_at "rd"
      exact hR _ _ _ rfl ⟨_, rfl⟩ (Same.refl _) ⟨cc, rfl, hm⟩
    rw [List.filter_eq_self.mpr fun _ _ => rfl] at hys
    have hyl := hys.len
    obtain ⟨cs, rfl, hcs⟩ := ones_txt (ys := ys) fun y hy => by
      obtain ⟨j, hj⟩ := List.getElem?_of_mem hy
      obtain ⟨_, _, c, e, _⟩ := hys.back hj
      exact ⟨c, e⟩
    have hin : ∀ c ∈ cs, c ∈ ks ∨ c = 45 := fun c hc => by
      obtain ⟨j, hj⟩ := List.getElem?_of_mem hc
      obtain ⟨_, _, c', e, h⟩ := hys.back (i := j) (y := T [c]) (by rw [List.getElem?_map, List.getElem?_map, hj]; rfl)
      have : c = c' := by simpa using T_inj e
      rw [this]
      exact h
    have hD3 : SqL K H2 D ((cs.map fun c => [c]).map T) := SqL.of hD
    have hjl : (((cs.map fun c => [c]).map List.length).sum + (cs.map fun c => [c]).length * ([] : List Nat).length ≤ 16777216) := by
      rw [sum_ones, List.length_map, List.length_nil, Nat.mul_zero]
      omega
    walk_at "rd"
    rw [joinN_nil, flat_ones]
    exact q cs H2 (s1.trans s2) (by omega) hin

theorem g_law_leave (tx : Tx K mg C_Person C_House C_Costs C_EvenCosts C_ChangeCosts C_LevelCosts C_Paper C_Places C_Prices) : FnG P w K mg base "_law_leave" 1 ["_law_cells", "_law_names_here", "_law_rows"] (sp_lev K) := by
  refine tx.f_law_leave.g sc_law_leave (fun _ _ _ _ _ _ us hl => match us, hl with | [_, _, _], _ => rfl) (fun vs H Q E h => ?_) (fun f cdv A outer s H vs Q E hr h => ?_)
  · obtain ⟨cl, nl, rl, cs, nms, rows, rfl, _⟩ := h
    rfl
  · obtain ⟨cl, nl, rl, cs, nms, rows, rfl, hcl, hnl, hrl, hc5, hnn, hrn, hr7, q⟩ := h
    refine ⟨_, (pss_cons (ps_set (i := 3) sc_law_leave.nd rfl (Or.inl rfl) (pe_lst pa_nil))
      (pss_cons (ps_for PassesOwn.never rfl (pi_zip3K (K := K) rfl rfl tx.z_zip (pa_cons (pv 0) (pa_cons (pv 1) (pa_cons (pv 2) pa_nil)))) (pg_tup rfl (pgs_cons (pg_name (i := 4) sc_law_leave.nd rfl (Or.inl rfl)) (pgs_cons (pg_name (i := 5) sc_law_leave.nd rfl (Or.inl rfl)) (pgs_cons (pg_name (i := 6) sc_law_leave.nd rfl (Or.inl rfl)) pgs_nil)))) (pss_one (ps_for PassesOwn.never rfl (pi_range1 rfl tx.z_range (pa_cons (pe_callB call_lenS rfl tx.z_len PySem.boot_len (pa_cons (pv 6) pa_nil)) pa_nil)) (pg_name (i := 7) sc_law_leave.nd rfl (Or.inl rfl)) (pss_one (ps_if (PW.pt (pw_and (pt_cmpR op_eq (pe_ix ix_txt (pv 6) (pv 7) (fun _ _ => rfl)) (pe_txt (l := [45]) (by decide +kernel)) (nomark _)) (pw_and1 (pt_cmpR op_eq (pe_op op_mod (pe_op op_fdiv (pe_op op_add (pe_op op_fdiv (pv 4) pe_int) (pe_op op_mul pe_int (pv 7))) pe_int) pe_int) pe_int (nomark _))))) (pss_one (ps_expr (pe_bm PySem.F.plainAttrs_list PySem.F.slot_list_append PySem.F.type_list_append mt_append (pv 3) (pa_cons (pe_tup (pa_cons (pv 5) (pa_cons (pv 7) pa_nil))) pa_nil)))) pss_nil)))))
      (pss_one (ps_ret (pv 3))))), ?_⟩
    walk_at "st"
    walk_at "rd"
    intro ll fll
    obtain ⟨H1, e1, yll, s1⟩ := newl (xs := []) fll
    rw [← e1]
    have hcl1 := s1.seq hcl
    have hnl1 := s1 _ _ hnl
    have hrl1 := s1 _ _ hrl
    walk_at "rd"
    refine for_zip3 (K := K) (xs := cs.map V.int) (ys := nms.map T) (zs := rows.map T) (fun i σ H2 => Here (∃ (v4 v5 v6 v7 : Option V) (ls : List (List Nat × Int)) (xs : List V), σ = [some (.ref cl), some (.ref nl), some (.ref rl), some (.ref ll), v4, v5, v6, v7] ∧ Same H H2 ∧ H2 ll = some (.lst xs) ∧ All2 LvT H2 ls xs ∧ (∀ l ∈ ls, LevP nms rows l) ∧ ls.length ≤ 7 * i)) (by rw [List.length_map, List.length_map, hnn]) (by rw [List.length_map, List.length_map, hrn]) (Here.mk ⟨none, none, none, none, [], [], rfl, s1, yll, trivial, fun l h => (by cases h), Nat.zero_le _⟩) (fun i σ H2 _ hv => by obtain ⟨_, _, _, _, _, _, _, s2, _⟩ := hv.out; exact ⟨s2.seq hcl, SqL.of (s2 _ _ hnl), SqL.of (s2 _ _ hrl)⟩) ?_ ?_
    · rintro i x y z p σ H2 hx hy hz hp hv
      obtain ⟨v4, v5, v6, v7, ls, xs, rfl, S2, yll2, aL, hLv, hLl⟩ := hv.out
      obtain ⟨cc, hcc, rfl⟩ : ∃ cc, cs[i]? = some cc ∧ x = .int cc := by
        rw [List.getElem?_map] at hx
        cases h : cs[i]? with
        | none => rw [h] at hx; cases hx
        | some cc => rw [h] at hx; exact ⟨cc, rfl, (Option.some.inj hx).symm⟩
      obtain ⟨nm, hnm, rfl⟩ : ∃ nm, nms[i]? = some nm ∧ y = T nm := by
        rw [List.getElem?_map] at hy
        cases h : nms[i]? with
        | none => rw [h] at hy; cases hy
        | some cc => rw [h] at hy; exact ⟨cc, rfl, (Option.some.inj hy).symm⟩
      obtain ⟨row, hrow, rfl⟩ : ∃ row, rows[i]? = some row ∧ z = T row := by
        rw [List.getElem?_map] at hz
        cases h : rows[i]? with
        | none => rw [h] at hz; cases hz
        | some cc => rw [h] at hz; exact ⟨cc, rfl, (Option.some.inj hz).symm⟩
      have hr1 := hr7 row (List.mem_of_getElem? hrow)
      have hr1' : row.length ≤ 1000 := by omega
      have hi : i < cs.length := (List.getElem?_eq_some_iff.mp hcc).1
      have s3 : Same H2 (upd H2 p (.tup [V.int cc, T nm, T row])) := same_new hp _
      have S3 := S2.trans s3
      have yll3 := s3 _ _ yll2
      have aL3 := aL.imp fun a y => LvT.keeps a y _ _ s3.keeps
      walk_at "rd"
      refine for_range (n := row.length) (fun j σ H4 => Here (∃ (v7 : Option V) (ls : List (List Nat × Int)) (xs : List V), σ = [some (.ref cl), some (.ref nl), some (.ref rl), some (.ref ll), some (.int cc), some (T nm), some (T row), v7] ∧ Same H H4 ∧ H4 ll = some (.lst xs) ∧ All2 LvT H4 ls xs ∧ (∀ l ∈ ls, LevP nms rows l) ∧ ls.length ≤ 7 * i + j)) (Here.mk ⟨_, ls, xs, rfl, S3, yll3, aL3, hLv, by omega⟩) ?_ ?_
      · clear hLv hLl aL aL3 yll2 yll3 hv
        rintro j σ H4 hj hv
        obtain ⟨v7, ls, xs, rfl, S4, yll4, aL4, hLv, hLl⟩ := hv.out
        obtain ⟨mk, hm1, hm2⟩ := at_some row (0 + (j : Int)) (by omega) (by omega)
        have hxl := aL4.len
        have hxl' : xs.length ≤ 1000 := by omega
        walk_at "rd"
        refine ite2 (fun e => ?_) (fun e => ?_)
        · have e' : mk = 45 := by have := T_inj (of_decide_eq_true e); simpa using this
          walk_at "rd"
          refine ite2 (fun e2 => ?_) (fun e2 => ?_)
          · walk_at "rd"
            intro t ft
            obtain ⟨H5, e5, yt5, s5⟩ := newt (xs := [T nm, V.int (0 + (j : Int))]) ft
            rw [← e5]
            have yll5 := s5 _ _ yll4
            have kp : Keeps H5 (upd H5 ll (.lst (xs ++ [.ref t]))) := keeps_lst yll5
            have kk := s5.keeps.trans kp
            walk_at "rd"
            refine Here.mk ⟨_, ls ++ [(nm, 0 + (j : Int))], xs ++ [.ref t], rfl, (S4.trans s5).upd fll, upd_same, (aL4.imp fun a y => LvT.keeps a y _ _ kk).snoc ⟨t, rfl, kp _ _ yt5 (fun zs z => by cases z)⟩, fun l hl => ?_, by rw [List.length_append, List.length_singleton]; omega⟩
            rcases List.mem_append.mp hl with hl | hl
            · exact hLv l hl
            · rw [List.mem_singleton.mp hl]
              exact ⟨i, row, hnm, hrow, by show (0 : Int) ≤ 0 + (j : Int); omega, by rw [← e']; exact hm2⟩
          · walk_at "rd"
            exact Here.mk ⟨_, ls, xs, rfl, S4, yll4, aL4, hLv, by omega⟩
        · walk_at "rd"
          exact Here.mk ⟨_, ls, xs, rfl, S4, yll4, aL4, hLv, by omega⟩
      · clear hLv hLl aL aL3 yll2 yll3 hv
        rintro σ H4 hv
        obtain ⟨v7, ls, xs, rfl, S4, yll4, aL4, hLv, hLl⟩ := hv.out
        exact Here.mk ⟨_, _, _, _, ls, xs, rfl, S4, yll4, aL4, hLv, by omega⟩
    · rintro σ H2 hv
      obtain ⟨v4, v5, v6, v7, ls, xs, rfl, S2, yll2, aL, hLv, hLl⟩ := hv.out
      rw [List.length_map] at hLl
      walk_at "rd"
      exact q ll H2 ls xs S2 fll yll2 aL hLv (by omega)
end

theorem getD_of {l : List Nat} {i : Nat} (h : i < l.length) : atI l (0 + (i : Int)) = some (l.getD i 0) := by
  rw [Int.zero_add]
  refine atI_nat ?_
  rw [List.getD_eq_getElem?_getD, List.getElem?_eq_getElem h]
  rfl
theorem threeB {a b c i B : Int} (h0 : 0 ≤ i) (h : i < 3) (ha : 0 ≤ a ∧ a < B) (hb : 0 ≤ b ∧ b < B) (hc : 0 ≤ c ∧ c < B) : ∃ z : Int, atI [V.int a, V.int b, V.int c] i = some (.int z) ∧ 0 ≤ z ∧ z < B := by
  obtain ⟨v, h1, h2⟩ := at_some [V.int a, V.int b, V.int c] i h0 h
  have hm := List.mem_of_getElem? h2
  simp only [List.mem_cons, List.not_mem_nil, or_false] at hm
  rcases hm with rfl | rfl | rfl
  · exact ⟨_, h1, ha⟩
  · exact ⟨_, h1, hb⟩
  · exact ⟨_, h1, hc⟩

def sp_prs4 : Sp := fun vs H Q _ => ∃ (c far : Int) (nm row ks : List Nat), vs = [.int c, T nm, T row, T ks, .int far] ∧ row.length ≤ 7 ∧ ks.length ≤ 3 ∧ (∀ c ∈ row, c ∈ ks ∨ c = 45) ∧ 0 ≤ far ∧ far < 10 ^ (39 : Int).toNat ∧
  ∀ (t : Addr) (H' : Hp) (p : Ps), Same H H' → H' t = some (.tup [T p.nm, T p.sk, .int p.most, .int p.car]) → p.nm = nm → p.past = [] → (∀ c ∈ row, c ≠ 45 → c ∈ p.sk) → (dut row : Int) ≤ p.most → p.most ≤ 9 → 0 ≤ p.car → p.car < 2 ^ 200 → Q (.ref t) H'
section
variable {P : Program} {w : World} {K : PySem.W.Frag} {mg : Str → Option Value} {base : Heap} {C_Person C_House C_Costs C_EvenCosts C_ChangeCosts C_LevelCosts C_Paper C_Places C_Prices : Addr}

theorem g_law_duties (tx : Tx K mg C_Person C_House C_Costs C_EvenCosts C_ChangeCosts C_LevelCosts C_Paper C_Places C_Prices) : FnG P w K mg base "_law_duties" 1 ["_law_row_here"] sp_dut := by
  refine tx.f_law_duties.g sc_law_duties (fun _ _ _ _ _ _ us hl => match us, hl with | [_], _ => rfl) (fun vs H Q E h => ?_) (fun f cdv A outer s H vs Q E hr h => ?_)
  · obtain ⟨l, rfl, _⟩ := h
    rfl
  · obtain ⟨l, rfl, hl, q⟩ := h
    refine ⟨_, (pss_one (ps_ret (pe_callB (call_len_seqK (K := K) rfl) rfl tx.z_len PySem.boot_len (pa_cons (pe_comp (osc := defScope s_law_duties) (ON := ["_law_row_here"]) (N := ["_law_mark"]) (js := [none]) ⟨rfl, by decide +kernel, by decide +kernel, by decide +kernel, rfl, by decide +kernel⟩ rfl rfl rfl (pi_txt (pv 0)) (fun _ _ _ _ _ => pg_name (i := 0) (show List.Nodup (["_law_mark"] : List Str) from by decide +kernel) rfl (Or.inl rfl)) (fun _ _ _ _ _ => pifs_one (pt_cmpR op_ne (pv 0) (pe_txt (l := [45]) (by decide +kernel)) (nomark _))) (fun _ _ _ _ _ => (pv 0))) pa_nil)))), ?_⟩
    walk_at "st"
    walk_at "rd"
    refine comp_by (fun x => !decide (x = T [45])) (fun x => x) (hands_txt l) ?_ (fun x hx H' s' R hR => ?_) (fun x hx hp H' s' R hR => ?_) (fun D H' hD s' hDD => ?_)
    · rw [List.length_map]; omega
    · obtain ⟨k, _, rfl⟩ := List.mem_map.mp hx
      walk_at "rd"
      exact hR H' (Same.refl _)
    · walk_at "rd"
      exact hR H' (Same.refl _)
    refine ⟨D, _, rfl, .inl (SqL.of hDD), ?_⟩
    rw [dut_txt]
    exact q H' s'

theorem g_law_person (tx : Tx K mg C_Person C_House C_Costs C_EvenCosts C_ChangeCosts C_LevelCosts C_Paper C_Places C_Prices) : FnG P w K mg base "_law_person" 2 ["_law_cell", "_law_name", "_law_row_here", "_law_kinds_here", "_law_far"] sp_prs4 := by
  have G_law_drawn := g_law_drawn (P := P) (w := w) (base := base) tx
  have G_law_duties := g_law_duties (P := P) (w := w) (base := base) tx
  refine tx.f_law_person.g sc_law_person (fun _ _ _ _ _ _ us hl => match us, hl with | [_, _, _, _, _], _ => rfl) (fun vs H Q E h => ?_) (fun f cdv A outer s H vs Q E hr h => ?_)
  · obtain ⟨c, far, nm, row, ks, rfl, _⟩ := h
    rfl
  · obtain ⟨c, far, nm, row, ks, rfl, hrow, hk, hin, far0, far1, q⟩ := h
    refine ⟨_, (pss_cons (ps_set (i := 5) sc_law_person.nd rfl (Or.inr rfl) (pe_fn G_law_drawn (hr.mono (by decide)) (pa_cons (pe_op op_fdiv (pv 0) pe_int) (pa_cons pe_int pa_nil))))
      (pss_cons (ps_set (i := 6) sc_law_person.nd rfl (Or.inl rfl) (pe_joinK (K := K) rfl (pe_txt (l := []) (by decide +kernel)) (pa_cons (pe_comp (osc := defScope s_law_person) (ON := ["_law_cell", "_law_name", "_law_row_here", "_law_kinds_here", "_law_far", "_law_xs", "_law_skills", "_law_carried"]) (N := ["_law_k", "_law_kinds_here", "_law_row_here", "_law_xs"]) (js := [none, some 3, some 2, some 5]) ⟨rfl, by decide +kernel, by decide +kernel, by decide +kernel, rfl, by decide +kernel⟩ rfl rfl rfl (pi_range1 rfl tx.z_range (pa_cons (pe_callB call_lenS rfl tx.z_len PySem.boot_len (pa_cons (pv 3) pa_nil)) pa_nil)) (fun _ _ _ _ _ => pg_name (i := 0) (show List.Nodup (["_law_k", "_law_kinds_here", "_law_row_here", "_law_xs"] : List Str) from by decide +kernel) rfl (Or.inl rfl)) (fun _ _ _ _ _ => pifs_one (PW.pt (pw_or (pt_cmpR op_inS (pe_ix ix_txt (pv 1) (pv 0) (fun _ _ => rfl)) (pv 2) rfl) (pw_or1 (pt_cmpR op_gt (pe_op op_mod (pe_ix (ix_listK (K := K) rfl) (pv 3) (pv 0) (fun _ _ => rfl)) pe_int) pe_int (nomark _)))))) (fun _ _ _ _ _ => (pe_ix ix_txt (pv 1) (pv 0) (fun _ _ => rfl)))) pa_nil)))
      (pss_cons (ps_cut (ps_if (pt_cmpR op_eq (pe_op op_mod (pe_ix (ix_listK (K := K) rfl) (pv 5) pe_int (fun _ _ => rfl)) pe_int) pe_int (nomark _)) (pss_one (ps_set (i := 6) sc_law_person.nd rfl (Or.inl rfl) (pe_rev (pv 6) (pe_un un_neg pe_int)))) pss_nil))
      (pss_cons (ps_set (i := 7) sc_law_person.nd rfl (Or.inl rfl) (pe_ix (ix_listK (K := K) rfl) (pe_lst (pa_cons (pe_op op_mod (pe_ix (ix_listK (K := K) rfl) (pv 5) pe_int (fun _ _ => rfl)) pe_int) (pa_cons (pe_op op_add (pv 4) (pe_op op_mod (pe_ix (ix_listK (K := K) rfl) (pv 5) pe_int (fun _ _ => rfl)) pe_int)) (pa_cons (pe_op op_mod (pe_op op_fdiv (pv 0) pe_int) (pe_op op_pow pe_int pe_int)) pa_nil)))) (pe_op op_mod (pv 0) pe_int) (fun _ _ => rfl)))
      (pss_one (ps_ret (pe_tup (pa_cons (pv 1) (pa_cons (pv 6) (pa_cons (pe_op op_add (pe_fn G_law_duties (hr.mono (by decide)) (pa_cons (pv 2) pa_nil)) (pe_op op_mod (pe_ix (ix_listK (K := K) rfl) (pv 5) pe_int (fun _ _ => rfl)) pe_int)) (pa_cons (pv 7) pa_nil))))))))))), ?_⟩
    walk_at "st"
    clear G_law_drawn G_law_duties
    have hk' : ks.length ≤ 1000 := by omega
    have hrow' : row.length ≤ 1000 := by omega
    walk_at "rd"
    intro xa H1 xs s1 nxa hxa hxl hxb
    have c4 := cell_lit (ns := xs) (k := 4) (by decide) (by omega)
    have c5 := cell_lit (ns := xs) (k := 5) (by decide) (by omega)
    have c6 := cell_lit (ns := xs) (k := 6) (by decide) (by omega)
    walk_at "rd"
    refine comp_hands (List.range ks.length) (fun k => decide (ks.getD k 0 ∈ row) || decide (0 < cellF xs (0 + (k : Int)) % 3)) (fun (k : Nat) y _ => y = T [ks.getD k 0]) (fun σ => ∃ v, σ = [v, some (T ks), some (T row), some (.ref xa)]) (hands_range 0 ks.length) (by rw [List.length_map]) (by rw [List.length_range]; omega) ⟨_, rfl⟩ (fun _ _ _ _ _ z => z) (fun i a v σ H' ha hv hσ s' Rf Rt hF hR => ?_) (fun D H2 ys nD s2 hys hD => ?_)
    · obtain ⟨w1, rfl⟩ := hσ
      rw [List.getElem?_map, ha] at hv
      cases hv
      obtain ⟨ea, hal⟩ := range_at ha
      have hal' : a < ks.length := by omega
      have g1 := getD_of hal'
      have ck := cell_lit (ns := xs) (k := 0 + (a : Int)) (by omega) (by omega)
      have hxa' := s' _ _ hxa
      walk_at "rd"
      refine ite2 (fun e => ?_) (fun e => ?_)
      · have e' : (decide (ks.getD a 0 ∈ row) || decide (0 < cellF xs (0 + (a : Int)) % 3)) = true := by rw [e]; rfl
        walk_at "rd"
        exact hR _ _ _ e' ⟨_, rfl⟩ (Same.refl _) rfl
      · walk_at "rd"
        refine ite2 (fun e2 => ?_) (fun e2 => ?_)
        · have e' : (decide (ks.getD a 0 ∈ row) || decide (0 < cellF xs (0 + (a : Int)) % 3)) = true := by rw [e2, Bool.or_true]
          walk_at "rd"
          exact hR _ _ _ e' ⟨_, rfl⟩ (Same.refl _) rfl
        · exact hF _ _ (by rw [Bool.eq_false_iff.mpr e, Bool.eq_false_iff.mpr e2]; rfl) ⟨_, rfl⟩ (Same.refl _)
    have ey : ys = ((((List.range ks.length).filter fun k => decide (ks.getD k 0 ∈ row) || decide (0 < cellF xs (0 + (k : Int)) % 3)).map fun k => ks.getD k 0).map fun c => [c]).map T := by
      rw [List.map_map, List.map_map]
      exact hys.eqmap fun a y h => h
    have hsk : ∀ c ∈ row, c ≠ 45 → c ∈ ((List.range ks.length).filter fun k => decide (ks.getD k 0 ∈ row) || decide (0 < cellF xs (0 + (k : Int)) % 3)).map fun k => ks.getD k 0 := fun c hc h45 => by
      obtain ⟨j, hj⟩ := List.getElem?_of_mem ((hin c hc).resolve_right h45)
      have hjl := (List.getElem?_eq_some_iff.mp hj).1
      have e : ks.getD j 0 = c := by rw [List.getD_eq_getElem?_getD, hj]; rfl
      refine List.mem_map.mpr ⟨j, List.mem_filter.mpr ⟨List.mem_range.mpr hjl, ?_⟩, e⟩
      rw [e, decide_eq_true hc, Bool.true_or]
    have hsl : (((List.range ks.length).filter fun k => decide (ks.getD k 0 ∈ row) || decide (0 < cellF xs (0 + (k : Int)) % 3)).map fun k => ks.getD k 0).length ≤ 3 := by
      rw [List.length_map]
      have := List.length_filter_le (fun k => decide (ks.getD k 0 ∈ row) || decide (0 < cellF xs (0 + (k : Int)) % 3)) (List.range ks.length)
      rw [List.length_range] at this
      omega
    generalize ((List.range ks.length).filter fun k => decide (ks.getD k 0 ∈ row) || decide (0 < cellF xs (0 + (k : Int)) % 3)).map (fun k => ks.getD k 0) = sk at ey hsk hsl
    rw [ey] at hD
    have hD3 : SqL K H2 D ((sk.map fun c => [c]).map T) := SqL.of hD
    have hjl : (((sk.map fun c => [c]).map List.length).sum + (sk.map fun c => [c]).length * ([] : List Nat).length ≤ 16777216) := by
      rw [sum_ones, List.length_map, List.length_nil, Nat.mul_zero]
      omega
    have hxa2 := s2 _ _ hxa
    have hsl' : sk.length ≤ 1000 := by omega
    walk_at "rd"
    rw [joinN_nil, flat_ones]
    walk_at "rd"
    refine tCut.mk (fun σ' H' => Here (∃ sk' : List Nat, σ' = [some (.int c), some (T nm), some (T row), some (T ks), some (.int far), some (.ref xa), some (T sk'), none] ∧ (∀ c ∈ row, c ≠ 45 → c ∈ sk') ∧ H' = H2)) ?_ ?_
    · walk_at "rd"
      refine ite2 (fun _ => ?_) (fun _ => ?_)
      · walk_at "rd"
        exact Here.mk ⟨sk.reverse, rfl, fun c h1 h2 => List.mem_reverse.mpr (hsk c h1 h2), rfl⟩
      · exact Here.mk ⟨sk, rfl, hsk, rfl⟩
    rintro σ' H' hv'
    obtain ⟨sk', rfl, hsk', eH⟩ := hv'.out
    rw [eH]
    have p39 : CPow 10 39 := ⟨by decide, by decide, by decide⟩
    have p39' : (0 : Int) < 10 ^ (39 : Int).toNat := by decide
    have p39b : (10 : Int) ^ (39 : Int).toNat < 2 ^ 199 := by decide
    have p39c : (2 : Int) ^ 199 + 4 < 2 ^ 200 := by decide
    walk_at "rd"
    intro l3 f3
    obtain ⟨car, hcar, car0, car1⟩ := threeB (a := cellF xs 6 % 4) (b := far + cellF xs 6 % 4) (c := c / 3 % 10 ^ (39 : Int).toNat) (i := c % 3) (B := 2 ^ 200) (Int.emod_nonneg _ (by decide)) (Int.emod_lt_of_pos _ (by decide)) ⟨by omega, by omega⟩ ⟨by omega, by omega⟩ ⟨Int.emod_nonneg _ (by decide), by have := Int.emod_lt_of_pos (c / 3) p39'; omega⟩
    obtain ⟨H4, e4, y3, s4⟩ := newl (xs := [V.int (cellF xs 6 % 4), V.int (far + cellF xs 6 % 4), V.int (c / 3 % 10 ^ (39 : Int).toNat)]) f3
    have e4' : upd H2 l3 (.lst [V.int (cellF xs 6 % 4), V.int (far + cellF xs 6 % 4), V.int (c / 3 % 10 ^ (39 : Int).toNat)]) = H4 := e4.symm
    rw [e4']
    have hxa4 := s4 _ _ hxa2
    have hdl : dut row ≤ row.length := List.length_filter_le _ _
    walk_at "rd"
    intro H5 s5
    have hxa5 := s5 _ _ hxa4
    walk_at "rd"
    intro t ft
    exact q t _ ⟨nm, sk', (dut row : Int) + cellF xs 5 % 3, car, []⟩ ((((s1.trans s2).trans s4).trans s5).trans (same_new ft _)) upd_same rfl rfl hsk' (by show _ ≤ (dut row : Int) + cellF xs 5 % 3; omega) (by show (dut row : Int) + cellF xs 5 % 3 ≤ 9; omega) car0 car1
end

/-- needs drawn: each place once, the rows fill it, and each place that a row holds is asked for -/
structure NdO3 (rows : List (List Nat)) (ks : List Nat) (d : Int) (nds : List Nd) : Prop where
  u : nds.Pairwise apartN
  k : ∀ n ∈ nds, n.kind ∈ ks ∧ 0 ≤ n.day ∧ n.day < d
  f : ∀ n ∈ nds, (n.least ≤ (cntR rows n : Int) ∧ (cntR rows n : Int) ≤ n.most) ∧ 0 ≤ n.least ∧ n.most ≤ 9
  l : nds.length ≤ 21
  a : ∀ (j c : Nat), (j : Int) < d → c ∈ ks → (∃ r ∈ rows, r[j]? = some c) → ∃ n ∈ nds, n.day = (j : Int) ∧ n.kind = c
def sp_nd3 : Sp := fun vs H Q _ => ∃ (c d : Int) (ks : List Nat) (rl : Addr) (rows : List (List Nat)), vs = [.int c, T ks, .int d, .ref rl] ∧ 1 ≤ d ∧ d ≤ 7 ∧ ks.length ≤ 3 ∧ ks.Nodup ∧ H rl = some (.lst (rows.map T)) ∧ rows.length ≤ 5 ∧ (∀ r ∈ rows, (r.length : Int) = d) ∧
  ∀ (a : Addr) (H' : Hp) (nds : List Nd) (xs : List V), Same H H' → H a = none → H' a = some (.lst xs) → All2 NdAt H' nds xs → NdO3 rows ks d nds → Q (.ref a) H'
section
variable {P : Program} {w : World} {K : PySem.W.Frag} {mg : Str → Option Value} {base : Heap} {C_Person C_House C_Costs C_EvenCosts C_ChangeCosts C_LevelCosts C_Paper C_Places C_Prices : Addr}

theorem g_law_needs (tx : Tx K mg C_Person C_House C_Costs C_EvenCosts C_ChangeCosts C_LevelCosts C_Paper C_Places C_Prices) : FnG P w K mg base "_law_needs" 2 ["_law_cell", "_law_kinds_here", "_law_days", "_law_rows"] sp_nd3 := by
  have G_law_drawn := g_law_drawn (P := P) (w := w) (base := base) tx
  refine tx.f_law_needs.g sc_law_needs (fun _ _ _ _ _ _ us hl => match us, hl with | [_, _, _, _], _ => rfl) (fun vs H Q E h => ?_) (fun f cdv A outer s H vs Q E hr h => ?_)
  · obtain ⟨c, d, ks, rl, rows, rfl, _⟩ := h
    rfl
  · obtain ⟨c, d, ks, rl, rows, rfl, d1, d7, hk, hkn, hrl, hrn, hrd, q⟩ := h
    refine ⟨_, (pss_cons (ps_set (i := 4) sc_law_needs.nd rfl (Or.inl rfl) (pe_lst pa_nil))
      (pss_cons (ps_for PassesOwn.never rfl (pi_range1 rfl tx.z_range (pa_cons (pv 2) pa_nil)) (pg_name (i := 5) sc_law_needs.nd rfl (Or.inr rfl)) (pss_cons (ps_set (i := 6) sc_law_needs.nd rfl (Or.inl rfl) (pe_fn G_law_drawn (hr.mono (by decide)) (pa_cons (pe_op op_add (pv 0) (pe_op op_mul pe_int (pv 5))) (pa_cons (pe_op op_mul pe_int (pe_callB call_lenS rfl tx.z_len PySem.boot_len (pa_cons (pv 1) pa_nil))) pa_nil))))
      (pss_one (ps_for PassesOwn.never rfl (pi_range1 rfl tx.z_range (pa_cons (pe_callB call_lenS rfl tx.z_len PySem.boot_len (pa_cons (pv 1) pa_nil)) pa_nil)) (pg_name (i := 7) sc_law_needs.nd rfl (Or.inr rfl)) (pss_cons (ps_set (i := 8) sc_law_needs.nd rfl (Or.inl rfl) (pe_callB (call_len_seqK (K := K) rfl) rfl tx.z_len PySem.boot_len (pa_cons (pe_comp (osc := defScope s_law_needs) (ON := ["_law_cell", "_law_kinds_here", "_law_days", "_law_rows", "_law_needs_here", "_law_day", "_law_xs", "_law_k", "_law_many", "_law_least"]) (N := ["_law_row_here", "_law_day", "_law_kinds_here", "_law_k"]) (js := [none, some 5, some 1, some 7]) ⟨rfl, by decide +kernel, by decide +kernel, by decide +kernel, rfl, by decide +kernel⟩ rfl rfl rfl (pi_listK (K := K) rfl (pv 3)) (fun _ _ _ _ _ => pg_name (i := 0) (show List.Nodup (["_law_row_here", "_law_day", "_law_kinds_here", "_law_k"] : List Str) from by decide +kernel) rfl (Or.inl rfl)) (fun _ _ _ _ _ => pifs_one (pt_cmpR op_eq (pe_ix ix_txt (pv 0) (pv 1) (fun _ _ => rfl)) (pe_ix ix_txt (pv 2) (pv 3) (fun _ _ => rfl)) (nomark _))) (fun _ _ _ _ _ => (pv 0))) pa_nil)))
      (pss_cons (ps_set (i := 9) sc_law_needs.nd rfl (Or.inl rfl) (pe_op op_sub (pv 8) (pe_op op_mul (pe_op op_fdiv (pe_op op_mod (pe_ix (ix_listK (K := K) rfl) (pv 6) (pe_op op_mul pe_int (pv 7)) (fun _ _ => rfl)) pe_int) pe_int) (pe_op op_mod (pe_op op_fdiv (pe_ix (ix_listK (K := K) rfl) (pv 6) (pe_op op_mul pe_int (pv 7)) (fun _ _ => rfl)) pe_int) (pe_op op_add (pv 8) pe_int)))))
      (pss_one (ps_if (PW.pt (pw_or (pt_cmpR op_gt (pv 8) pe_int (nomark _)) (pw_or1 (pt_cmpR op_gt (pe_op op_mod (pe_op op_fdiv (pe_ix (ix_listK (K := K) rfl) (pv 6) (pe_op op_add (pe_op op_mul pe_int (pv 7)) pe_int) (fun _ _ => rfl)) pe_int) pe_int) pe_int (nomark _))))) (pss_one (ps_expr (pe_bm PySem.F.plainAttrs_list PySem.F.slot_list_append PySem.F.type_list_append mt_append (pv 4) (pa_cons (pe_tup (pa_cons (pv 5) (pa_cons (pe_ix ix_txt (pv 1) (pv 7) (fun _ _ => rfl)) (pa_cons (pv 9) (pa_cons (pe_op op_add (pv 8) (pe_op op_mod (pe_ix (ix_listK (K := K) rfl) (pv 6) (pe_op op_add (pe_op op_mul pe_int (pv 7)) pe_int) (fun _ _ => rfl)) pe_int)) pa_nil))))) pa_nil)))) pss_nil))))))))
      (pss_one (ps_ret (pv 4))))), ?_⟩
    walk_at "st"
    clear G_law_drawn
    have hk' : ks.length ≤ 1000 := by omega
    walk_at "rd"
    intro nl fnl
    obtain ⟨H1, e1, ynl, s1⟩ := newl (xs := []) fnl
    rw [← e1]
    have nrl : rl ≠ nl := ne_of_none hrl fnl
    walk_at "rd"
    refine for_range (n := d.toNat) (fun i σ H2 => Here (∃ (v5 v6 v7 v8 v9 : Option V) (nds : List Nd) (xs : List V), σ = [some (.int c), some (T ks), some (.int d), some (.ref rl), some (.ref nl), v5, v6, v7, v8, v9] ∧ Same H H2 ∧ H2 nl = some (.lst xs) ∧ All2 NdAt H2 nds xs ∧ nds.Pairwise apartN ∧ (∀ n ∈ nds, n.kind ∈ ks ∧ 0 ≤ n.day ∧ n.day < (i : Int)) ∧ (∀ n ∈ nds, (n.least ≤ (cntR rows n : Int) ∧ (cntR rows n : Int) ≤ n.most) ∧ 0 ≤ n.least ∧ n.most ≤ 9) ∧ nds.length ≤ 3 * i ∧ (∀ (j c : Nat), j < i → c ∈ ks → (∃ r ∈ rows, r[j]? = some c) → ∃ n ∈ nds, n.day = (j : Int) ∧ n.kind = c))) (Here.mk ⟨none, none, none, none, none, [], [], rfl, s1, ynl, trivial, List.Pairwise.nil, fun n h => (by cases h), fun n h => (by cases h), Nat.zero_le _, fun j c hj => absurd hj (Nat.not_lt_zero _)⟩) ?_ ?_
    · rintro i σ H2 hi hv
      obtain ⟨v5, v6, v7, v8, v9, nds, xs, rfl, S2, ynl2, aN, hU, hK, hF, hL, hC⟩ := hv.out
      walk_at "rd"
      intro xa H3 zs s3 nxa hxa hzl hzb
      have hxn : xa ≠ nl := fun z => by rw [z, ynl2] at nxa; cases nxa
      have aN3 := aN.imp fun a y => NdAt.keeps a y _ _ s3.keeps
      have ynl3 := s3 _ _ ynl2
      walk_at "rd"
      refine for_range (n := ks.length) (fun j σ H4 => Here (∃ (v7 v8 v9 : Option V) (nds : List Nd) (xs : List V), σ = [some (.int c), some (T ks), some (.int d), some (.ref rl), some (.ref nl), some (.int (0 + (i : Int))), some (.ref xa), v7, v8, v9] ∧ Same H H4 ∧ H4 xa = some (.lst (zs.map V.int)) ∧ H4 nl = some (.lst xs) ∧ All2 NdAt H4 nds xs ∧ nds.Pairwise apartN ∧ (∀ n ∈ nds, n.kind ∈ ks ∧ 0 ≤ n.day ∧ (n.day < (i : Int) ∨ (n.day = (i : Int) ∧ ∃ k' < j, ks[k']? = some n.kind))) ∧ (∀ n ∈ nds, (n.least ≤ (cntR rows n : Int) ∧ (cntR rows n : Int) ≤ n.most) ∧ 0 ≤ n.least ∧ n.most ≤ 9) ∧ nds.length ≤ 3 * i + j ∧ (∀ (j' c : Nat), j' < i → c ∈ ks → (∃ r ∈ rows, r[j']? = some c) → ∃ n ∈ nds, n.day = (j' : Int) ∧ n.kind = c) ∧ (∀ (k' c : Nat), k' < j → ks[k']? = some c → (∃ r ∈ rows, r[i]? = some c) → ∃ n ∈ nds, n.day = (i : Int) ∧ n.kind = c))) (Here.mk ⟨_, _, _, nds, xs, rfl, S2.trans s3, hxa, ynl3, aN3, hU, fun n h => ⟨(hK n h).1, (hK n h).2.1, .inl (hK n h).2.2⟩, hF, by omega, hC, fun k' c hk => absurd hk (Nat.not_lt_zero _)⟩) ?_ ?_
      · clear hU hK hF hL hC aN aN3 ynl2 ynl3 hv
        rintro j σ H4 hj hv
        obtain ⟨v7, v8, v9, nds, xs, rfl, S4, hxa4, ynl4, aN4, hU, hK, hF, hL, hC, hC2⟩ := hv.out
        have hrl4 := S4 _ _ hrl
        obtain ⟨kk, hkk, hkk2⟩ := at_some ks (0 + (j : Int)) (by omega) (by omega)
        have hkj : ks[j]? = some kk := by rw [show (0 + (j : Int)).toNat = j by omega] at hkk2; exact hkk2
        have x1 := cell_lit (ns := zs) (k := 2 * (0 + (j : Int))) (by omega) (by omega)
        have x2 := cell_lit (ns := zs) (k := 2 * (0 + (j : Int)) + 1) (by omega) (by omega)
        walk_at "rd"
        refine comp_hands rows (hitB ⟨(i : Int), kk, 0, 0⟩) (fun r y _ => y = T r) (fun σ => ∃ v, σ = [v, some (.int (0 + (i : Int))), some (T ks), some (.int (0 + (j : Int)))]) (hands_list (SqL.of hrl4)) (by rw [List.length_map]) (by omega) ⟨_, rfl⟩ (fun _ _ _ _ _ z => z) (fun i' a v σ H' ha hv hσ s' Rf Rt hF' hR => ?_) (fun D H5 ys nD s5 hys hD => ?_)
        · obtain ⟨w1, rfl⟩ := hσ
          rw [List.getElem?_map, ha] at hv
          cases hv
          have hal := hrd a (List.mem_of_getElem? ha)
          obtain ⟨cc, hc1, hc2⟩ := at_some a (0 + (i : Int)) (by omega) (by omega)
          have hal' : a.length ≤ 1000 := by omega
          have hh : hitB ⟨(i : Int), kk, 0, 0⟩ a = decide (T [cc] = T [kk]) := by
            unfold hitB
            show decide (a[((i : Int)).toNat]? = some kk) = _
            rw [show (0 + (i : Int)).toNat = ((i : Int)).toNat by omega] at hc2
            rw [hc2]
            refine decide_eq_decide.mpr ⟨fun z => by rw [Option.some.inj z], fun z => by have := T_inj z; simpa using this⟩
          walk_at "rd"
          refine ite2 (fun e => ?_) (fun e => ?_)
          · walk_at "rd"
            exact hR _ _ _ (hh.trans e) ⟨_, rfl⟩ (Same.refl _) rfl
          · exact hF' _ _ (Bool.eq_false_iff.mpr fun z => e (hh.symm.trans z)) ⟨_, rfl⟩ (Same.refl _)
        have hyl := hys.len
        have hxa5 := s5 _ _ hxa4
        have ynl5 := s5 _ _ ynl4
        have aN5 := aN4.imp fun a y => NdAt.keeps a y _ _ s5.keeps
        have S5 := S4.trans s5
        have hcn : ∀ (l m : Int), cntR rows ⟨(i : Int), kk, l, m⟩ = ys.length := fun l m => hyl.symm
        have hxl := aN4.len
        have hm0 : (0 : Int) ≤ (ys.length : Int) := by omega
        have m1 : (0 : Int) < (ys.length : Int) + 1 := by omega
        have t0 := Int.emod_nonneg (cellF zs (2 * (0 + (j : Int))) / 3) (show (ys.length : Int) + 1 ≠ 0 by omega)
        have t1 := Int.emod_lt_of_pos (cellF zs (2 * (0 + (j : Int))) / 3) m1
        have yl5 : ys.length ≤ 5 := by
          have := List.length_filter_le (hitB ⟨(i : Int), kk, 0, 0⟩) rows
          omega
        -- a place is put on the list
        have fin : ∀ (H6 : Hp) (t : Addr) (l m : Int), Same H5 H6 → H6 t = some (.tup [.int (0 + (i : Int)), T [kk], .int l, .int m]) → l ≤ (ys.length : Int) → (ys.length : Int) ≤ m → 0 ≤ l → m ≤ 9 → (H6 nl = some (.lst xs) ∧ (∃ nds' : List Nd, Same H (upd H6 nl (.lst (xs ++ [.ref t]))) ∧ upd H6 nl (.lst (xs ++ [.ref t])) xa = some (.lst (zs.map V.int)) ∧ All2 NdAt (upd H6 nl (.lst (xs ++ [.ref t]))) nds' (xs ++ [.ref t]) ∧ nds'.Pairwise apartN ∧ (∀ n ∈ nds', n.kind ∈ ks ∧ 0 ≤ n.day ∧ (n.day < (i : Int) ∨ (n.day = (i : Int) ∧ ∃ k' < j + 1, ks[k']? = some n.kind))) ∧ (∀ n ∈ nds', (n.least ≤ (cntR rows n : Int) ∧ (cntR rows n : Int) ≤ n.most) ∧ 0 ≤ n.least ∧ n.most ≤ 9) ∧ nds'.length ≤ 3 * i + (j + 1) ∧ (∀ (j' c : Nat), j' < i → c ∈ ks → (∃ r ∈ rows, r[j']? = some c) → ∃ n ∈ nds', n.day = (j' : Int) ∧ n.kind = c) ∧ (∀ (k' c : Nat), k' < j + 1 → ks[k']? = some c → (∃ r ∈ rows, r[i]? = some c) → ∃ n ∈ nds', n.day = (i : Int) ∧ n.kind = c))) := fun H6 t l m s6 ht hlm hmm hl0 hm9 => by
          have ynl6 := s6 _ _ ynl5
          have kp : Keeps H6 (upd H6 nl (.lst (xs ++ [.ref t]))) := keeps_lst ynl6
          have kk5 := s6.keeps.trans kp
          rw [Int.zero_add] at ht
          refine ⟨ynl6, nds ++ [⟨(i : Int), kk, l, m⟩], (S5.trans s6).upd fnl, by rw [upd_ne hxn]; exact s6 _ _ hxa5, (aN5.imp fun a y => NdAt.keeps a y _ _ kk5).snoc ⟨t, rfl, kp _ _ ht (fun zs z => by cases z)⟩, ?_, fun n hn => ?_, fun n hn => ?_, by rw [List.length_append, List.length_singleton]; omega, fun j' c hj' hc hr => ?_, fun k' c hk' hc hr => ?_⟩
          · rw [List.pairwise_append]
            refine ⟨hU, List.pairwise_singleton _ _, fun n hn m' hm' => ?_⟩
            rw [List.mem_singleton.mp hm']
            rintro ⟨e1, e2⟩
            have e1' : n.day = (i : Int) := e1
            have e2' : n.kind = kk := e2
            rcases (hK n hn).2.2 with z | ⟨_, k', hk', z⟩
            · omega
            · rw [e2'] at z
              have hl1 := (List.getElem?_eq_some_iff.mp z).1
              have hl2 := (List.getElem?_eq_some_iff.mp hkj).1
              have := (List.getElem_inj hkn).mp ((List.getElem?_eq_some_iff.mp z).2.trans (List.getElem?_eq_some_iff.mp hkj).2.symm)
              omega
          · rcases List.mem_append.mp hn with hn | hn
            · obtain ⟨a1, a2, a3⟩ := hK n hn
              exact ⟨a1, a2, a3.imp id fun ⟨b1, k', b2, b3⟩ => ⟨b1, k', by omega, b3⟩⟩
            · rw [List.mem_singleton.mp hn]
              exact ⟨List.mem_of_getElem? hkj, by show (0 : Int) ≤ (i : Int); omega, .inr ⟨rfl, j, by omega, hkj⟩⟩
          · rcases List.mem_append.mp hn with hn | hn
            · exact hF n hn
            · rw [List.mem_singleton.mp hn, hcn]
              exact ⟨⟨hlm, hmm⟩, hl0, hm9⟩
          · obtain ⟨n, hn, e⟩ := hC j' c hj' hc hr
            exact ⟨n, List.mem_append_left _ hn, e⟩
          · by_cases e : k' = j
            · subst e
              rw [hkj] at hc
              cases hc
              exact ⟨_, List.mem_append_right _ (List.mem_singleton_self _), rfl, rfl⟩
            · obtain ⟨n, hn, e⟩ := hC2 k' c (by omega) hc hr
              exact ⟨n, List.mem_append_left _ hn, e⟩
        have hxl' : xs.length ≤ 1000 := by omega
        have cm : CMul (cellF zs (2 * (0 + (j : Int))) % 3 / 2) (cellF zs (2 * (0 + (j : Int))) / 3 % ((ys.length : Int) + 1)) := .inl ⟨by omega, by omega⟩
        have hle : (ys.length : Int) - cellF zs (2 * (0 + (j : Int))) % 3 / 2 * (cellF zs (2 * (0 + (j : Int))) / 3 % ((ys.length : Int) + 1)) ≤ (ys.length : Int) := by
          have := Int.mul_nonneg (show 0 ≤ cellF zs (2 * (0 + (j : Int))) % 3 / 2 by omega) t0
          omega
        have hmo : (ys.length : Int) ≤ (ys.length : Int) + cellF zs (2 * (0 + (j : Int)) + 1) % 3 := by omega
        have hle0 : 0 ≤ (ys.length : Int) - cellF zs (2 * (0 + (j : Int))) % 3 / 2 * (cellF zs (2 * (0 + (j : Int))) / 3 % ((ys.length : Int) + 1)) := by
          have h1 : cellF zs (2 * (0 + (j : Int))) % 3 / 2 = 0 ∨ cellF zs (2 * (0 + (j : Int))) % 3 / 2 = 1 := by omega
          rcases h1 with h1 | h1 <;> rw [h1] <;> omega
        have hmo9 : (ys.length : Int) + cellF zs (2 * (0 + (j : Int)) + 1) % 3 ≤ 9 := by omega
        walk_at "rd"
        refine ite2 (fun _ => ?_) (fun eN => ?_)
        · walk_at "rd"
          intro t ft
          obtain ⟨H6, e6, yt6, s6⟩ := newt (xs := [V.int (0 + (i : Int)), T [kk], .int ((ys.length : Int) - cellF zs (2 * (0 + (j : Int))) % 3 / 2 * (cellF zs (2 * (0 + (j : Int))) / 3 % ((ys.length : Int) + 1))), .int ((ys.length : Int) + cellF zs (2 * (0 + (j : Int)) + 1) % 3)]) ft
          have e6' : upd H5 t (.tup [V.int (0 + (i : Int)), T [kk], .int ((ys.length : Int) - cellF zs (2 * (0 + (j : Int))) % 3 / 2 * (cellF zs (2 * (0 + (j : Int))) / 3 % ((ys.length : Int) + 1))), .int ((ys.length : Int) + cellF zs (2 * (0 + (j : Int)) + 1) % 3)]) = H6 := e6.symm
          rw [e6']
          obtain ⟨b1, nds', b2, b3, b4, b5, b6, b7, b8, b9, b10⟩ := fin H6 t _ _ s6 yt6 hle hmo hle0 hmo9
          walk_at "rd"
          exact Here.mk ⟨_, _, _, nds', _, rfl, b2, b3, upd_same, b4, b5, b6, b7, b8, b9, b10⟩
        walk_at "rd"
        refine ite2 (fun _ => ?_) (fun _ => ?_)
        · walk_at "rd"
          intro t ft
          obtain ⟨H6, e6, yt6, s6⟩ := newt (xs := [V.int (0 + (i : Int)), T [kk], .int ((ys.length : Int) - cellF zs (2 * (0 + (j : Int))) % 3 / 2 * (cellF zs (2 * (0 + (j : Int))) / 3 % ((ys.length : Int) + 1))), .int ((ys.length : Int) + cellF zs (2 * (0 + (j : Int)) + 1) % 3)]) ft
          have e6' : upd H5 t (.tup [V.int (0 + (i : Int)), T [kk], .int ((ys.length : Int) - cellF zs (2 * (0 + (j : Int))) % 3 / 2 * (cellF zs (2 * (0 + (j : Int))) / 3 % ((ys.length : Int) + 1))), .int ((ys.length : Int) + cellF zs (2 * (0 + (j : Int)) + 1) % 3)]) = H6 := e6.symm
          rw [e6']
          obtain ⟨b1, nds', b2, b3, b4, b5, b6, b7, b8, b9, b10⟩ := fin H6 t _ _ s6 yt6 hle hmo hle0 hmo9
          walk_at "rd"
          exact Here.mk ⟨_, _, _, nds', _, rfl, b2, b3, upd_same, b4, b5, b6, b7, b8, b9, b10⟩
        · walk_at "rd"
          exact Here.mk ⟨_, _, _, nds, xs, rfl, S5, hxa5, ynl5, aN5, hU, fun n hn => by
            obtain ⟨a1, a2, a3⟩ := hK n hn
            exact ⟨a1, a2, a3.imp id fun ⟨b1, k', b2, b3⟩ => ⟨b1, k', by omega, b3⟩⟩, hF, by omega, hC, fun k' c hk' hc hr => by
            by_cases e : k' = j
            · subst e
              rw [hkj] at hc
              cases hc
              obtain ⟨r, hr1, hr2⟩ := hr
              have h0 : ¬ 0 < ys.length := fun z => eN (decide_eq_true (by omega))
              have : 0 < cntR rows ⟨(i : Int), kk, 0, 0⟩ := List.length_pos_of_mem (List.mem_filter.mpr ⟨hr1, decide_eq_true (by show r[((i : Int)).toNat]? = some kk; rw [Int.toNat_natCast]; exact hr2)⟩)
              rw [hcn] at this
              exact absurd this h0
            · exact hC2 k' c (by omega) hc hr⟩
      · clear hU hK hF hL hC aN aN3 ynl2 ynl3 hv
        rintro σ H4 hv
        obtain ⟨v7, v8, v9, nds, xs, rfl, S4, hxa4, ynl4, aN4, hU, hK, hF, hL, hC, hC2⟩ := hv.out
        exact Here.mk ⟨_, _, _, _, _, nds, xs, rfl, S4, ynl4, aN4, hU, fun n hn => by
          obtain ⟨a1, a2, a3⟩ := hK n hn
          refine ⟨a1, a2, ?_⟩
          rcases a3 with z | ⟨z, _⟩ <;> omega, hF, by omega, fun j' c hj' hc hr => by
          by_cases e : j' = i
          · subst e
            obtain ⟨k', hk'⟩ := List.getElem?_of_mem hc
            exact hC2 k' c (List.getElem?_eq_some_iff.mp hk').1 hk' hr
          · exact hC j' c (by omega) hc hr⟩
    · rintro σ H2 hv
      obtain ⟨v5, v6, v7, v8, v9, nds, xs, rfl, S2, ynl2, aN, hU, hK, hF, hL, hC⟩ := hv.out
      walk_at "rd"
      exact q nl H2 nds xs S2 fnl ynl2 aN ⟨hU, fun n hn => ⟨(hK n hn).1, (hK n hn).2.1, by have := (hK n hn).2.2; omega⟩, hF, by omega, fun j c hj hc hr => hC j c (by omega) hc hr⟩
end

/-- a person of four things -/
def Ps4 : Ps → V → Hp → Prop := fun n y H => ∃ t, y = .ref t ∧ H t = some (.tup [T n.nm, T n.sk, .int n.most, .int n.car])
theorem Ps4.keeps (n : Ps) (y : V) (Ha Hb : Hp) (k : Keeps Ha Hb) (h : Ps4 n y Ha) : Ps4 n y Hb := let ⟨t, e, h⟩ := h; ⟨t, e, k _ _ h fun zs z => by cases z⟩
/-- the law's own costs -/
def cntC (way : Int) (W : List Wi) (ps : List Ps) (lv : Int) (p m : Int) : Int :=
  let load := (ps.getD p.toNat dft).car + m
  if way = 1 then ((W.length : Int) + 1) * load * load else if way = 2 ∧ load > lv then load - lv else 0
def mrkC (way : Int) (W : List Wi) (old : List (List Nat)) (p d : Int) (x : Nat) : Int :=
  if way = 1 then (notM W p.toNat d.toNat x : Nat) else if way = 3 ∧ ¬ (old.getD p.toNat []).getD d.toNat 0 = x then 1 else 0
def p2 (p : Ps) : List Nat × Int := (p.nm, p.car)
theorem nm_at {ps : List Ps} {k : Nat} {p : Ps} (h : ps[k]? = some p) : ((ps.map p2).map (·.1)).getD k [] = p.nm := by
  rw [List.getD_eq_getElem?_getD, List.getElem?_map, List.getElem?_map, h]
  rfl
theorem car_at {ps : List Ps} {p : Int} : cellF ((ps.map p2).map (·.2)) p = (ps.getD p.toNat dft).car := by
  unfold cellF
  rw [List.getD_eq_getElem?_getD, List.getD_eq_getElem?_getD, List.getElem?_map, List.getElem?_map]
  cases ps[p.toNat]? <;> rfl
structure CsOk (dd : Int) (ps : List Ps) (W : List Wi) : Prop where
  d7 : dd ≤ 7
  p5 : ps.length ≤ 5
  c : ∀ p ∈ ps, 0 ≤ p.car ∧ p.car < 2 ^ 200
  past : ∀ p ∈ ps, p.past = []
  un : ∀ (i j : Nat) (p p' : Ps), ps[i]? = some p → ps[j]? = some p' → p.nm = p'.nm → i = j
  w6 : W.length ≤ 6
  wk : ∀ w ∈ W, w.k < ps.length ∧ (w.day : Int) < dd ∧ w.marks.length ≤ 2

theorem bigN {n L : Int} (n0 : 0 ≤ n) (n1 : n < 2 ^ 7) (h0 : 0 ≤ L) (h1 : L < 2 ^ 201) : CMul n L ∧ CMulB (n * L) L := by
  have a : n.natAbs < 2 ^ 7 := by omega
  have b : L.natAbs < 2 ^ 201 := by
    have e : ((L.natAbs : Nat) : Int) = L := by omega
    have : ((L.natAbs : Nat) : Int) < ((2 ^ 201 : Nat) : Int) := by
      rw [e, Int.natCast_pow]
      exact h1
    omega
  have w2 : (2 : Nat) ^ 201 ≤ 2 ^ 1000 := Nat.pow_le_pow_right (by decide) (by decide)
  have w3 : (2 : Nat) ^ 208 ≤ 2 ^ 1000 := Nat.pow_le_pow_right (by decide) (by decide)
  have p : (n * L).natAbs < 2 ^ 208 := by
    rw [Int.natAbs_mul, show (208 : Nat) = 7 + 201 from rfl, Nat.pow_add]
    exact Nat.mul_lt_mul'' a b
  exact ⟨.inl ⟨by omega, by omega⟩, Nat.lt_of_lt_of_le p w3, Nat.lt_of_lt_of_le b w2⟩

/-- what was drawn, where it stands -/
structure Pt5 (H : Hp) (t : Addr) (dd : Int) (ks : List Nat) (nds : List Nd) (ps : List Ps) (ls : List (List Nat × Int)) (nl pl ll : Addr) (xs ys zs : List V) : Prop where
  t : H t = some (.tup [.int dd, T ks, .ref nl, .ref pl, .ref ll])
  n : H nl = some (.lst xs)
  na : All2 NdAt H nds xs
  p : H pl = some (.lst ys)
  pa : All2 Ps4 H ps ys
  l : H ll = some (.lst zs)
  la : All2 LvT H ls zs
theorem Pt5.same {H H' : Hp} {t : Addr} {dd : Int} {ks : List Nat} {nds : List Nd} {ps : List Ps} {ls : List (List Nat × Int)} {nl pl ll : Addr} {xs ys zs : List V} (x : Pt5 H t dd ks nds ps ls nl pl ll xs ys zs) (s : Same H H') : Pt5 H' t dd ks nds ps ls nl pl ll xs ys zs :=
  ⟨s _ _ x.t, s _ _ x.n, x.na.imp fun a y => NdAt.keeps a y _ _ s.keeps, s _ _ x.p, x.pa.imp fun a y => Ps4.keeps a y _ _ s.keeps, s _ _ x.l, x.la.imp fun a y => LvT.keeps a y _ _ s.keeps⟩
theorem tup5 (a b c d e : V) : atI [a, b, c, d, e] 0 = some a ∧ atI [a, b, c, d, e] 1 = some b ∧ atI [a, b, c, d, e] 2 = some c ∧ atI [a, b, c, d, e] 3 = some d ∧ atI [a, b, c, d, e] 4 = some e := ⟨by simp [atI, ixN], by simp [atI, ixN], by simp [atI, ixN], by simp [atI, ixN], by simp [atI, ixN]⟩
theorem tup4 (a b c d : V) : atI [a, b, c, d] 0 = some a ∧ atI [a, b, c, d] 1 = some b ∧ atI [a, b, c, d] 2 = some c ∧ atI [a, b, c, d] 3 = some d := ⟨by simp [atI, ixN], by simp [atI, ixN], by simp [atI, ixN], by simp [atI, ixN]⟩
def sp_wish (K : PySem.W.Frag) : Sp := fun vs H Q _ => ∃ (cl : Addr) (cs : List Int) (ks : List Nat) (dd m : Int), vs = [.ref cl, T ks, .int dd, .int m] ∧ SqL K H cl (cs.map V.int) ∧ cs.length ≤ 6 ∧ 1 ≤ dd ∧ dd ≤ 7 ∧ ks.length ≤ 3 ∧ 0 ≤ m ∧ m ≤ 5 ∧
  ∀ (a : Addr) (H' : Hp) (W : List Wi) (ws : List V), Same H H' → H a = none → H' a = some (.lst ws) → All2 WiP H' W ws → W.length ≤ 6 → (∀ w ∈ W, (w.k : Int) < m ∧ (w.day : Int) < dd ∧ w.marks.length ≤ 2) → Q (.ref a) H'
def sp_house5 (C1 C2 : Addr) : Sp := fun vs H Q _ => ∃ (t : Addr) (dd : Int) (ks : List Nat) (nds : List Nd) (ps : List Ps) (ls : List (List Nat × Int)) (W : List Wi) (nl pl ll wl : Addr) (xs ys zs ws : List V), vs = [.ref t, .ref wl] ∧ Pt5 H t dd ks nds ps ls nl pl ll xs ys zs ∧ H wl = some (.lst ws) ∧ All2 WiP H W ws ∧ CsOk dd ps W ∧ ∀ h H', Same H H' → Hk C1 C2 H' h dd ks nds ps ls → HouQ C1 C2 H' h (ps.map p2) W → Q (.ref h) H'
section
variable {P : Program} {w : World} {K : PySem.W.Frag} {mg : Str → Option Value} {base : Heap} {C_Person C_House C_Costs C_EvenCosts C_ChangeCosts C_LevelCosts C_Paper C_Places C_Prices : Addr}

theorem g_law_wishes (tx : Tx K mg C_Person C_House C_Costs C_EvenCosts C_ChangeCosts C_LevelCosts C_Paper C_Places C_Prices) : FnG P w K mg base "_law_wishes" 2 ["_law_cells", "_law_kinds_here", "_law_days", "_law_many"] (sp_wish K) := by
  have G_law_drawn := g_law_drawn (P := P) (w := w) (base := base) tx
  refine tx.f_law_wishes.g sc_law_wishes (fun _ _ _ _ _ _ us hl => match us, hl with | [_, _, _, _], _ => rfl) (fun vs H Q E h => ?_) (fun f cdv A outer s H vs Q E hr h => ?_)
  · obtain ⟨cl, cs, ks, dd, m, rfl, _⟩ := h
    rfl
  · obtain ⟨cl, cs, ks, dd, m, rfl, hS, hcl, dd1, dd7, hkl3, m0, m5, q⟩ := h
    refine ⟨_, (pss_cons (ps_set (i := 4) sc_law_wishes.nd rfl (Or.inl rfl) (pe_lst pa_nil))
      (pss_cons (ps_for PassesOwn.never rfl (pi_listK (K := K) rfl (pv 0)) (pg_name (i := 5) sc_law_wishes.nd rfl (Or.inl rfl)) (pss_one (ps_if (pt_cmpR op_gt (pv 3) pe_int (nomark _)) (pss_cons (ps_set (i := 6) sc_law_wishes.nd rfl (Or.inl rfl) (pe_fn G_law_drawn (hr.mono (by decide)) (pa_cons (pv 5) (pa_cons pe_int pa_nil))))
      (pss_cons (ps_set (i := 7) sc_law_wishes.nd rfl (Or.inl rfl) (pe_ix ix_txt (pe_op op_catS (pv 1) (pe_txt (l := [45]) (by decide +kernel))) (pe_op op_mod (pe_ix (ix_listK (K := K) rfl) (pv 6) pe_int (fun _ _ => rfl)) (pe_op op_add (pe_callB call_lenS rfl tx.z_len PySem.boot_len (pa_cons (pv 1) pa_nil)) pe_int)) (fun _ _ => rfl)))
      (pss_cons (ps_cut (ps_if (PW.pt (pw_and (pt_cmpR op_eq (pe_op op_mod (pe_ix (ix_listK (K := K) rfl) (pv 6) pe_int (fun _ _ => rfl)) pe_int) pe_int (nomark _)) (pw_and1 (pt_cmpR op_ne (pv 7) (pe_txt (l := [45]) (by decide +kernel)) (nomark _))))) (pss_one (ps_set (i := 7) sc_law_wishes.nd rfl (Or.inl rfl) (pe_op op_catS (pe_txt (l := [45]) (by decide +kernel)) (pv 7)))) pss_nil))
      (pss_one (ps_expr (pe_bm PySem.F.plainAttrs_list PySem.F.slot_list_append PySem.F.type_list_append mt_append (pv 4) (pa_cons (pe_tup (pa_cons (pe_op op_mod (pe_ix (ix_listK (K := K) rfl) (pv 6) pe_int (fun _ _ => rfl)) (pv 3)) (pa_cons (pe_op op_mod (pe_ix (ix_listK (K := K) rfl) (pv 6) pe_int (fun _ _ => rfl)) (pv 2)) (pa_cons (pv 7) pa_nil)))) pa_nil))))))) pss_nil)))
      (pss_one (ps_ret (pv 4))))), ?_⟩
    walk_at "st"
    clear G_law_drawn
    walk_at "rd"
    intro wl fwl
    obtain ⟨H1, e1, ywl, s1⟩ := newl (xs := []) fwl
    rw [← e1]
    have hS1 := s1.seq hS
    walk_at "rd"
    refine for_list (K := K) (xs := cs.map V.int) (fun i σ H8 => Here (∃ (v10 v11 v12 : Option V) (W : List Wi) (ws : List V), σ = [some (.ref cl), some (T ks), some (.int dd), some (.int m), some (.ref wl), v10, v11, v12] ∧ Same H H8 ∧ H8 wl = some (.lst ws) ∧ All2 WiP H8 W ws ∧ W.length ≤ i ∧ ∀ w ∈ W, (w.k : Int) < m ∧ (w.day : Int) < dd ∧ w.marks.length ≤ 2)) (Here.mk ⟨none, none, none, [], [], rfl, s1, ywl, trivial, Nat.zero_le _, fun w h => (by cases h)⟩) (fun i σ H8 _ hv => by obtain ⟨_, _, _, _, _, _, s8, _⟩ := hv.out; exact s8.seq hS) ?_ ?_
    · rintro i x σ H8 hx hv
      obtain ⟨v10, v11, v12, W, ws, rfl, S8, ywl8, aW, hWi, hWk⟩ := hv.out
      obtain ⟨cc, hcc, rfl⟩ : ∃ cc, cs[i]? = some cc ∧ x = .int cc := by
        rw [List.getElem?_map] at hx
        cases h : cs[i]? with
        | none => rw [h] at hx; cases hx
        | some cc => rw [h] at hx; exact ⟨cc, rfl, (Option.some.inj hx).symm⟩
      have hi2 : i < cs.length := (List.getElem?_eq_some_iff.mp hcc).1
      have hwl := aW.len
      walk_at "rd"
      refine ite2 (fun e => ?_) (fun e => ?_)
      · have hm0 : 0 < m := of_decide_eq_true e
        walk_at "rd"
        intro xa Ha us sa nxa hxa hul hub
        have d0 := cell_lit (ns := us) (k := 0) (by decide) (by omega)
        have d1 := cell_lit (ns := us) (k := 1) (by decide) (by omega)
        have d2 := cell_lit (ns := us) (k := 2) (by decide) (by omega)
        have d3 := cell_lit (ns := us) (k := 3) (by decide) (by omega)
        have l2 : (0 : Int) < (ks.length : Int) + 1 := by omega
        obtain ⟨mk, hm1, hm2⟩ := at_some (ks ++ [45]) (cellF us 3 % ((ks.length : Int) + 1)) (Int.emod_nonneg _ (by omega)) (by have := Int.emod_lt_of_pos (cellF us 3) l2; rw [List.length_append]; show _ < ((ks.length + 1 : Nat) : Int); omega)
        have hk' : ks.length ≤ 1000 := by omega
        have ywlA := sa _ _ ywl8
        have aWA := aW.imp fun a y => WiP.keeps a y _ _ sa.keeps
        walk_at "rd"
        refine tCut.mk (fun σ' H' => Here (∃ mks : List Nat, σ' = [some (.ref cl), some (T ks), some (.int dd), some (.int m), some (.ref wl), some (.int cc), some (.ref xa), some (T mks)] ∧ mks.length ≤ 2 ∧ H' = Ha)) ?_ ?_
        · walk_at "rd"
          refine ite2 (fun _ => ?_) (fun _ => ?_)
          · walk_at "rd"
            refine ite2 (fun _ => ?_) (fun _ => ?_)
            · walk_at "rd"
              exact Here.mk ⟨[45] ++ [mk], rfl, Nat.le_refl 2, rfl⟩
            · exact Here.mk ⟨[mk], rfl, Nat.le_succ 1, rfl⟩
          · walk_at "rd"
            exact Here.mk ⟨[mk], rfl, Nat.le_succ 1, rfl⟩
        rintro σ' H' hv'
        obtain ⟨mks, rfl, hml, eH⟩ := hv'.out
        rw [eH]
        obtain ⟨kn, ekn⟩ : ∃ kn : Nat, cellF us 0 % m = (kn : Int) := ⟨_, (Int.toNat_of_nonneg (Int.emod_nonneg _ (by omega))).symm⟩
        obtain ⟨dn, edn⟩ : ∃ dn : Nat, cellF us 1 % dd = (dn : Int) := ⟨_, (Int.toNat_of_nonneg (Int.emod_nonneg _ (by omega))).symm⟩
        have kn1 : (kn : Int) < m := by rw [← ekn]; exact Int.emod_lt_of_pos _ hm0
        have dn1 : (dn : Int) < dd := by rw [← edn]; exact Int.emod_lt_of_pos _ (by omega)
        have dd0 : (0 : Int) < dd := by omega
        have hwl' : ws.length ≤ 1000 := by omega
        walk_at "rd"
        intro t3 ft3
        obtain ⟨Hb, eb, yt3, sb⟩ := newt (xs := [V.int (cellF us 0 % m), V.int (cellF us 1 % dd), T mks]) ft3
        have eb' : upd Ha t3 (.tup [V.int (cellF us 0 % m), V.int (cellF us 1 % dd), T mks]) = Hb := eb.symm
        rw [eb']
        rw [ekn, edn] at yt3
        have ywlB := sb _ _ ywlA
        have kp : Keeps Hb (upd Hb wl (.lst (ws ++ [.ref t3]))) := keeps_lst ywlB
        have kk := sb.keeps.trans kp
        walk_at "rd"
        refine Here.mk ⟨_, _, _, W ++ [⟨kn, dn, mks⟩], ws ++ [.ref t3], rfl, ((S8.trans sa).trans sb).upd fwl, upd_same, (aWA.imp fun a y => WiP.keeps a y _ _ kk).snoc ⟨t3, rfl, kp _ _ yt3 (fun zs z => by cases z)⟩, by rw [List.length_append, List.length_singleton]; omega, fun w hw => ?_⟩
        rcases List.mem_append.mp hw with hw | hw
        · exact hWk w hw
        · rw [List.mem_singleton.mp hw]
          exact ⟨kn1, dn1, hml⟩
      · walk_at "rd"
        exact Here.mk ⟨_, v11, v12, W, ws, rfl, S8, ywl8, aW, by omega, hWk⟩
    · rintro σ H8 hv
      obtain ⟨v10, v11, v12, W, ws, rfl, S8, ywl8, aW, hWi, hWk⟩ := hv.out
      rw [List.length_map] at hWi
      walk_at "rd"
      exact q wl H8 W ws S8 fwl ywl8 aW (by omega) hWk

theorem g_law_house (tx : Tx K mg C_Person C_House C_Costs C_EvenCosts C_ChangeCosts C_LevelCosts C_Paper C_Places C_Prices) : FnG P w K mg base "_law_house" 3 ["_law_parts", "_law_wishes_here"] (sp_house5 C_Person C_House) := by
  have G_Person := tx.c_Person.g (g_Person_init (P := P) (w := w) (base := base) tx)
  have G_House := tx.c_House.g (g_House_init (P := P) (w := w) (base := base) tx)
  refine tx.f_law_house.g sc_law_house (fun _ _ _ _ _ _ us hl => match us, hl with | [_, _], _ => rfl) (fun vs H Q E h => ?_) (fun f cdv A outer s H vs Q E hr h => ?_)
  · obtain ⟨t, dd, ks, nds, ps, ls, W, nl, pl, ll, wl, xs, ys, zs, ws, rfl, _⟩ := h
    rfl
  · obtain ⟨t, dd, ks, nds, ps, ls, W, nl, pl, ll, wl, xs, ys, zs, ws, rfl, hP, hwl, aW, hok, q⟩ := h
    refine ⟨_, (pss_cons (ps_setC (k := 2) (osc := defScope s_law_house) (ON := ["_law_parts", "_law_wishes_here", "_law_people", "_law_wished"]) (N := ["_law_name", "_law_skills", "_law_most", "_law_carried"]) (js := [none, none, none, none]) sc_law_house.nd rfl (Or.inl rfl) ⟨rfl, by decide +kernel, by decide +kernel, by decide +kernel, rfl, by decide +kernel⟩ rfl rfl rfl (pi_listK (K := K) rfl (pe_ix (ix_tupK (K := K) rfl) (pv 0) pe_int (fun _ _ => rfl))) (fun _ _ _ _ _ => pg_tupK (K := K) (n := 4) rfl rfl (pgs_cons (pg_name (i := 0) (show List.Nodup (["_law_name", "_law_skills", "_law_most", "_law_carried"] : List Str) from by decide +kernel) rfl (Or.inl rfl)) (pgs_cons (pg_name (i := 1) (show List.Nodup (["_law_name", "_law_skills", "_law_most", "_law_carried"] : List Str) from by decide +kernel) rfl (Or.inl rfl)) (pgs_cons (pg_name (i := 2) (show List.Nodup (["_law_name", "_law_skills", "_law_most", "_law_carried"] : List Str) from by decide +kernel) rfl (Or.inl rfl)) (pgs_cons (pg_name (i := 3) (show List.Nodup (["_law_name", "_law_skills", "_law_most", "_law_carried"] : List Str) from by decide +kernel) rfl (Or.inl rfl)) pgs_nil))))) (fun _ _ _ _ _ => pifs_nil) (fun _ _ _ _ _ => (pe_mkI (r := rPer C_Person) G_Person (hr.mono (by decide)) mk_per (pa_cons (pv 0) (pa_cons (pv 1) (pa_cons (pv 2) (pa_cons (pv 3) (pa_cons (pe_txt (l := []) (by decide +kernel)) pa_nil))))))))
      (pss_cons (ps_setC (k := 3) (osc := defScope s_law_house) (ON := ["_law_parts", "_law_wishes_here", "_law_people", "_law_wished"]) (N := ["_law_p", "_law_day", "_law_marks", "_law_parts"]) (js := [none, none, none, some 0]) sc_law_house.nd rfl (Or.inl rfl) ⟨rfl, by decide +kernel, by decide +kernel, by decide +kernel, rfl, by decide +kernel⟩ rfl rfl rfl (pi_listK (K := K) rfl (pv 1)) (fun _ _ _ _ _ => pg_tupK (K := K) (n := 3) rfl rfl (pgs_cons (pg_name (i := 0) (show List.Nodup (["_law_p", "_law_day", "_law_marks", "_law_parts"] : List Str) from by decide +kernel) rfl (Or.inl rfl)) (pgs_cons (pg_name (i := 1) (show List.Nodup (["_law_p", "_law_day", "_law_marks", "_law_parts"] : List Str) from by decide +kernel) rfl (Or.inl rfl)) (pgs_cons (pg_name (i := 2) (show List.Nodup (["_law_p", "_law_day", "_law_marks", "_law_parts"] : List Str) from by decide +kernel) rfl (Or.inl rfl)) pgs_nil)))) (fun _ _ _ _ _ => pifs_nil) (fun _ _ _ _ _ => (pe_tup (pa_cons (pe_ix (ix_tupK (K := K) rfl) (pe_ix (ix_listK (K := K) rfl) (pe_ix (ix_tupK (K := K) rfl) (pv 3) pe_int (fun _ _ => rfl)) (pv 0) (fun _ _ => rfl)) pe_int (fun _ _ => rfl)) (pa_cons (pv 1) (pa_cons (pv 2) pa_nil))))))
      (pss_one (ps_ret (pe_mkI (r := rHou C_House) G_House (hr.mono (by decide)) mk_hou (pa_cons (pe_ix (ix_tupK (K := K) rfl) (pv 0) pe_int (fun _ _ => rfl)) (pa_cons (pe_ix (ix_tupK (K := K) rfl) (pv 0) pe_int (fun _ _ => rfl)) (pa_cons (pe_callTy call_list_of rfl tx.z_list bt_ty_list (pa_cons (pe_ix (ix_tupK (K := K) rfl) (pv 0) pe_int (fun _ _ => rfl)) pa_nil)) (pa_cons (pv 2) (pa_cons (pe_callTy call_list_of rfl tx.z_list bt_ty_list (pa_cons (pe_ix (ix_tupK (K := K) rfl) (pv 0) pe_int (fun _ _ => rfl)) pa_nil)) (pa_cons (pv 3) (pa_cons (pe_lst pa_nil) (pa_cons (pe_lst pa_nil) pa_nil))))))))))))), ?_⟩
    walk_at "st"
    clear G_Person G_House
    obtain ⟨x0, x1, x2, x3, x4⟩ := tup5 (.int dd) (T ks) (.ref nl) (.ref pl) (.ref ll)
    have ht := hP.t
    have hpl := hP.p
    have qpl : SqL K H pl ys := SqL.of hpl
    have hp5 := hok.p5
    have hw6 := hok.w6
    walk_at "rd"
    refine comp_hands ps (fun _ => true) (PsO C_Person) (fun σ => ∃ v1 v2 v3 v4, σ = [v1, v2, v3, v4]) (hands_list (SqL.of hpl)) hP.pa.len (by omega) ⟨_, _, _, _, rfl⟩ PsO.keeps (fun i p v σ H' hp hv hσ s' Rf Rt _ hR => ?_) (fun D H2 us nD s2 hus hD => ?_)
    · obtain ⟨v1, v2, v3, v4, rfl⟩ := hσ
      obtain ⟨p', hp', t1, rfl, ht1⟩ := hP.pa.back hv
      rw [hp] at hp'
      cases hp'
      have hpast := hok.past p (List.mem_of_getElem? hp)
      have ht1' := s' _ _ ht1
      walk_at "rd"
      intro pp H3 s3 npp hper
      exact hR _ _ _ rfl ⟨_, _, _, _, rfl⟩ s3 ⟨pp, rfl, by rw [hpast]; exact hper⟩
    rw [List.filter_eq_self.mpr fun _ _ => rfl] at hus
    have hP2 := hP.same s2
    have ht2 := hP2.t
    have hwl2 := s2 _ _ hwl
    have aW2 := aW.imp fun a y => WiP.keeps a y _ _ s2.keeps
    have qwl : SqL K H2 wl ws := SqL.of hwl2
    clear hP ht hpl qpl
    walk_at "rd"
    refine comp_hands W (fun _ => true) (WiN ((ps.map p2).map (·.1))) (fun σ => ∃ v1 v2 v3, σ = [v1, v2, v3, some (.ref t)]) (hands_list (SqL.of hwl2)) aW2.len (by omega) ⟨_, _, _, rfl⟩ (fun a y Ha Hb k h => WiN.keeps a y Ha Hb k h) (fun i a v σ H' ha hv hσ s' Rf Rt _ hR => ?_) (fun D2 H3 ts nD2 s3 hts hD2 => ?_)
    · obtain ⟨v1, v2, v3, rfl⟩ := hσ
      obtain ⟨a', ha', t1, rfl, ht1⟩ := aW2.back hv
      rw [ha] at ha'
      cases ha'
      obtain ⟨hak, _, _⟩ := hok.wk a (List.mem_of_getElem? ha)
      have hpa : ps[a.k]? = some (ps[a.k]'hak) := List.getElem?_eq_getElem hak
      generalize ps[a.k]'hak = p at hpa
      have hnm := nm_at hpa
      have hP' := hP2.same s'
      have ht' := hP'.t
      have hpl' := hP'.p
      have ht1' := s' _ _ ht1
      obtain ⟨y, hy, t2, rfl, ht2'⟩ := hP'.pa.get hpa
      have hix : atI ys (a.k : Int) = some (.ref t2) := atI_nat hy
      obtain ⟨y0, _⟩ := tup4 (T p.nm) (T p.sk) (.int p.most) (.int p.car)
      walk_at "rd"
      intro t3 ft3
      exact hR _ _ _ rfl ⟨_, _, _, rfl⟩ (same_new ft3 _) ⟨t3, rfl, by rw [hnm]; exact upd_same⟩
    rw [List.filter_eq_self.mpr fun _ _ => rfl] at hts
    have hP3 := hP2.same s3
    have ht3 := hP3.t
    have hnl3 := hP3.n
    have hD3 := s3 _ _ hD
    clear hP2 ht2 hwl2 qwl
    walk_at "rd"
    intro b1 f1
    obtain ⟨H4, e4, y4, s4⟩ := newl (xs := xs) f1
    rw [← e4]
    have hP4 := hP3.same s4
    have ht4 := hP4.t
    have hll4 := hP4.l
    walk_at "rd"
    intro b3 f3
    obtain ⟨H5, e5, y5, s5⟩ := newl (xs := zs) f3
    rw [← e5]
    walk_at "rd"
    intro b5 f5
    obtain ⟨H6, e6, y6, s6⟩ := newl (xs := []) f5
    rw [← e6]
    walk_at "rd"
    intro b6 f6
    obtain ⟨H7, e7, y7, s7⟩ := newl (xs := []) f6
    rw [← e7]
    have S57 := (s5.trans s6).trans s7
    have S47 := s4.trans S57
    have hD7 := S47 _ _ hD3
    have hD27 := S47 _ _ hD2
    have y47 := S57 _ _ y4
    have y57 := (s6.trans s7) _ _ y5
    have y67 := s7 _ _ y6
    have hP7 := hP4.same S57
    walk_at "rd"
    intro ho Hb a1 a2 a3 a4 a5 a6 sb hHo z1 z2 z3 z4 z5 z6 _ _ _ _ _ _
    have hPb := hP7.same sb
    have husb := hus.imp fun a y => PsO.keeps a y _ _ ((s3.trans S47).trans sb).keeps
    exact q ho Hb ((s2.trans s3).trans (S47.trans sb)) ⟨a1, a2, a3, a4, a5, a6, xs, us, zs, ts, hHo, z1, hPb.na, z2, husb, z3, hPb.la, z4⟩ ⟨_, _, a1, a2, a3, a4, a5, a6, us, ts, hHo, z2, All2.mapL (P := PerQ C_Person) (husb.imp fun a y ⟨b, e, h⟩ => ⟨b, _, _, _, e, h⟩), z4, hts.imp fun a y => WiN.keeps a y _ _ (S47.trans sb).keeps⟩
end

def sp_num : Sp := fun vs H Q _ => ∃ (c m : Int), vs = [.int c, .int m] ∧ 0 ≤ m ∧ m ≤ 500 ∧ ∀ (a : Addr) (H' : Hp) (zs : List Int), Same H H' → H a = none → H' a = some (.lst (zs.map V.int)) → (zs.length : Int) = m → Q (.ref a) H'
theorem ints_ex : ∀ {ys : List V}, (∀ y ∈ ys, ∃ z, y = V.int z) → ∃ zs : List Int, ys = zs.map V.int
  | [], _ => ⟨[], rfl⟩
  | y :: ys, h => by
    obtain ⟨z, rfl⟩ := h y List.mem_cons_self
    obtain ⟨zs, e⟩ := ints_ex (ys := ys) fun z hz => h z (List.mem_cons_of_mem _ hz)
    exact ⟨z :: zs, by rw [e]; rfl⟩
section
variable {P : Program} {w : World} {K : PySem.W.Frag} {mg : Str → Option Value} {base : Heap} {C_Person C_House C_Costs C_EvenCosts C_ChangeCosts C_LevelCosts C_Paper C_Places C_Prices : Addr}

theorem g_law_numbers (tx : Tx K mg C_Person C_House C_Costs C_EvenCosts C_ChangeCosts C_LevelCosts C_Paper C_Places C_Prices) : FnG P w K mg base "_law_numbers" 2 ["_law_cell", "_law_many"] sp_num := by
  have G_law_drawn := g_law_drawn (P := P) (w := w) (base := base) tx
  refine tx.f_law_numbers.g sc_law_numbers (fun _ _ _ _ _ _ us hl => match us, hl with | [_, _], _ => rfl) (fun vs H Q E h => ?_) (fun f cdv A outer s H vs Q E hr h => ?_)
  · obtain ⟨c, m, rfl, _⟩ := h
    rfl
  · obtain ⟨c, m, rfl, m0, m5, q⟩ := h
    refine ⟨_, (pss_cons (ps_if (pt_cmpR op_eq (pe_op op_mod (pv 0) pe_int) pe_int (nomark _)) (pss_one (ps_ret (pe_comp (osc := defScope s_law_numbers) (ON := ["_law_cell", "_law_many", "_law_some"]) (N := ["_law_x"]) (js := [none]) ⟨rfl, by decide +kernel, by decide +kernel, by decide +kernel, rfl, by decide +kernel⟩ rfl rfl rfl (pi_listK (K := K) rfl (pe_fn G_law_drawn (hr.mono (by decide)) (pa_cons (pv 0) (pa_cons (pv 1) pa_nil)))) (fun _ _ _ _ _ => pg_name (i := 0) (show List.Nodup (["_law_x"] : List Str) from by decide +kernel) rfl (Or.inl rfl)) (fun _ _ _ _ _ => pifs_nil) (fun _ _ _ _ _ => (pe_op op_sub (pe_op op_mod (pv 0) pe_int) pe_int))))) pss_nil)
      (pss_cons (ps_set (i := 2) sc_law_numbers.nd rfl (Or.inr rfl) (pe_op op_mod (pe_op op_fdiv (pv 0) pe_int) (pe_op op_pow pe_int pe_int)))
      (pss_one (ps_ret (pe_comp (osc := defScope s_law_numbers) (ON := ["_law_cell", "_law_many", "_law_some"]) (N := ["_law_x", "_law_some"]) (js := [none, some 2]) ⟨rfl, by decide +kernel, by decide +kernel, by decide +kernel, rfl, by decide +kernel⟩ rfl rfl rfl (pi_listK (K := K) rfl (pe_fn G_law_drawn (hr.mono (by decide)) (pa_cons (pv 0) (pa_cons (pv 1) pa_nil)))) (fun _ _ _ _ _ => pg_name (i := 0) (show List.Nodup (["_law_x", "_law_some"] : List Str) from by decide +kernel) rfl (Or.inl rfl)) (fun _ _ _ _ _ => pifs_nil) (fun _ _ _ _ _ => (pe_op op_sub (pe_op op_mod (pe_op op_add (pe_op op_mul (pv 0) (pv 1)) (pv 0)) (pe_op op_add (pe_op op_mul pe_int (pe_op op_pow pe_int pe_int)) pe_int)) (pe_op op_pow pe_int pe_int)))))))), ?_⟩
    walk_at "st"
    clear G_law_drawn
    have p40 : CPow 10 40 := ⟨by decide, by decide, by decide⟩
    have p40' : (0 : Int) < 10 ^ (40 : Int).toNat := by decide
    have p40'' : (0 : Int) < 2 * 10 ^ (40 : Int).toNat + 1 := by decide
    have cm2 : CMul 2 (10 ^ (40 : Int).toNat) := .inl ⟨by decide, by decide⟩
    walk_at "rd"
    refine ite2 (fun _ => ?_) (fun _ => ?_)
    · walk_at "rd"
      intro xa H1 xs s1 nxa hxa hxl hxb
      refine ⟨xa, rfl, ⟨_, SqL.of hxa⟩, ?_⟩
      refine comp_hands xs (fun _ => true) (fun _ y _ => ∃ z, y = V.int z) (fun σ => ∃ v, σ = [v]) (hands_list (SqL.of hxa)) (by rw [List.length_map]) (by omega) ⟨_, rfl⟩ (fun _ _ _ _ _ z => z) (fun i a v σ H' ha hv hσ s' Rf Rt _ hR => ?_) (fun D H2 ys nD s2 hys hD => ?_)
      · obtain ⟨w1, rfl⟩ := hσ
        rw [List.getElem?_map, ha] at hv
        cases hv
        walk_at "rd"
        exact hR _ _ _ rfl ⟨_, rfl⟩ (Same.refl _) ⟨_, rfl⟩
      rw [List.filter_eq_self.mpr fun _ _ => rfl] at hys
      have hyl := hys.len
      obtain ⟨zs, rfl⟩ := ints_ex (ys := ys) fun y hy => by
        obtain ⟨j, hj⟩ := List.getElem?_of_mem hy
        obtain ⟨_, _, z⟩ := hys.back hj
        exact z
      rw [List.length_map] at hyl
      walk_at "rd"
      exact q D H2 zs (s1.trans s2) (s1.free nD) hD (by omega)
    · walk_at "rd"
      intro xa H1 xs s1 nxa hxa hxl hxb
      refine ⟨xa, rfl, ⟨_, SqL.of hxa⟩, ?_⟩
      generalize c / 3 % 10 ^ (40 : Int).toNat = so
      refine comp_hands xs (fun _ => true) (fun _ y _ => ∃ z, y = V.int z) (fun σ => ∃ v, σ = [v, some (.int so)]) (hands_list (SqL.of hxa)) (by rw [List.length_map]) (by omega) ⟨_, rfl⟩ (fun _ _ _ _ _ z => z) (fun i a v σ H' ha hv hσ s' Rf Rt _ hR => ?_) (fun D H2 ys nD s2 hys hD => ?_)
      · obtain ⟨w1, rfl⟩ := hσ
        rw [List.getElem?_map, ha] at hv
        cases hv
        obtain ⟨b1, b2⟩ := hxb a (List.mem_of_getElem? ha)
        have cm : CMul a so := .inl ⟨by omega, by omega⟩
        walk_at "rd"
        exact hR _ _ _ rfl ⟨_, rfl⟩ (Same.refl _) ⟨_, rfl⟩
      rw [List.filter_eq_self.mpr fun _ _ => rfl] at hys
      have hyl := hys.len
      obtain ⟨zs, rfl⟩ := ints_ex (ys := ys) fun y hy => by
        obtain ⟨j, hj⟩ := List.getElem?_of_mem hy
        obtain ⟨_, _, z⟩ := hys.back hj
        exact z
      rw [List.length_map] at hyl
      walk_at "rd"
      exact q D H2 zs (s1.trans s2) (s1.free nD) hD (by omega)
end

def sp_costs (P : Program) (w : World) (K : PySem.W.Frag) (mg : Str → Option Value) (base : Heap) (C1 C2 : Addr) : Sp := fun vs H Q _ => ∃ (way lv : Int) (h ol : Addr) (dd : Int) (ps : List Ps) (W : List Wi) (old : List (List Nat)), vs = [.int way, .ref h, .int lv, .ref ol] ∧ HouQ C1 C2 H h (ps.map p2) W ∧ CsOk dd ps W ∧ H ol = some (.lst (old.map T)) ∧ old.length = ps.length ∧ (∀ r ∈ old, (r.length : Int) = dd) ∧ ∀ (c : Addr) (H' : Hp), Same H H' → CoQ P w K mg base H' c (cntC way W ps lv) (mrkC way W old) ps.length dd → Q (.ref c) H'
section
variable {P : Program} {w : World} {K : PySem.W.Frag} {mg : Str → Option Value} {base : Heap} {C_Person C_House C_Costs C_EvenCosts C_ChangeCosts C_LevelCosts C_Paper C_Places C_Prices : Addr}

theorem g_law_costs (tx : Tx K mg C_Person C_House C_Costs C_EvenCosts C_ChangeCosts C_LevelCosts C_Paper C_Places C_Prices) : FnG P w K mg base "_law_costs" 6 ["_law_way", "_law_house_here", "_law_level", "_law_old"] (sp_costs P w K mg base C_Person C_House) := by
  have G_EvenCosts := tx.c_EvenCosts.g (g_Even_init (P := P) (w := w) (base := base) tx)
  have G_ChangeCosts := tx.c_ChangeCosts.g (g_Change_init (P := P) (w := w) (base := base) tx)
  have G_LevelCosts := tx.c_LevelCosts.g (g_Level_init (P := P) (w := w) (base := base) tx)
  have c0 := g_zc (P := P) (w := w) (base := base) tx tx.m_Costs_of_count tx.c_Costs.cl
  have r0 := g_zm (P := P) (w := w) (base := base) tx tx.m_Costs_of_mark tx.c_Costs.cl
  have cE := g_Even_cnt (P := P) (w := w) (base := base) tx
  have rE := g_Even_mrk (P := P) (w := w) (base := base) tx
  have cC := g_zc (P := P) (w := w) (base := base) tx tx.m_ChangeCosts_of_count tx.c_ChangeCosts.cl
  have rC := g_Change_mrk (P := P) (w := w) (base := base) tx
  have cL := g_Level_cnt (P := P) (w := w) (base := base) tx
  have rL := g_zm (P := P) (w := w) (base := base) tx tx.m_LevelCosts_of_mark tx.c_LevelCosts.cl
  refine tx.f_law_costs.g sc_law_costs (fun _ _ _ _ _ _ us hl => match us, hl with | [_, _, _, _], _ => rfl) (fun vs H Q E h => ?_) (fun f cdv A outer s H vs Q E hr h => ?_)
  · obtain ⟨way, lv, h, ol, dd, ps, W, old, rfl, _⟩ := h
    rfl
  · obtain ⟨way, lv, h, ol, dd, ps, W, old, rfl, hQ, hok, hol, hon, hor, q⟩ := h
    refine ⟨_, (pss_cons (ps_if (pt_cmpR op_eq (pv 0) pe_int (nomark _)) (pss_one (ps_ret (pe_mkI (r := rEv C_Person C_House C_EvenCosts) G_EvenCosts (hr.mono (by decide)) mk_ev (pa_cons (pv 1) pa_nil)))) pss_nil)
      (pss_cons (ps_if (pt_cmpR op_eq (pv 0) pe_int (nomark _)) (pss_one (ps_ret (pe_mkI (r := rLv C_Person C_House C_LevelCosts) G_LevelCosts (hr.mono (by decide)) mk_lv (pa_cons (pv 1) (pa_cons (pv 2) pa_nil))))) pss_nil)
      (pss_cons (ps_if (pt_cmpR op_eq (pv 0) pe_int (nomark _)) (pss_one (ps_ret (pe_mkI (r := rCh C_ChangeCosts) G_ChangeCosts (hr.mono (by decide)) mk_ch (pa_cons (pv 1) (pa_cons (pe_callTy call_list_of rfl tx.z_list bt_ty_list (pa_cons (pv 3) pa_nil)) pa_nil))))) pss_nil)
      (pss_one (ps_ret (pe_mkO (K := K) rfl tx.c_Costs.makes tx.c_Costs.kp tx.oi_Costs tx.c_Costs.mg)))))), ?_⟩
    walk_at "st"
    clear G_EvenCosts G_ChangeCosts G_LevelCosts
    have hp5 := hok.p5
    have hw6 := hok.w6
    have dd7 := hok.d7
    have hpl : (ps.map p2).length ≤ 100 := by rw [List.length_map]; omega
    have hWO : WOk (ps.map p2) W := by
      refine ⟨fun i j nm hi hj => ?_, by omega, hpl, fun w hw => by rw [List.length_map]; exact (hok.wk w hw).1⟩
      rw [List.getElem?_map, List.getElem?_map] at hi hj
      cases ei : ps[i]? with
      | none => rw [ei] at hi; cases hi
      | some a =>
        cases ej : ps[j]? with
        | none => rw [ej] at hj; cases hj
        | some b =>
          rw [ei] at hi
          rw [ej] at hj
          have h1 : a.nm = nm := Option.some.inj hi
          have h2 : b.nm = nm := Option.some.inj hj
          exact hok.un i j a b ei ej (h1.trans h2.symm)
    have hcs : (((ps.map p2).map (·.2)).length : Int) = ps.length := by rw [List.length_map, List.length_map]
    have hbig : ∀ p m : Int, 0 ≤ p → p < ps.length → 0 ≤ m → m ≤ 9 → (cellF ((ps.map p2).map (·.2)) p + m).natAbs < 2 ^ 500 := fun p m p0 p1 m0 m6 => by
      rw [car_at]
      have hl : p.toNat < ps.length := by omega
      have e : ps.getD p.toNat dft = ps[p.toNat]'hl := by rw [List.getD_eq_getElem?_getD, List.getElem?_eq_getElem hl]; rfl
      rw [e]
      obtain ⟨a0, a1⟩ := hok.c _ (List.getElem_mem hl)
      generalize (ps[p.toNat]'hl).car = c at a0 a1
      have e2 : ((c + m).natAbs : Int) = c + m := by omega
      have e3 : ((c + m).natAbs : Int) < ((2 ^ 201 : Nat) : Int) := by
        rw [e2, Int.natCast_pow]
        have p200 : (2 : Int) ^ 200 + 10 < 2 ^ 201 := by decide
        show c + m < (2 : Int) ^ 201
        omega
      have e4 : (c + m).natAbs < 2 ^ 201 := by omega
      exact Nat.lt_of_lt_of_le e4 (Nat.pow_le_pow_right (by decide) (by decide))
    have hrow : ∀ p d : Int, 0 ≤ p → p < ps.length → 0 ≤ d → d < dd → ∃ row x, old[p.toNat]? = some row ∧ row[d.toNat]? = some x ∧ row.length ≤ 1000 ∧ (old.getD p.toNat []).getD d.toNat 0 = x := fun p d p0 p1 d0 d1 => by
      have hl : p.toNat < old.length := by omega
      have e1 : old[p.toNat]? = some (old[p.toNat]'hl) := List.getElem?_eq_getElem hl
      have hr := hor _ (List.getElem_mem hl)
      generalize old[p.toNat]'hl = row at e1 hr
      have e2 : row[d.toNat]? = some (row[d.toNat]'(by omega)) := List.getElem?_eq_getElem (by omega)
      refine ⟨row, _, e1, e2, by omega, ?_⟩
      rw [List.getD_eq_getElem?_getD (l := old), e1, Option.getD_some, List.getD_eq_getElem?_getD, e2, Option.getD_some]
    walk_at "rd"
    refine ite2 (fun e => ?_) (fun e => ?_)
    · have e' : way = 1 := V.int.inj (of_decide_eq_true e)
      walk_at "rd"
      intro c H1 s1 hst
      have hE := hst.here
      refine q c H1 s1 ?_
      obtain ⟨dx, b, D, H0, kvs, h1, h2, h3⟩ := id hE
      refine ⟨_, dx, _, _, _, _, _, h1, lE_of_count _ _ _, lE_of_mark _ _ _, cE, rE, fun p m p0 p1 m0 m6 H' Q' s' q' => ?_, fun p d x p0 p1 d0 d1 H' Q' s' q' => ?_⟩
      · refine ⟨c, p, m, _, W, rfl, hE.same s', p0, by omega, by omega, hbig p m p0 p1 m0 m6, ?_⟩
        have := q' H' (Same.refl _)
        unfold cntC at this
        rw [if_pos e', ← car_at] at this
        rw [show (2 : Nat) = 1 + 1 from rfl, Int.pow_succ, Int.pow_succ, Int.pow_zero, Int.one_mul, ← Int.mul_assoc]
        exact this
      · refine ⟨c, p.toNat, d.toNat, x, _, W, by rw [Int.toNat_of_nonneg p0, Int.toNat_of_nonneg d0], hE.same s', by omega, fun H'' s'' => ?_⟩
        have := q' H'' s''
        unfold mrkC at this
        rw [if_pos e'] at this
        exact this
    have e1 : ¬ way = 1 := fun z => e (decide_eq_true (by rw [z]))
    walk_at "rd"
    refine ite2 (fun e => ?_) (fun e => ?_)
    · have e' : way = 2 := V.int.inj (of_decide_eq_true e)
      walk_at "rd"
      intro c H1 s1 hst
      have hE := hst.here
      refine q c H1 s1 ?_
      obtain ⟨dx, b, h1, h2⟩ := id hE
      refine ⟨_, dx, _, _, _, _, _, h1, lL_of_count _ _, lL_of_mark _ _, cL, rL, fun p m p0 p1 m0 m6 H' Q' s' q' => ?_, fun p d x p0 p1 d0 d1 H' Q' s' q' => ?_⟩
      · refine ⟨c, p, m, _, lv, rfl, hE.same s', p0, by omega, ?_⟩
        have := q' H' (Same.refl _)
        unfold cntC at this
        rw [if_neg e1, ← car_at] at this
        generalize cellF ((ps.map p2).map (·.2)) p + m = L at this ⊢
        by_cases z : L > lv
        · rw [if_pos ⟨e', z⟩] at this
          rw [if_pos (by omega)]
          exact this
        · rw [if_neg fun y => z y.2] at this
          rw [if_neg (by omega)]
          exact this
      · refine ⟨_, _, _, _, rfl, ?_⟩
        have := q' H' (Same.refl _)
        unfold mrkC at this
        rw [if_neg e1, if_neg (fun y => by have := y.1; omega)] at this
        exact this
    have e2 : ¬ way = 2 := fun z => e (decide_eq_true (by rw [z]))
    have hI : SqL K H ol (old.map T) ∨ SqT K H ol (old.map T) := .inl (SqL.of hol)
    walk_at "rd"
    refine ite2 (fun e => ?_) (fun e => ?_)
    · have e' : way = 3 := V.int.inj (of_decide_eq_true e)
      walk_at "rd"
      intro l fl
      obtain ⟨H1, ee1, yl, s1⟩ := newl (xs := old.map T) fl
      rw [← ee1]
      walk_at "rd"
      intro c H2 s2 hst
      have hE := hst.here
      refine q c H2 (s1.trans s2) ?_
      obtain ⟨dx, r, h1, h2⟩ := id hE
      refine ⟨_, dx, _, _, _, _, _, h1, lC_of_count _, lC_of_mark _, cC, rC, fun p m p0 p1 m0 m6 H' Q' s' q' => ?_, fun p d x p0 p1 d0 d1 H' Q' s' q' => ?_⟩
      · refine ⟨_, _, _, rfl, ?_⟩
        have := q' H' (Same.refl _)
        unfold cntC at this
        rw [if_neg e1, if_neg (fun y => by have := y.1; omega)] at this
        exact this
      · obtain ⟨row, mk, r1, r2, r3, r4⟩ := hrow p d p0 p1 d0 d1
        refine ⟨c, p.toNat, d.toNat, x, mk, old, row, by rw [Int.toNat_of_nonneg p0, Int.toNat_of_nonneg d0], hE.same s', r1, r2, r3, ?_⟩
        have := q' H' (Same.refl _)
        unfold mrkC at this
        rw [if_neg e1, r4] at this
        by_cases z : mk = x
        · rw [if_neg fun y => y.2 z] at this
          rw [if_pos z]
          exact this
        · rw [if_pos ⟨e', z⟩] at this
          rw [if_neg z]
          exact this
    have e3 : ¬ way = 3 := fun z => e (decide_eq_true (by rw [z]))
    walk_at "rd"
    intro cx dcx n1 n2 n3
    refine q cx _ ((same_new n2 _).upd n1) ?_
    refine ⟨C_Costs, dcx, [], _, _, _, _, upd_same, rfl, rfl, c0, r0, fun p m p0 p1 m0 m6 H' Q' s' q' => ?_, fun p d x p0 p1 d0 d1 H' Q' s' q' => ?_⟩
    · refine ⟨_, _, _, rfl, ?_⟩
      have := q' H' (Same.refl _)
      unfold cntC at this
      rw [if_neg e1, if_neg (fun y => e2 y.1)] at this
      exact this
    · refine ⟨_, _, _, _, rfl, ?_⟩
      have := q' H' (Same.refl _)
      unfold mrkC at this
      rw [if_neg e1, if_neg (fun y => e3 y.1)] at this
      exact this
end

/-! ### k53: what the law says a rota costs -/
abbrev fT (way : Int) (W : List Wi) (ps : List Ps) (lv : Int) : Nat → List Nat → Int := fun p row => cntC way W ps lv (p : Int) (dut row : Int)
abbrev gT (way : Int) (W : List Wi) (old : List (List Nat)) : Nat → Nat → Nat → Int := fun p d c => mrkC way W old (p : Int) (d : Int) c
theorem sq_nonneg (L : Int) : 0 ≤ L * L := by
  rw [← Int.natAbs_mul_self]
  exact Int.natCast_nonneg _
theorem cntC_nonneg (way : Int) (W : List Wi) (ps : List Ps) (lv p m : Int) : 0 ≤ cntC way W ps lv p m := by
  unfold cntC
  simp only
  split
  · rw [Int.mul_assoc]
    exact Int.mul_nonneg (by omega) (sq_nonneg _)
  · split <;> omega
theorem mrkC_nonneg (way : Int) (W : List Wi) (old : List (List Nat)) (p d : Int) (x : Nat) : 0 ≤ mrkC way W old p d x := by
  unfold mrkC
  split
  · exact Int.natCast_nonneg _
  · split <;> omega
theorem tot_nonneg (way lv : Int) (W : List Wi) (ps : List Ps) (old rows : List (List Nat)) (n : Nat) : 0 ≤ totN (fT way W ps lv) (gT way W old) rows n := by
  unfold totN
  have h := sum_le (l := List.range n) (f := fun _ => (0 : Int)) (g := fun p => fT way W ps lv p (rows.getD p []) + rowN (gT way W old) p (rows.getD p []) (rows.getD p []).length) fun p _ => by
    have a := cntC_nonneg way W ps lv (p : Int) (dut (rows.getD p []) : Int)
    have b := sum_le (l := List.range (rows.getD p []).length) (f := fun _ => (0 : Int)) (g := fun d => gT way W old p d ((rows.getD p []).getD d 0)) fun d _ => mrkC_nonneg _ _ _ _ _ _
    rw [sum_zero_map _ _ fun _ _ => rfl] at b
    exact Int.add_nonneg a b
  rw [sum_zero_map _ _ fun _ _ => rfl] at h
  exact h
/-- the law's own sum, person by person -/
def perT (way lv : Int) (W : List Wi) (ps : List Ps) (old : List (List Nat)) (p : Nat) (row : List Nat) : Int := fT way W ps lv p row + (if way = 3 then rowN (gT way W old) p row row.length else 0)
theorem tot_law (way lv : Int) (W : List Wi) (ps : List Ps) (old rows : List (List Nat)) (hW : ∀ w ∈ W, WIn rows w) : ((List.range rows.length).map fun p => perT way lv W ps old p (rows.getD p [])).sum + (if way = 1 then ((unm W rows : Nat) : Int) else (0 : Int)) = totN (fT way W ps lv) (gT way W old) rows rows.length := by
  rw [tot_split]
  have e1 : ((List.range rows.length).map fun p => perT way lv W ps old p (rows.getD p [])).sum = ((List.range rows.length).map fun p => fT way W ps lv p (rows.getD p [])).sum + ((List.range rows.length).map fun p => if way = 3 then rowN (gT way W old) p (rows.getD p []) (rows.getD p []).length else 0).sum := sum_add_map _ _ _
  rw [e1]
  by_cases h1 : way = 1
  · have e := tot_wish rows W W.length (Nat.le_refl _) hW
    rw [List.take_of_length_le (Nat.le_refl _)] at e
    rw [if_pos h1, sum_zero_map _ _ fun p _ => if_neg (by omega), Int.add_zero, ← e]
    congr 2
    refine List.map_congr_left fun p _ => ?_
    unfold rowN
    congr 1
    refine List.map_congr_left fun d _ => ?_
    show _ = mrkC way W old (p : Int) (d : Int) _
    unfold mrkC
    rw [if_pos h1, Int.toNat_natCast, Int.toNat_natCast]
  · rw [if_neg h1, Int.add_zero]
    congr 2
    refine List.map_congr_left fun p _ => ?_
    by_cases h3 : way = 3
    · rw [if_pos h3]
    · rw [if_neg h3]
      refine (sum_zero_map _ _ fun d _ => ?_).symm
      show mrkC way W old (p : Int) (d : Int) _ = 0
      unfold mrkC
      rw [if_neg h1, if_neg fun z => h3 z.1]
theorem chg_len {old : List (List Nat)} {W : List Wi} {p : Nat} {row : List Nat} : ((((List.range row.length).filter fun (d : Nat) => !decide (row.getD d 0 = (old.getD p []).getD d 0)).length : Nat) : Int) = rowN (gT 3 W old) p row row.length := by
  unfold rowN
  generalize row.length = n
  induction n with
  | zero => rfl
  | succ n ih =>
    rw [List.range_succ, List.filter_append, List.length_append, List.map_append, List.sum_append, ← ih, Int.natCast_add]
    congr 1
    rw [List.map_singleton, List.sum_singleton, List.filter_cons]
    have hm : ∀ x, mrkC 3 W old (p : Int) (n : Int) x = if (old.getD p []).getD n 0 = x then 0 else 1 := fun x => by
      unfold mrkC
      rw [if_neg (show ¬ (3 : Int) = 1 by decide), Int.toNat_natCast, Int.toNat_natCast]
      by_cases z : (old.getD p []).getD n 0 = x
      · rw [if_neg fun y => y.2 z, if_pos z]
      · rw [if_pos ⟨rfl, z⟩, if_neg z]
    show _ = mrkC 3 W old (p : Int) (n : Int) (row.getD n 0)
    rw [hm]
    by_cases h : row.getD n 0 = (old.getD p []).getD n 0
    · rw [if_neg (show ¬ (!decide (row.getD n 0 = (old.getD p []).getD n 0)) = true by rw [decide_eq_true h]; decide), if_pos h.symm]
      rfl
    · rw [if_pos (show (!decide (row.getD n 0 = (old.getD p []).getD n 0)) = true by rw [decide_eq_false h]; rfl), if_neg fun z => h z.symm]
      rfl
def sp_total5 : Sp := fun vs H Q _ => ∃ (way lv : Int) (t wl rl ol : Addr) (dd : Int) (ks : List Nat) (nds : List Nd) (ps : List Ps) (ls : List (List Nat × Int)) (W : List Wi) (nl pl ll : Addr) (xs ys zs ws : List V) (rows old : List (List Nat)), vs = [.int way, .ref t, .ref wl, .ref rl, .int lv, .ref ol] ∧ Pt5 H t dd ks nds ps ls nl pl ll xs ys zs ∧ H wl = some (.lst ws) ∧ All2 WiP H W ws ∧ CsOk dd ps W ∧ H rl = some (.lst (rows.map T)) ∧ rows.length = ps.length ∧ (∀ r ∈ rows, (r.length : Int) = dd) ∧ H ol = some (.lst (old.map T)) ∧ old.length = ps.length ∧ (∀ r ∈ old, (r.length : Int) = dd) ∧ ∀ H', Same H H' → Q (.int (totN (fT way W ps lv) (gT way W old) rows rows.length)) H'
section
variable {P : Program} {w : World} {K : PySem.W.Frag} {mg : Str → Option Value} {base : Heap} {C_Person C_House C_Costs C_EvenCosts C_ChangeCosts C_LevelCosts C_Paper C_Places C_Prices : Addr}

theorem g_law_total (tx : Tx K mg C_Person C_House C_Costs C_EvenCosts C_ChangeCosts C_LevelCosts C_Paper C_Places C_Prices) : FnG P w K mg base "_law_total" 2 ["_law_way", "_law_parts", "_law_wishes_here", "_law_rows", "_law_level", "_law_old"] sp_total5 := by
  have G_law_duties := g_law_duties (P := P) (w := w) (base := base) tx
  refine tx.f_law_total.g sc_law_total (fun _ _ _ _ _ _ us hl => match us, hl with | [_, _, _, _, _, _], _ => rfl) (fun vs H Q E h => ?_) (fun f cdv A outer s H vs Q E hr h => ?_)
  · obtain ⟨way, lv, t, wl, rl, ol, dd, ks, nds, ps, ls, W, nl, pl, ll, xs, ys, zs, ws, rows, old, rfl, _⟩ := h
    rfl
  · obtain ⟨way, lv, t, wl, rl, ol, dd, ks, nds, ps, ls, W, nl, pl, ll, xs, ys, zs, ws, rows, old, rfl, hP, hwl, aW, hok, hrl, hrn, hrd, hol, hon, hod, q⟩ := h
    refine ⟨_, (pss_cons (ps_set (i := 6) sc_law_total.nd rfl (Or.inl rfl) pe_int)
      (pss_cons (ps_for PassesOwn.never rfl (pi_range1 rfl tx.z_range (pa_cons (pe_callB (call_len_seqK (K := K) rfl) rfl tx.z_len PySem.boot_len (pa_cons (pv 3) pa_nil)) pa_nil)) (pg_name (i := 7) sc_law_total.nd rfl (Or.inr rfl)) (pss_cons (ps_set (i := 8) sc_law_total.nd rfl (Or.inl rfl) (pe_op op_add (pe_ix (ix_tupK (K := K) rfl) (pe_ix (ix_listK (K := K) rfl) (pe_ix (ix_tupK (K := K) rfl) (pv 1) pe_int (fun _ _ => rfl)) (pv 7) (fun _ _ => rfl)) pe_int (fun _ _ => rfl)) (pe_fn G_law_duties (hr.mono (by decide)) (pa_cons (pe_ix (ix_listK (K := K) rfl) (pv 3) (pv 7) (fun _ _ => rfl)) pa_nil))))
      (pss_cons (ps_cut (ps_if (pt_cmpR op_eq (pv 0) pe_int (nomark _)) (pss_one (ps_set (i := 6) sc_law_total.nd rfl (Or.inl rfl) (pe_op op_add (pv 6) (pe_op op_mulB (pe_op op_mul (pe_op op_add (pe_callB (call_len_seqK (K := K) rfl) rfl tx.z_len PySem.boot_len (pa_cons (pv 2) pa_nil)) pe_int) (pv 8)) (pv 8))))) pss_nil))
      (pss_cons (ps_cut (ps_if (pt_cmpR op_eq (pv 0) pe_int (nomark _)) (pss_one (ps_set (i := 6) sc_law_total.nd rfl (Or.inl rfl) (pe_op op_add (pv 6) (pe_callB (call_max2 rfl) rfl tx.z_max bt_max (pa_cons pe_int (pa_cons (pe_op op_sub (pv 8) (pv 4)) pa_nil)))))) pss_nil))
      (pss_one (ps_cut (ps_if (pt_cmpR op_eq (pv 0) pe_int (nomark _)) (pss_one (ps_set (i := 6) sc_law_total.nd rfl (Or.inl rfl) (pe_op op_add (pv 6) (pe_callB (call_len_seqK (K := K) rfl) rfl tx.z_len PySem.boot_len (pa_cons (pe_comp (osc := defScope s_law_total) (ON := ["_law_way", "_law_parts", "_law_wishes_here", "_law_rows", "_law_level", "_law_old", "_law_whole", "_law_p", "_law_load"]) (N := ["_law_day", "_law_rows", "_law_p", "_law_old"]) (js := [none, some 3, some 7, some 5]) ⟨rfl, by decide +kernel, by decide +kernel, by decide +kernel, rfl, by decide +kernel⟩ rfl rfl rfl (pi_range1 rfl tx.z_range (pa_cons (pe_ix (ix_tupK (K := K) rfl) (pv 1) pe_int (fun _ _ => rfl)) pa_nil)) (fun _ _ _ _ _ => pg_name (i := 0) (show List.Nodup (["_law_day", "_law_rows", "_law_p", "_law_old"] : List Str) from by decide +kernel) rfl (Or.inl rfl)) (fun _ _ _ _ _ => pifs_one (pt_cmpR op_ne (pe_ix ix_txt (pe_ix (ix_listK (K := K) rfl) (pv 1) (pv 2) (fun _ _ => rfl)) (pv 0) (fun _ _ => rfl)) (pe_ix ix_txt (pe_ix (ix_listK (K := K) rfl) (pv 3) (pv 2) (fun _ _ => rfl)) (pv 0) (fun _ _ => rfl)) (nomark _))) (fun _ _ _ _ _ => (pv 0))) pa_nil))))) pss_nil)))))))
      (pss_cons (ps_cut (ps_if (pt_cmpR op_eq (pv 0) pe_int (nomark _)) (pss_one (ps_set (i := 6) sc_law_total.nd rfl (Or.inl rfl) (pe_op op_add (pv 6) (pe_callB (call_len_seqK (K := K) rfl) rfl tx.z_len PySem.boot_len (pa_cons (pe_comp (osc := defScope s_law_total) (ON := ["_law_way", "_law_parts", "_law_wishes_here", "_law_rows", "_law_level", "_law_old", "_law_whole", "_law_p", "_law_load"]) (N := ["_law_p", "_law_day", "_law_marks", "_law_rows"]) (js := [none, none, none, some 3]) ⟨rfl, by decide +kernel, by decide +kernel, by decide +kernel, rfl, by decide +kernel⟩ rfl rfl rfl (pi_listK (K := K) rfl (pv 2)) (fun _ _ _ _ _ => pg_tupK (K := K) (n := 3) rfl rfl (pgs_cons (pg_name (i := 0) (show List.Nodup (["_law_p", "_law_day", "_law_marks", "_law_rows"] : List Str) from by decide +kernel) rfl (Or.inl rfl)) (pgs_cons (pg_name (i := 1) (show List.Nodup (["_law_p", "_law_day", "_law_marks", "_law_rows"] : List Str) from by decide +kernel) rfl (Or.inl rfl)) (pgs_cons (pg_name (i := 2) (show List.Nodup (["_law_p", "_law_day", "_law_marks", "_law_rows"] : List Str) from by decide +kernel) rfl (Or.inl rfl)) pgs_nil)))) (fun _ _ _ _ _ => pifs_one (pt_cmpR op_notinS (pe_ix ix_txt (pe_ix (ix_listK (K := K) rfl) (pv 3) (pv 0) (fun _ _ => rfl)) (pv 1) (fun _ _ => rfl)) (pv 2) rfl)) (fun _ _ _ _ _ => pe_int)) pa_nil))))) pss_nil))
      (pss_one (ps_ret (pv 6)))))), ?_⟩
    walk_at "st"
    clear G_law_duties
    obtain ⟨x0, x1, x2, x3, x4⟩ := tup5 (.int dd) (T ks) (.ref nl) (.ref pl) (.ref ll)
    have hp5 := hok.p5
    have hw6 := hok.w6
    have dd7 := hok.d7
    have lw := aW.len
    have tr : (rows.map T).length = rows.length := List.length_map _
    have hWI : ∀ w ∈ W, WIn rows w := fun w hw => by
      obtain ⟨a, b, c⟩ := hok.wk w hw
      have hl : w.k < rows.length := by omega
      have := hrd _ (List.getElem_mem hl)
      refine ⟨hl, ?_, by omega⟩
      rw [List.getD_eq_getElem?_getD, List.getElem?_eq_getElem hl, Option.getD_some]
      omega
    have hT := tot_law way lv W ps old rows hWI
    walk_at "rd"
    rw [tr]
    refine for_range (n := rows.length) (fun i σ H2 => Here (∃ v7 v8, σ = [some (.int way), some (.ref t), some (.ref wl), some (.ref rl), some (.int lv), some (.ref ol), some (.int ((List.range i).map fun p => perT way lv W ps old p (rows.getD p [])).sum), v7, v8] ∧ Same H H2)) (Here.mk ⟨_, _, rfl, Same.refl _⟩) ?_ ?_
    · rintro i σ H2 hi hv
      obtain ⟨v7, v8, rfl, s2⟩ := hv.out
      have hil : i < ps.length := by omega
      have hn : ps[i]? = some (ps[i]'hil) := List.getElem?_eq_getElem hil
      have hr1 : rows[i]? = some (rows[i]'hi) := List.getElem?_eq_getElem hi
      have ho1 : old[i]? = some (old[i]'(by omega)) := List.getElem?_eq_getElem (by omega)
      have hrlen := hrd _ (List.mem_of_getElem? hr1)
      have holen := hod _ (List.mem_of_getElem? ho1)
      generalize ps[i]'hil = n at hn
      generalize rows[i]'hi = row at hr1 hrlen
      generalize old[i]'(by omega) = orow at ho1 holen
      have hsum : ((List.range (i + 1)).map fun p => perT way lv W ps old p (rows.getD p [])).sum = ((List.range i).map fun p => perT way lv W ps old p (rows.getD p [])).sum + perT way lv W ps old i row := by
        rw [List.range_succ, List.map_append, List.sum_append, List.map_singleton, List.sum_singleton, List.getD_eq_getElem?_getD, hr1]
        rfl
      generalize ((List.range i).map fun p => perT way lv W ps old p (rows.getD p [])).sum = S0 at hsum ⊢
      generalize ((List.range (i + 1)).map fun p => perT way lv W ps old p (rows.getD p [])).sum = S1 at hsum ⊢
      obtain ⟨nc0, nc1⟩ := hok.c n (List.mem_of_getElem? hn)
      have hP2 := hP.same s2
      have ht2 := hP2.t
      have hpl2 := hP2.p
      have hrl2 := s2 _ _ hrl
      obtain ⟨y, hy, tp, rfl, htp⟩ := hP2.pa.get hn
      have hix : atI ys (0 + (i : Int)) = some (.ref tp) := by rw [Int.zero_add]; exact atI_nat hy
      have hir : atI (rows.map T) (0 + (i : Int)) = some (T row) := by rw [Int.zero_add]; exact atI_nat (by rw [List.getElem?_map, hr1]; rfl)
      have hio : atI (old.map T) (0 + (i : Int)) = some (T orow) := by rw [Int.zero_add]; exact atI_nat (by rw [List.getElem?_map, ho1]; rfl)
      obtain ⟨y0, y1, y2, y3⟩ := tup4 (T n.nm) (T n.sk) (.int n.most) (.int n.car)
      have hrow' : row.length ≤ 1000 := by omega
      have horow' : orow.length ≤ 1000 := by omega
      have hdl : dut row ≤ row.length := List.length_filter_le _ _
      have p200 : (2 : Int) ^ 200 + 10 < 2 ^ 201 := by decide
      have L0 : 0 ≤ n.car + (dut row : Int) := by omega
      have L1 : n.car + (dut row : Int) < 2 ^ 201 := by omega
      have hper : perT way lv W ps old i row = (if way = 1 then ((ws.length : Int) + 1) * (n.car + (dut row : Int)) * (n.car + (dut row : Int)) else 0) + (if way = 2 then (if 0 < n.car + (dut row : Int) - lv then n.car + (dut row : Int) - lv else 0) else 0) + (if way = 3 then rowN (gT way W old) i row row.length else 0) := by
        unfold perT
        show cntC way W ps lv (i : Int) (dut row : Int) + _ = _
        unfold cntC
        rw [Int.toNat_natCast, List.getD_eq_getElem?_getD, hn, lw]
        simp only [Option.getD_some]
        generalize n.car + (dut row : Int) = L
        by_cases e1 : way = 1
        · rw [if_pos e1, if_pos e1, if_neg (show ¬ way = 2 by omega), Int.add_zero]
        · rw [if_neg e1, if_neg e1, Int.zero_add]
          by_cases e2 : way = 2
          · rw [if_pos e2]
            by_cases e3 : L > lv
            · rw [if_pos ⟨e2, e3⟩, if_pos (show 0 < L - lv by omega)]
            · rw [if_neg fun z => e3 z.2, if_neg (show ¬ 0 < L - lv by omega)]
          · rw [if_neg e2, if_neg fun z => e2 z.1]
      rw [hper] at hsum
      clear p200 hper
      walk_at "rd"
      intro H3 s3
      have S3 := s2.trans s3
      obtain ⟨B1, B2⟩ := bigN (n := (ws.length : Int) + 1) (L := n.car + (dut row : Int)) (by omega) (by omega) L0 L1
      have hwl3 := S3 _ _ hwl
      walk_at "rd"
      refine tCut.mk (fun σ' H' => Here (σ' = [some (.int way), some (.ref t), some (.ref wl), some (.ref rl), some (.int lv), some (.ref ol), some (.int (S0 + (if way = 1 then ((ws.length : Int) + 1) * (n.car + (dut row : Int)) * (n.car + (dut row : Int)) else 0))), some (.int (0 + (i : Int))), some (.int (n.car + (dut row : Int)))] ∧ H' = H3)) ?_ ?_
      · walk_at "rd"
        refine ite2 (fun e => ?_) (fun e => ?_)
        · have e' : way = 1 := V.int.inj (of_decide_eq_true e)
          walk_at "rd"
          exact Here.mk ⟨by rw [if_pos e'], rfl⟩
        · have e' : ¬ way = 1 := fun z => e (decide_eq_true (by rw [z]))
          exact Here.mk ⟨by rw [if_neg e', Int.add_zero], rfl⟩
      rintro σ' H' hv'
      obtain ⟨rfl, eH⟩ := hv'.out
      rw [eH]
      clear hv' eH
      clear B1 B2
      generalize n.car + (dut row : Int) = L at L0 L1 hsum ⊢
      generalize (if way = 1 then ((ws.length : Int) + 1) * L * L else 0) = A1 at hsum ⊢
      refine tCut.mk (fun σ' H' => Here (σ' = [some (.int way), some (.ref t), some (.ref wl), some (.ref rl), some (.int lv), some (.ref ol), some (.int (S0 + A1 + (if way = 2 then (if 0 < L - lv then L - lv else 0) else 0))), some (.int (0 + (i : Int))), some (.int L)] ∧ H' = H3)) ?_ ?_
      · walk_at "rd"
        refine ite2 (fun e => ?_) (fun e => ?_)
        · have e' : way = 2 := V.int.inj (of_decide_eq_true e)
          walk_at "rd"
          exact Here.mk ⟨by rw [if_pos e'], rfl⟩
        · have e' : ¬ way = 2 := fun z => e (decide_eq_true (by rw [z]))
          exact Here.mk ⟨by rw [if_neg e', Int.add_zero], rfl⟩
      rintro σ' H' hv'
      obtain ⟨rfl, eH⟩ := hv'.out
      rw [eH]
      clear hv' eH
      generalize (if way = 2 then (if 0 < L - lv then L - lv else 0) else 0) = A2 at hsum ⊢
      have ht3 := S3 _ _ hP.t
      have hrl3 := S3 _ _ hrl
      have hol3 := S3 _ _ hol
      refine tCut.mk (fun σ' H' => Here (σ' = [some (.int way), some (.ref t), some (.ref wl), some (.ref rl), some (.int lv), some (.ref ol), some (.int S1), some (.int (0 + (i : Int))), some (.int L)] ∧ Same H H')) ?_ ?_
      · walk_at "rd"
        refine ite2 (fun e => ?_) (fun e => ?_)
        · have e' : way = 3 := V.int.inj (of_decide_eq_true e)
          walk_at "rd"
          refine comp_hands (List.range dd.toNat) (fun (d : Nat) => !decide (row.getD d 0 = (old.getD i []).getD d 0)) (fun _ _ _ => True) (fun σ => ∃ v, σ = [v, some (.ref rl), some (.int (0 + (i : Int))), some (.ref ol)]) (hands_range 0 dd.toNat) (by rw [List.length_map]) (by rw [List.length_range]; omega) ⟨_, rfl⟩ (fun _ _ _ _ _ z => z) (fun i' d v σ H' hd hv hσ s' Rf Rt hF hR => ?_) (fun D H4 us nD s4 hus hD => ?_)
          · obtain ⟨w1, rfl⟩ := hσ
            rw [List.getElem?_map, hd] at hv
            cases hv
            obtain ⟨_, hdl2⟩ := range_at hd
            have hd' : d < row.length := by have := List.mem_range.mp (List.mem_of_getElem? hd); omega
            have g1 := getD_of (l := row) hd'
            have g2 := getD_of (l := orow) (i := d) (by omega)
            have eo : (old.getD i []).getD d 0 = orow.getD d 0 := by rw [List.getD_eq_getElem?_getD (l := old), ho1, Option.getD_some]
            have hrl' := s' _ _ hrl3
            have hol' := s' _ _ hol3
            have dec : (!decide (row.getD d 0 = (old.getD i []).getD d 0)) = !decide (T [row.getD d 0] = T [orow.getD d 0]) := by
              rw [eo]
              congr 1
              exact decide_eq_decide.mpr ⟨fun z => by rw [z], fun z => by simpa using T_inj z⟩
            walk_at "rd"
            refine ite2 (fun c => ?_) (fun c => ?_)
            · walk_at "rd"
              exact hR _ _ _ (dec.trans c) ⟨_, rfl⟩ (Same.refl _) trivial
            · exact hF _ _ (dec.trans (Bool.eq_false_iff.mpr c)) ⟨_, rfl⟩ (Same.refl _)
          have hul := hus.len
          rw [show dd.toNat = row.length by omega] at hul
          have hcl := chg_len (old := old) (W := W) (p := i) (row := row)
          rw [← hul] at hcl
          walk_at "rd"
          refine Here.mk ⟨?_, S3.trans s4⟩
          rw [hcl, hsum, if_pos e', e', Int.add_assoc, Int.add_assoc, Int.add_assoc]
        · have e' : ¬ way = 3 := fun z => e (decide_eq_true (by rw [z]))
          exact Here.mk ⟨by rw [hsum, if_neg e', Int.add_zero, Int.add_assoc], S3⟩
      rintro σ' H' hv'
      obtain ⟨rfl, s'⟩ := hv'.out
      exact Here.mk ⟨_, _, rfl, s'⟩
    · rintro σ H2 hv
      obtain ⟨v7, v8, rfl, s2⟩ := hv.out
      generalize ((List.range rows.length).map fun p => perT way lv W ps old p (rows.getD p [])).sum = S0 at hT ⊢
      have hwl2 := s2 _ _ hwl
      have hrl2 := s2 _ _ hrl
      have qwl2 : SqL K H2 wl ws := SqL.of hwl2
      refine tCut.mk (fun σ' H' => Here (σ' = [some (.int way), some (.ref t), some (.ref wl), some (.ref rl), some (.int lv), some (.ref ol), some (.int (totN (fT way W ps lv) (gT way W old) rows rows.length)), v7, v8] ∧ Same H H')) ?_ ?_
      · walk_at "rd"
        refine ite2 (fun e => ?_) (fun e => ?_)
        · have e' : way = 1 := V.int.inj (of_decide_eq_true e)
          walk_at "rd"
          refine comp_hands W (fun w => !decide ((rows.getD w.k []).getD w.day 0 ∈ w.marks)) (fun _ _ _ => True) (fun σ => ∃ v1 v2 v3, σ = [v1, v2, v3, some (.ref rl)]) (hands_list (SqL.of hwl2)) lw (by omega) ⟨_, _, _, rfl⟩ (fun _ _ _ _ _ z => z) (fun i' a v σ H' ha hv hσ s' Rf Rt hF hR => ?_) (fun D H4 us nD s4 hus hD => ?_)
          · obtain ⟨v1, v2, v3, rfl⟩ := hσ
            obtain ⟨a', ha', t1, rfl, ht1⟩ := aW.back hv
            rw [ha] at ha'
            cases ha'
            obtain ⟨w1, w2, w3⟩ := hWI a (List.mem_of_getElem? ha)
            have hr1 : rows[a.k]? = some (rows[a.k]'w1) := List.getElem?_eq_getElem w1
            have er : rows.getD a.k [] = rows[a.k]'w1 := by rw [List.getD_eq_getElem?_getD, hr1, Option.getD_some]
            rw [er] at w2
            have hrlen := hrd _ (List.mem_of_getElem? hr1)
            have hir : atI (rows.map T) (a.k : Int) = some (T (rows[a.k]'w1)) := atI_nat (by rw [List.getElem?_map, hr1]; rfl)
            generalize rows[a.k]'w1 = row at hr1 er w2 hrlen hir
            have g1 : atI row (a.day : Int) = some (row.getD a.day 0) := atI_nat (by rw [List.getD_eq_getElem?_getD, List.getElem?_eq_getElem w2]; rfl)
            have hrow' : row.length ≤ 1000 := by omega
            have ht1' := (s2.trans s') _ _ ht1
            have hrl' := s' _ _ hrl2
            walk_at "rd"
            refine ite2 (fun c => ?_) (fun c => ?_)
            · walk_at "rd"
              exact hR _ _ _ (by rw [er]; exact c) ⟨_, _, _, rfl⟩ (Same.refl _) trivial
            · exact hF _ _ (by rw [er]; exact Bool.eq_false_iff.mpr c) ⟨_, _, _, rfl⟩ (Same.refl _)
          have hul := hus.len
          have hun : us.length = unm W rows := hul
          rw [if_pos e', ← hun] at hT
          walk_at "rd"
          exact Here.mk ⟨by rw [← hT], s2.trans s4⟩
        · have e' : ¬ way = 1 := fun z => e (decide_eq_true (by rw [z]))
          rw [if_neg e', Int.add_zero] at hT
          exact Here.mk ⟨by rw [hT], s2⟩
      rintro σ' H' hv'
      obtain ⟨rfl, s'⟩ := hv'.out
      walk_at "rd"
      exact q H' s'
end

def PpAt (C1 C2 C3 : Addr) (x : V) (H : Hp) : Prop := (∃ (pp dx a b : Addr) (prs ods : List Int), x = .ref pp ∧ H pp = some (.ins C1 dx (fPr (.ref a) (.ref b))) ∧ H a = some (.lst (prs.map V.int)) ∧ H b = some (.lst (ods.map V.int))) ∨ (∃ (pp dx : Addr), x = .ref pp ∧ H pp = some (.ins C2 dx [])) ∨ (∃ (pp dx a : Addr) (pc : List (Int × List Nat)) (as : List V), x = .ref pp ∧ H pp = some (.ins C3 dx [("places", .ref a)]) ∧ H a = some (.lst as) ∧ All2 PlT H pc as ∧ pc.length ≤ 100)
theorem PpAt.same {C1 C2 C3 : Addr} {x : V} {H H' : Hp} (h : PpAt C1 C2 C3 x H) (s : Same H H') : PpAt C1 C2 C3 x H' := by
  rcases h with ⟨pp, dx, a, b, prs, ods, e, h1, h2, h3⟩ | ⟨pp, dx, e, h1⟩ | ⟨pp, dx, a, pc, as, e, h1, h2, h3, h4⟩
  · exact .inl ⟨pp, dx, a, b, prs, ods, e, s _ _ h1, s _ _ h2, s _ _ h3⟩
  · exact .inr (.inl ⟨pp, dx, e, s _ _ h1⟩)
  · exact .inr (.inr ⟨pp, dx, a, pc, as, e, s _ _ h1, s _ _ h2, h3.imp fun a y => PlT.keeps a y _ _ s.keeps, h4⟩)
def sp_papers (C1 C2 C3 : Addr) : Sp := fun vs H Q _ => ∃ (c : Int) (t : Addr) (dd : Int) (ks : List Nat) (nds : List Nd) (ps : List Ps) (ls : List (List Nat × Int)) (nl pl ll : Addr) (xs ys zs : List V), vs = [.int c, .ref t] ∧ Pt5 H t dd ks nds ps ls nl pl ll xs ys zs ∧ nds.length ≤ 21 ∧ ps.length ≤ 5 ∧ ∀ (a : Addr) (H' : Hp) (us : List V), Same H H' → H' a = some (.lst us) → (∀ x ∈ us, PpAt C1 C2 C3 x H') → Q (.ref a) H'
section
variable {P : Program} {w : World} {K : PySem.W.Frag} {mg : Str → Option Value} {base : Heap} {C_Person C_House C_Costs C_EvenCosts C_ChangeCosts C_LevelCosts C_Paper C_Places C_Prices : Addr}

theorem g_pfl (tx : Tx K mg C_Person C_House C_Costs C_EvenCosts C_ChangeCosts C_LevelCosts C_Paper C_Places C_Prices) : MtG P w K mg base C_Paper "floor" 1 ["self", "house", "costs"] sp_z3 := by
  refine tx.m_Paper_floor.g tx.c_Paper.cl sc_Paper_floor (fun _ _ _ _ _ _ us hl => match us, hl with | [_, _, _], _ => rfl) (fun vs H Q E h => ?_) (fun f cdv A outer s H vs Q E hr h => ?_)
  · obtain ⟨a, b, c, rfl, _⟩ := h
    rfl
  · obtain ⟨a, b, c, rfl, q⟩ := h
    refine ⟨_, (pss_one (ps_ret pe_int)), ?_⟩
    walk_at "st"
    walk_at "rd"
    exact q

theorem g_law_papers (tx : Tx K mg C_Person C_House C_Costs C_EvenCosts C_ChangeCosts C_LevelCosts C_Paper C_Places C_Prices) : FnG P w K mg base "_law_papers" 4 ["_law_cell", "_law_parts"] (sp_papers C_Prices C_Paper C_Places) := by
  have G_law_numbers := g_law_numbers (P := P) (w := w) (base := base) tx
  have G_Prices := tx.c_Prices.g (g_Prices_init (P := P) (w := w) (base := base) tx)
  have G_Places := tx.c_Places.g (g_Places_init (P := P) (w := w) (base := base) tx)
  refine tx.f_law_papers.g sc_law_papers (fun _ _ _ _ _ _ us hl => match us, hl with | [_, _], _ => rfl) (fun vs H Q E h => ?_) (fun f cdv A outer s H vs Q E hr h => ?_)
  · obtain ⟨c, t, dd, ks, nds, ps, ls, nl, pl, ll, xs, ys, zs, rfl, _⟩ := h
    rfl
  · obtain ⟨c, t, dd, ks, nds, ps, ls, nl, pl, ll, xs, ys, zs, rfl, hP, n21, p5, q⟩ := h
    refine ⟨_, (pss_cons (ps_set (i := 2) sc_law_papers.nd rfl (Or.inl rfl) (pe_fn G_law_numbers (hr.mono (by decide)) (pa_cons (pe_op op_fdiv (pv 0) pe_int) (pa_cons (pe_callB (call_len_seqK (K := K) rfl) rfl tx.z_len PySem.boot_len (pa_cons (pe_ix (ix_tupK (K := K) rfl) (pv 1) pe_int (fun _ _ => rfl)) pa_nil)) pa_nil))))
      (pss_cons (ps_set (i := 3) sc_law_papers.nd rfl (Or.inl rfl) (pe_fn G_law_numbers (hr.mono (by decide)) (pa_cons (pe_op op_add (pe_op op_fdiv (pv 0) pe_int) pe_int) (pa_cons (pe_callB (call_len_seqK (K := K) rfl) rfl tx.z_len PySem.boot_len (pa_cons (pe_ix (ix_tupK (K := K) rfl) (pv 1) pe_int (fun _ _ => rfl)) pa_nil)) pa_nil))))
      (pss_cons (ps_setC (k := 4) (osc := defScope s_law_papers) (ON := ["_law_cell", "_law_parts", "_law_numbers_here", "_law_others", "_law_places", "_law_some", "_law_nothing", "_law_papers_here"]) (N := ["_law_day", "_law_kind", "_law_least", "_law_most"]) (js := [none, none, none, none]) sc_law_papers.nd rfl (Or.inl rfl) ⟨rfl, by decide +kernel, by decide +kernel, by decide +kernel, rfl, by decide +kernel⟩ rfl rfl rfl (pi_listK (K := K) rfl (pe_ix (ix_tupK (K := K) rfl) (pv 1) pe_int (fun _ _ => rfl))) (fun _ _ _ _ _ => pg_tupK (K := K) (n := 4) rfl rfl (pgs_cons (pg_name (i := 0) (show List.Nodup (["_law_day", "_law_kind", "_law_least", "_law_most"] : List Str) from by decide +kernel) rfl (Or.inl rfl)) (pgs_cons (pg_name (i := 1) (show List.Nodup (["_law_day", "_law_kind", "_law_least", "_law_most"] : List Str) from by decide +kernel) rfl (Or.inl rfl)) (pgs_cons (pg_name (i := 2) (show List.Nodup (["_law_day", "_law_kind", "_law_least", "_law_most"] : List Str) from by decide +kernel) rfl (Or.inl rfl)) (pgs_cons (pg_name (i := 3) (show List.Nodup (["_law_day", "_law_kind", "_law_least", "_law_most"] : List Str) from by decide +kernel) rfl (Or.inl rfl)) pgs_nil))))) (fun _ _ _ _ _ => pifs_nil) (fun _ _ _ _ _ => (pe_tup (pa_cons (pv 0) (pa_cons (pv 1) pa_nil)))))
      (pss_cons (ps_setC (k := 5) (osc := defScope s_law_papers) (ON := ["_law_cell", "_law_parts", "_law_numbers_here", "_law_others", "_law_places", "_law_some", "_law_nothing", "_law_papers_here"]) (N := ["_law_place", "_law_cell"]) (js := [none, some 0]) sc_law_papers.nd rfl (Or.inl rfl) ⟨rfl, by decide +kernel, by decide +kernel, by decide +kernel, rfl, by decide +kernel⟩ rfl rfl rfl (pi_listK (K := K) rfl (pv 4)) (fun _ _ _ _ _ => pg_name (i := 0) (show List.Nodup (["_law_place", "_law_cell"] : List Str) from by decide +kernel) rfl (Or.inl rfl)) (fun _ _ _ _ _ => pifs_one (pt_cmpR op_gt (pe_op op_mod (pe_op op_add (pe_op op_fdiv (pv 1) pe_int) (pe_op op_mul pe_int (pe_ix (ix_tupK (K := K) rfl) (pv 0) pe_int (fun _ _ => rfl)))) pe_int) pe_int (nomark _))) (fun _ _ _ _ _ => (pv 0)))
      (pss_cons (ps_setC (k := 6) (osc := defScope s_law_papers) (ON := ["_law_cell", "_law_parts", "_law_numbers_here", "_law_others", "_law_places", "_law_some", "_law_nothing", "_law_papers_here"]) (N := ["_law_one"]) (js := [none]) sc_law_papers.nd rfl (Or.inl rfl) ⟨rfl, by decide +kernel, by decide +kernel, by decide +kernel, rfl, by decide +kernel⟩ rfl rfl rfl (pi_listK (K := K) rfl (pv 2)) (fun _ _ _ _ _ => pg_name (i := 0) (show List.Nodup (["_law_one"] : List Str) from by decide +kernel) rfl (Or.inl rfl)) (fun _ _ _ _ _ => pifs_nil) (fun _ _ _ _ _ => pe_int))
      (pss_cons (ps_set (i := 7) sc_law_papers.nd rfl (Or.inl rfl) (pe_lst (pa_cons (pe_mkI (r := rPri C_Prices) G_Prices (hr.mono (by decide)) mk_pri (pa_cons (pv 2) (pa_cons (pv 3) pa_nil))) (pa_cons (pe_mkI (r := rPri C_Prices) G_Prices (hr.mono (by decide)) mk_pri (pa_cons (pv 6) (pa_cons (pv 3) pa_nil))) (pa_cons (pe_mkI (r := rPri C_Prices) G_Prices (hr.mono (by decide)) mk_pri (pa_cons (pv 2) (pa_cons (pe_slice (sl_listK (K := K) rfl) (pv 3) po_none (po_some pe_int)) pa_nil))) (pa_cons (pe_mkO (K := K) rfl tx.c_Paper.makes tx.c_Paper.kp tx.oi_Paper tx.c_Paper.mg) pa_nil))))))
      (pss_one (ps_ret (pe_op op_cat (pv 7) (pe_lst (pa_cons (pe_mkI (r := rPla C_Places) G_Places (hr.mono (by decide)) mk_pla (pa_cons (pv 4) pa_nil)) (pa_cons (pe_mkI (r := rPla C_Places) G_Places (hr.mono (by decide)) mk_pla (pa_cons (pv 5) pa_nil)) pa_nil)))))))))))), ?_⟩
    walk_at "st"
    clear G_law_numbers G_Prices G_Places
    obtain ⟨x0, x1, x2, x3, x4⟩ := tup5 (.int dd) (T ks) (.ref nl) (.ref pl) (.ref ll)
    have ht := hP.t
    have hpl := hP.p
    have hyl := hP.pa.len
    have hxl := hP.na.len
    walk_at "rd"
    intro na H1 prs s1 fna hna hpn
    have hP1 := hP.same s1
    have ht1 := hP1.t
    have hnl1 := hP1.n
    walk_at "rd"
    intro oa H2 ods s2 foa hoa hod
    have hP2 := hP1.same s2
    have ht2 := hP2.t
    have hnl2 := hP2.n
    have qnl2 : SqL K H2 nl xs := SqL.of hnl2
    have hna2 := s2 _ _ hna
    walk_at "rd"
    refine comp_hands nds (fun _ => true) (fun n y H => PlT (n.day, [n.kind]) y H) (fun σ => ∃ v1 v2 v3 v4, σ = [v1, v2, v3, v4]) (hands_list (SqL.of hnl2)) hxl (by omega) ⟨_, _, _, _, rfl⟩ (fun n y Ha Hb k h => PlT.keeps _ y Ha Hb k h) (fun i n v σ H' hn hv hσ s' Rf Rt _ hR => ?_) (fun pa H3 us npa s3 hus hpa => ?_)
    · obtain ⟨v1, v2, v3, v4, rfl⟩ := hσ
      obtain ⟨n', hn', t1, rfl, ht1'⟩ := hP2.na.back hv
      rw [hn] at hn'
      cases hn'
      have ht1'' := s' _ _ ht1'
      walk_at "rd"
      intro t2 ft2
      exact hR _ _ _ rfl ⟨_, _, _, _, rfl⟩ (same_new ft2 _) ⟨t2, rfl, upd_same⟩
    rw [List.filter_eq_self.mpr fun _ _ => rfl] at hus
    have aP3 : All2 PlT H3 (nds.map fun n => (n.day, [n.kind])) us := All2.mapL (P := PlT) hus
    have lpc : (nds.map fun n => (n.day, [n.kind])).length ≤ 21 := by rw [List.length_map]; exact n21
    generalize (nds.map fun n => (n.day, [n.kind])) = pc at aP3 lpc
    have hul := aP3.len
    have qpa : SqL K H3 pa us := SqL.of hpa
    clear hus
    walk_at "rd"
    refine comp_hands pc (fun a => decide (2 < (c / 3 + 5 * a.1) % 7)) PlT (fun σ => ∃ v, σ = [v, some (.int c)]) (hands_list (SqL.of hpa)) hul (by omega) ⟨_, rfl⟩ PlT.keeps (fun i a v σ H' ha hv hσ s' Rf Rt hF hR => ?_) (fun sa H4 us2 nsa s4 hus2 hsa => ?_)
    · obtain ⟨w1, rfl⟩ := hσ
      obtain ⟨a', ha', t1, rfl, ht1'⟩ := aP3.back hv
      rw [ha] at ha'
      cases ha'
      have ht1'' := s' _ _ ht1'
      have u0 := at0 (V.int a.1) (T a.2)
      walk_at "rd"
      refine ite2 (fun e => ?_) (fun e => ?_)
      · walk_at "rd"
        exact hR _ _ _ e ⟨_, rfl⟩ (Same.refl _) ⟨t1, rfl, ht1''⟩
      · exact hF _ _ (Bool.eq_false_iff.mpr e) ⟨_, rfl⟩ (Same.refl _)
    have lp2 : (pc.filter fun a => decide (2 < (c / 3 + 5 * a.1) % 7)).length ≤ 21 := Nat.le_trans (List.length_filter_le _ _) lpc
    generalize pc.filter (fun a => decide (2 < (c / 3 + 5 * a.1) % 7)) = pc2 at hus2 lp2
    have hna4 := (s3.trans s4) _ _ hna2
    have hoa4 := (s3.trans s4) _ _ hoa
    have hpa4 := s4 _ _ hpa
    have aP4 := aP3.imp fun a y => PlT.keeps a y _ _ s4.keeps
    have qna4 : SqL K H4 na (prs.map V.int) := SqL.of hna4
    have hpl5 : prs.length ≤ 5 := by omega
    walk_at "rd"
    refine comp_hands prs (fun _ => true) (fun _ y _ => ∃ z, y = V.int z) (fun σ => ∃ v, σ = [v]) (hands_list (SqL.of hna4)) (by rw [List.length_map]) (by omega) ⟨_, rfl⟩ (fun _ _ _ _ _ z => z) (fun i a v σ H' ha hv hσ s' Rf Rt _ hR => ?_) (fun za H5 us3 nza s5 hus3 hza => ?_)
    · obtain ⟨w1, rfl⟩ := hσ
      rw [List.getElem?_map, ha] at hv
      cases hv
      walk_at "rd"
      exact hR _ _ _ rfl ⟨_, rfl⟩ (Same.refl _) ⟨_, rfl⟩
    obtain ⟨zs3, rfl⟩ := ints_ex (ys := us3) fun y hy => by
      obtain ⟨j, hj⟩ := List.getElem?_of_mem hy
      obtain ⟨_, _, z⟩ := hus3.back hj
      exact z
    have hna5 := s5 _ _ hna4
    have hoa5 := s5 _ _ hoa4
    have hpa5 := s5 _ _ hpa4
    have hsa5 := s5 _ _ hsa
    have aP5 := aP4.imp fun a y => PlT.keeps a y _ _ s5.keeps
    have aQ5 := hus2.imp fun a y => PlT.keeps a y _ _ s5.keeps
    have S5 := (((s1.trans s2).trans s3).trans s4).trans s5
    clear hus2 hus3 aP3 aP4 hna hna2 hna4 hoa hoa4 hpa hpa4 hsa qna4 qpa qnl2 hP hP1 hP2 ht ht1 ht2 hnl1 hnl2 hpl s1 s2 s3 s4 s5
    walk_at "rd"
    intro p1 dx1 a1 b1 H6 s6 hp1 ha1 hb1 _ _
    have hza6 := s6 _ _ hza
    have hoa6 := s6 _ _ hoa5
    have hna6 := s6 _ _ hna5
    walk_at "rd"
    intro p2' dx2 a2 b2 H7 s7 hp2 ha2 hb2 _ _
    have hoa7 := s7 _ _ hoa6
    have hna7 := s7 _ _ hna6
    walk_at "rd"
    intro ol fol
    rw [cutVm]
    generalize cutN ods none (some 1) = ods1
    obtain ⟨H8, e8, yol, s8⟩ := newl (xs := ods1.map V.int) fol
    rw [← e8]
    have hna8 := s8 _ _ hna7
    walk_at "rd"
    intro p3 dx3 a3 b3 H9 s9 hp3 ha3 hb3 _ _
    walk_at "rd"
    intro cx dcx n1 n2 n3
    have sc1 : Same H9 (upd (upd H9 dcx (.own cx)) cx (.ins C_Paper dcx [])) := (same_new n2 _).upd n1
    have hcx : upd (upd H9 dcx (.own cx)) cx (.ins C_Paper dcx []) cx = some (.ins C_Paper dcx []) := upd_same
    generalize upd (upd H9 dcx (.own cx)) cx (.ins C_Paper dcx []) = Ha at sc1 hcx ⊢
    have S6a := ((s7.trans s8).trans s9).trans sc1
    have P1 : PpAt C_Prices C_Paper C_Places (.ref p1) Ha := .inl ⟨p1, dx1, a1, b1, prs, ods, rfl, S6a _ _ hp1, S6a _ _ ha1, S6a _ _ hb1⟩
    have P2 : PpAt C_Prices C_Paper C_Places (.ref p2') Ha := .inl ⟨p2', dx2, a2, b2, zs3, ods, rfl, ((s8.trans s9).trans sc1) _ _ hp2, ((s8.trans s9).trans sc1) _ _ ha2, ((s8.trans s9).trans sc1) _ _ hb2⟩
    have P3 : PpAt C_Prices C_Paper C_Places (.ref p3) Ha := .inl ⟨p3, dx3, a3, b3, prs, ods1, rfl, sc1 _ _ hp3, sc1 _ _ ha3, sc1 _ _ hb3⟩
    have P4 : PpAt C_Prices C_Paper C_Places (.ref cx) Ha := .inr (.inl ⟨cx, dcx, rfl, hcx⟩)
    have S5a := s6.trans S6a
    have hpaA := S5a _ _ hpa5
    have hsaA := S5a _ _ hsa5
    have aPA := aP5.imp fun a y => PlT.keeps a y _ _ S5a.keeps
    have aQA := aQ5.imp fun a y => PlT.keeps a y _ _ S5a.keeps
    clear hna5 hoa5 hpa5 hsa5 aP5 aQ5 hza6 hoa6 hna6 hoa7 hna7 hna8 hp1 ha1 hb1 hp2 ha2 hb2 hp3 ha3 hb3
    walk_at "rd"
    intro lh flh
    obtain ⟨Hb, eb, ylh, sb⟩ := newl (xs := [V.ref p1, V.ref p2', V.ref p3, V.ref cx]) flh
    rw [← eb]
    have hpaB := sb _ _ hpaA
    walk_at "rd"
    intro p5' dx5 a5 Hc sc5 hp5 ha5 _
    have hsaC := (sb.trans sc5) _ _ hsaA
    walk_at "rd"
    intro p6 dx6 a6 Hd sd6 hp6 ha6 _
    have ylhD := (sc5.trans sd6) _ _ ylh
    walk_at "rd"
    intro l2 fl2
    obtain ⟨He, ee, yl2, se⟩ := newl (xs := [V.ref p5', V.ref p6]) fl2
    rw [← ee]
    have ylhE := se _ _ ylhD
    walk_at "rd"
    intro l3 fl3
    have sf := same_new (H := He) fl3 (.lst ([V.ref p1, V.ref p2', V.ref p3, V.ref cx] ++ [V.ref p5', V.ref p6]))
    have Sbf := (((sb.trans sc5).trans sd6).trans se).trans sf
    have Scf := (sd6.trans se).trans sf
    refine q l3 _ _ (((S5.trans S5a)).trans Sbf) upd_same fun x hx => ?_
    simp only [List.cons_append, List.nil_append, List.mem_cons, List.not_mem_nil, or_false] at hx
    rcases hx with rfl | rfl | rfl | rfl | rfl | rfl
    · exact P1.same Sbf
    · exact P2.same Sbf
    · exact P3.same Sbf
    · exact P4.same Sbf
    · exact .inr (.inr ⟨p5', dx5, a5, pc, us, rfl, Scf _ _ hp5, Scf _ _ ha5, aPA.imp fun a y => PlT.keeps a y _ _ Sbf.keeps, by omega⟩)
    · exact .inr (.inr ⟨p6, dx6, a6, pc2, us2, rfl, (se.trans sf) _ _ hp6, (se.trans sf) _ _ ha6, aQA.imp fun a y => PlT.keeps a y _ _ Sbf.keeps, by omega⟩)
end

theorem pick4 {H : Hp} : ∀ {ys : List V} {C : Nat → Ps → Prop}, (∀ (j : Nat) (y : V), ys[j]? = some y → ∃ p, Ps4 p y H ∧ C j p) → ∃ ps, All2 Ps4 H ps ys ∧ ∀ (j : Nat) (p : Ps), ps[j]? = some p → C j p
  | [], _, _ => ⟨[], trivial, fun j p h => by simp at h⟩
  | y :: ys, C, h => by
    obtain ⟨p, h1, h2⟩ := h 0 y rfl
    obtain ⟨ps, h3, h4⟩ := pick4 (ys := ys) (C := fun j p => C (j + 1) p) fun j y hy => h (j + 1) y hy
    refine ⟨p :: ps, ⟨h1, h3⟩, fun j q hq => ?_⟩
    cases j with
    | zero => cases hq; exact h2
    | succ j => exact h4 j q hq
theorem rows_of : ∀ {ys : List V} {C : List Nat → Prop}, (∀ y ∈ ys, ∃ r, y = T r ∧ C r) → ∃ rows : List (List Nat), ys = rows.map T ∧ ∀ r ∈ rows, C r
  | [], _, _ => ⟨[], rfl, fun _ h => by cases h⟩
  | y :: ys, C, h => by
    obtain ⟨r, rfl, hr⟩ := h _ List.mem_cons_self
    obtain ⟨rows, rfl, hrs⟩ := rows_of (ys := ys) (C := C) fun y hy => h y (List.mem_cons_of_mem _ hy)
    refine ⟨r :: rows, rfl, fun q hq => ?_⟩
    rcases List.mem_cons.mp hq with rfl | z
    · exact hr
    · exact hrs q z
theorem cut_span5 {α : Type} (l : List α) : (cutN l (some 3) (some 8)).length ≤ 5 := by
  unfold cutN
  have e1 : HT.sIx l.length 0 (some 3) = min 3 l.length := by
    show (if (3 : Int) < 0 then ((3 : Int) + (l.length : Int)).toNat else min (3 : Int).toNat l.length) = _
    rw [if_neg (by decide)]
    rfl
  have e2 : HT.sIx l.length l.length (some 8) = min 8 l.length := by
    show (if (8 : Int) < 0 then ((8 : Int) + (l.length : Int)).toNat else min (8 : Int).toNat l.length) = _
    rw [if_neg (by decide)]
    rfl
  rw [e1, e2, List.length_take, List.length_drop]
  omega
theorem cut814 {α : Type} (l : List α) : (cutN l (some 8) (some 14)).length ≤ 6 := by
  unfold cutN
  have e1 : HT.sIx l.length 0 (some 8) = min 8 l.length := by
    show (if (8 : Int) < 0 then ((8 : Int) + (l.length : Int)).toNat else min (8 : Int).toNat l.length) = _
    rw [if_neg (by decide)]
    rfl
  have e2 : HT.sIx l.length l.length (some 14) = min 14 l.length := by
    show (if (14 : Int) < 0 then ((14 : Int) + (l.length : Int)).toNat else min (14 : Int).toNat l.length) = _
    rw [if_neg (by decide)]
    rfl
  rw [e1, e2, List.length_take, List.length_drop]
  omega
theorem CoQ.at {P : Program} {w : World} {K : PySem.W.Frag} {mg : Str → Option Value} {base : Heap} {H : Hp} {c : Addr} {f : Int → Int → Int} {g : Int → Int → Nat → Int} {n : Nat} {dd : Int} {rows : List (List Nat)} (x : CoQ P w K mg base H c f g n dd) (hn : rows.length = n) (hd : ∀ r ∈ rows, (r.length : Int) = dd) (d7 : dd ≤ 7) : CoAt P w K mg base H c (fun p row => f (p : Int) (dut row : Int)) (fun p d c => g (p : Int) (d : Int) c) rows := by
  obtain ⟨C, dx, fs, ps1, ps2, sp1, sp2, h1, h2, h3, h4, h5, h6, h7⟩ := x
  refine ⟨C, dx, fs, 1, 1, ps1, ps2, sp1, sp2, h1, h2, h3, h4, by decide, h5, by decide, fun p row hr => ?_, fun p d x row hr hx => ?_⟩
  · have hp := (List.getElem?_eq_some_iff.mp hr).1
    have hl := hd row (List.mem_of_getElem? hr)
    have hu : dut row ≤ row.length := List.length_filter_le _ _
    exact h6 p _ (by omega) (by omega) (by omega) (by omega)
  · have hp := (List.getElem?_eq_some_iff.mp hr).1
    have hl := hd row (List.mem_of_getElem? hr)
    have hdl := (List.getElem?_eq_some_iff.mp hx).1
    exact h7 p d x (by omega) (by omega) (by omega) (by omega)
section
variable {P : Program} {w : World} {K : PySem.W.Frag} {mg : Str → Option Value} {base : Heap} {C_Person C_House C_Costs C_EvenCosts C_ChangeCosts C_LevelCosts C_Paper C_Places C_Prices : Addr}
local macro_rules | `(tactic| walk_at "lk") => `(tactic| first | exact lPr_floor _ _ | exact lPf _)

theorem law_ok {f : Addr} {fd : FuncData} (tx : Tx K mg C_Person C_House C_Costs C_EvenCosts C_ChangeCosts C_LevelCosts C_Paper C_Places C_Prices) (F : Fun K "law" "law" s_law f fd) : FnOk P w K mg base CX0 14 f fd ["_law_script"] (sp_law K) := by
  have G_law_cell_at := g_law_cell_at (P := P) (w := w) (base := base) tx
  have G_law_kinds := g_law_kinds (P := P) (w := w) (base := base) tx
  have G_law_names := g_law_names (P := P) (w := w) (base := base) tx
  have G_law_row := g_law_row (P := P) (w := w) (base := base) tx
  have G_law_person := g_law_person (P := P) (w := w) (base := base) tx
  have G_law_needs := g_law_needs (P := P) (w := w) (base := base) tx
  have G_law_leave := g_law_leave (P := P) (w := w) (base := base) tx
  have G_law_wishes := g_law_wishes (P := P) (w := w) (base := base) tx
  have G_law_house := g_law_house (P := P) (w := w) (base := base) tx
  have G_law_costs := g_law_costs (P := P) (w := w) (base := base) tx
  have G_law_total := g_law_total (P := P) (w := w) (base := base) tx
  have G_total_of := g_total_of (P := P) (w := w) (base := base) tx
  have G_law_papers := g_law_papers (P := P) (w := w) (base := base) tx
  have M1 := g_floor (P := P) (w := w) (base := base) tx
  have M2 := g_pfl (P := P) (w := w) (base := base) tx
  have M3 := g_plfloor (P := P) (w := w) (base := base) tx
  refine F.ok sc_law (fun vs H Q E h => ?_) (fun cdv A outer s H vs Q E hr h => ?_)
  · obtain ⟨a, ns, rfl, _⟩ := h
    rfl
  · obtain ⟨sc, ns, rfl, hS, hns, q⟩ := h
    refine ⟨_, (pss_cons (ps_set (i := 1) sc_law.nd rfl (Or.inl rfl) (pe_fn G_law_cell_at (hr.mono (by decide)) (pa_cons (pv 0) (pa_cons pe_int pa_nil))))
      (pss_cons (ps_set (i := 2) sc_law.nd rfl (Or.inr rfl) (pe_fn G_law_cell_at (hr.mono (by decide)) (pa_cons (pv 0) (pa_cons pe_int pa_nil))))
      (pss_cons (ps_set (i := 3) sc_law.nd rfl (Or.inr rfl) (pe_op op_add (pe_op op_add pe_int (pe_op op_mod (pv 1) pe_int)) (pe_op op_mul pe_int (pe_callTy call_int1 rfl tx.z_int bt_ty_int (pa_cons (pe_cmpR op_eq (pe_op op_mod (pe_op op_fdiv (pv 1) pe_int) pe_int) pe_int (nomark _)) pa_nil)))))
      (pss_cons (ps_set (i := 4) sc_law.nd rfl (Or.inr rfl) (pe_fn G_law_kinds (hr.mono (by decide)) (pa_cons (pe_op op_fdiv (pv 2) pe_int) (pa_cons (pe_op op_add pe_int (pe_op op_mod (pe_op op_fdiv (pv 1) pe_int) pe_int)) pa_nil))))
      (pss_cons (ps_set (i := 5) sc_law.nd rfl (Or.inr rfl) (pe_slice (sl_listK (K := K) rfl) (pv 0) (po_some pe_int) (po_some pe_int)))
      (pss_cons (ps_set (i := 6) sc_law.nd rfl (Or.inr rfl) (pe_fn G_law_names (hr.mono (by decide)) (pa_cons (pv 2) (pa_cons (pe_callB (call_len_seqK (K := K) rfl) rfl tx.z_len PySem.boot_len (pa_cons (pv 5) pa_nil)) pa_nil))))
      (pss_cons (ps_set (i := 7) sc_law.nd rfl (Or.inr rfl) (pe_comp (osc := defScope s_law) (ON := ["_law_script", "_law_first", "_law_cell", "_law_days", "_law_kinds_here", "_law_cells", "_law_names_here", "_law_rows", "_law_people", "_law_needs_here", "_law_parts", "_law_wishes_here", "_law_house_here", "_law_way", "_law_level", "_law_old", "_law_costs_here", "_law_total_here", "_law_paper", "_law_floor"]) (N := ["_law_one", "_law_kinds_here", "_law_days"]) (js := [none, some 4, some 3]) ⟨rfl, by decide +kernel, by decide +kernel, by decide +kernel, rfl, by decide +kernel⟩ rfl rfl rfl (pi_listK (K := K) rfl (pv 5)) (fun _ _ _ _ _ => pg_name (i := 0) (show List.Nodup (["_law_one", "_law_kinds_here", "_law_days"] : List Str) from by decide +kernel) rfl (Or.inl rfl)) (fun _ _ _ _ _ => pifs_nil) (fun _ _ _ _ _ => (pe_fn G_law_row (hr.mono (by decide)) (pa_cons (pv 0) (pa_cons (pv 1) (pa_cons (pv 2) pa_nil)))))))
      (pss_cons (ps_setC (k := 8) (osc := defScope s_law) (ON := ["_law_script", "_law_first", "_law_cell", "_law_days", "_law_kinds_here", "_law_cells", "_law_names_here", "_law_rows", "_law_people", "_law_needs_here", "_law_parts", "_law_wishes_here", "_law_house_here", "_law_way", "_law_level", "_law_old", "_law_costs_here", "_law_total_here", "_law_paper", "_law_floor"]) (N := ["_law_k", "_law_kinds_here", "_law_cells", "_law_names_here", "_law_rows", "_law_cell"]) (js := [none, some 4, some 5, some 6, some 7, some 2]) sc_law.nd rfl (Or.inl rfl) ⟨rfl, by decide +kernel, by decide +kernel, by decide +kernel, rfl, by decide +kernel⟩ rfl rfl rfl (pi_range1 rfl tx.z_range (pa_cons (pe_callB (call_len_seqK (K := K) rfl) rfl tx.z_len PySem.boot_len (pa_cons (pv 5) pa_nil)) pa_nil)) (fun _ _ _ _ _ => pg_name (i := 0) (show List.Nodup (["_law_k", "_law_kinds_here", "_law_cells", "_law_names_here", "_law_rows", "_law_cell"] : List Str) from by decide +kernel) rfl (Or.inl rfl)) (fun _ _ _ _ _ => pifs_nil) (fun _ _ _ _ _ => (pe_fn G_law_person (hr.mono (by decide)) (pa_cons (pe_ix (ix_listK (K := K) rfl) (pv 2) (pv 0) (fun _ _ => rfl)) (pa_cons (pe_ix (ix_listK (K := K) rfl) (pv 3) (pv 0) (fun _ _ => rfl)) (pa_cons (pe_ix (ix_listK (K := K) rfl) (pv 4) (pv 0) (fun _ _ => rfl)) (pa_cons (pv 1) (pa_cons (pe_op op_mod (pv 5) (pe_op op_pow pe_int pe_int)) pa_nil))))))))
      (pss_cons (ps_set (i := 9) sc_law.nd rfl (Or.inl rfl) (pe_fn G_law_needs (hr.mono (by decide)) (pa_cons (pe_fn G_law_cell_at (hr.mono (by decide)) (pa_cons (pv 0) (pa_cons pe_int pa_nil))) (pa_cons (pv 4) (pa_cons (pv 3) (pa_cons (pv 7) pa_nil))))))
      (pss_cons (ps_set (i := 10) sc_law.nd rfl (Or.inl rfl) (pe_tup (pa_cons (pv 3) (pa_cons (pv 4) (pa_cons (pv 9) (pa_cons (pv 8) (pa_cons (pe_fn G_law_leave (hr.mono (by decide)) (pa_cons (pv 5) (pa_cons (pv 6) (pa_cons (pv 7) pa_nil)))) pa_nil)))))))
      (pss_cons (ps_set (i := 11) sc_law.nd rfl (Or.inl rfl) (pe_fn G_law_wishes (hr.mono (by decide)) (pa_cons (pe_slice (sl_listK (K := K) rfl) (pv 0) (po_some pe_int) (po_some pe_int)) (pa_cons (pv 4) (pa_cons (pv 3) (pa_cons (pe_callB (call_len_seqK (K := K) rfl) rfl tx.z_len PySem.boot_len (pa_cons (pv 8) pa_nil)) pa_nil))))))
      (pss_cons (ps_set (i := 12) sc_law.nd rfl (Or.inl rfl) (pe_fn G_law_house (hr.mono (by decide)) (pa_cons (pv 10) (pa_cons (pv 11) pa_nil))))
      (pss_cons (ps_set (i := 13) sc_law.nd rfl (Or.inl rfl) (pe_op op_mod (pe_op op_fdiv (pv 1) pe_int) pe_int))
      (pss_cons (ps_set (i := 14) sc_law.nd rfl (Or.inl rfl) (pe_op op_add (pe_op op_sub (pe_op op_mod (pe_op op_fdiv (pv 2) pe_int) pe_int) pe_int) (pe_op op_mul (pe_op op_mod (pe_op op_fdiv (pv 2) pe_int) pe_int) (pe_op op_mod (pv 2) (pe_op op_pow pe_int pe_int)))))
      (pss_cons (ps_setC (k := 15) (osc := defScope s_law) (ON := ["_law_script", "_law_first", "_law_cell", "_law_days", "_law_kinds_here", "_law_cells", "_law_names_here", "_law_rows", "_law_people", "_law_needs_here", "_law_parts", "_law_wishes_here", "_law_house_here", "_law_way", "_law_level", "_law_old", "_law_costs_here", "_law_total_here", "_law_paper", "_law_floor"]) (N := ["_law_p", "_law_kinds_here", "_law_days", "_law_cell"]) (js := [none, some 4, some 3, some 2]) sc_law.nd rfl (Or.inl rfl) ⟨rfl, by decide +kernel, by decide +kernel, by decide +kernel, rfl, by decide +kernel⟩ rfl rfl rfl (pi_range1 rfl tx.z_range (pa_cons (pe_callB (call_len_seqK (K := K) rfl) rfl tx.z_len PySem.boot_len (pa_cons (pv 7) pa_nil)) pa_nil)) (fun _ _ _ _ _ => pg_name (i := 0) (show List.Nodup (["_law_p", "_law_kinds_here", "_law_days", "_law_cell"] : List Str) from by decide +kernel) rfl (Or.inl rfl)) (fun _ _ _ _ _ => pifs_nil) (fun _ _ _ _ _ => (pe_fn G_law_row (hr.mono (by decide)) (pa_cons (pe_op op_add (pe_op op_fdiv (pv 3) pe_int) (pe_op op_mul pe_int (pv 0))) (pa_cons (pv 1) (pa_cons (pv 2) pa_nil))))))
      (pss_cons (ps_set (i := 16) sc_law.nd rfl (Or.inl rfl) (pe_fn G_law_costs (hr.mono (by decide)) (pa_cons (pv 13) (pa_cons (pv 12) (pa_cons (pv 14) (pa_cons (pv 15) pa_nil))))))
      (pss_cons (ps_set (i := 17) sc_law.nd rfl (Or.inl rfl) (pe_fn G_law_total (hr.mono (by decide)) (pa_cons (pv 13) (pa_cons (pv 10) (pa_cons (pv 11) (pa_cons (pv 7) (pa_cons (pv 14) (pa_cons (pv 15) pa_nil))))))))
      (pss_cons (ps_if (pt_cmpR op_ne (pe_fn G_total_of (hr.mono (by decide)) (pa_cons (pv 12) (pa_cons (pv 16) (pa_cons (pe_callTy call_list_of rfl tx.z_list bt_ty_list (pa_cons (pv 7) pa_nil)) pa_nil)))) (pv 17) (nomark _)) (pss_one (ps_ret pe_bl)) pss_nil)
      (pss_cons (ps_for PassesOwn.never rfl (pi_listK (K := K) rfl (pe_fn G_law_papers (hr.mono (by decide)) (pa_cons (pe_fn G_law_cell_at (hr.mono (by decide)) (pa_cons (pv 0) (pa_cons pe_int pa_nil))) (pa_cons (pv 10) pa_nil)))) (pg_name (i := 18) sc_law.nd rfl (Or.inl rfl)) (pss_cons (ps_if (pt_not (pt_val (pe_callB (call_isOwn (K := K) rfl) rfl tx.z_isinstance bt_isinstance (pa_cons (pv 18) (pa_cons (pe_glob (v := .ref C_Paper) rfl tx.c_Paper.mg rfl) pa_nil))))) (pss_one (ps_ret pe_bl)) pss_nil)
      (pss_cons (ps_set (i := 19) sc_law.nd rfl (Or.inl rfl) (pe_mtD (P := P) (w := w) (K := K) (mg := mg) (base := base) hr (pv 18) (pa_cons (pv 12) (pa_cons (pv 16) pa_nil)) rfl rfl rfl rfl rfl))
      (pss_one (ps_if (PW.pt (pw_or (pt_not (pt_val (pe_callB call_isBl rfl tx.z_isinstance bt_isinstance (pa_cons (pv 19) (pa_cons (pe_ty tx.z_int bt_ty_int) pa_nil))))) (pw_or (pt_val (pe_callB call_isBl rfl tx.z_isinstance bt_isinstance (pa_cons (pv 19) (pa_cons (pe_ty tx.z_bool bt_ty_bool) pa_nil)))) (pw_or1 (pt_cmpR op_gt (pv 19) (pv 17) (nomark _)))))) (pss_one (ps_ret pe_bl)) pss_nil)))))
      (pss_one (ps_ret pe_bl))))))))))))))))))))), ?_⟩
    walk_at "st"
    clear G_law_cell_at G_law_kinds G_law_names G_law_row G_law_person G_law_needs G_law_leave G_law_wishes G_law_house G_law_costs G_law_total G_total_of G_law_papers
    have f0 : 0 ≤ cellF ns 0 % 4 := Int.emod_nonneg _ (by decide)
    have f1 : cellF ns 0 % 4 < 4 := Int.emod_lt_of_pos _ (by decide)
    have g0 : 0 ≤ cellF ns 0 / 4 % 3 := Int.emod_nonneg _ (by decide)
    have g1 : cellF ns 0 / 4 % 3 < 3 := Int.emod_lt_of_pos _ (by decide)
    walk_at "rd"
    refine Or.inr ⟨_, rfl, ?_⟩
    walk_at "rd"
    have hdd : ∃ dd : Int, dd = 1 + cellF ns 0 % 4 + 3 * (if decide (V.int (cellF ns 0 / 12 % 8) = V.int 1) = true then 1 else 0) ∧ 1 ≤ dd ∧ dd ≤ 7 := ⟨_, rfl, by split <;> omega, by split <;> omega⟩
    obtain ⟨dd, edd, dd1, dd7⟩ := hdd
    rw [← edd]
    intro ks H1 s1 hkl hkn hk45
    have hS1 := s1.seq hS
    walk_at "rd"
    intro cl fcl
    rw [cutVm]
    have hcl := cut_span5 ns
    generalize cutN ns (some 3) (some 8) = cs at hcl ⊢
    obtain ⟨H2, e2, ycl, s2⟩ := newl (xs := cs.map V.int) fcl
    rw [← e2]
    have hS2 := s2.seq hS1
    have tc : (cs.map V.int).length = cs.length := List.length_map _
    walk_at "rd"
    rw [tc]
    walk_at "rd"
    intro nl0 H3 nms s3 fnl0 hnl0 hnn hnU
    have hS3 := s3.seq hS2
    have ycl3 := s3 _ _ ycl
    have hkl3 : ks.length ≤ 3 := by omega
    have qcl3 : SqL K H3 cl (cs.map V.int) := SqL.of ycl3
    walk_at "rd"
    refine comp_hands cs (fun _ => true) (fun _ y _ => ∃ r : List Nat, y = T r ∧ ((r.length : Int) = dd ∧ ∀ c ∈ r, c ∈ ks ∨ c = 45)) (fun σ => ∃ v, σ = [v, some (T ks), some (.int dd)]) (hands_list (SqL.of ycl3)) (by rw [List.length_map]) (by omega) ⟨_, rfl⟩ (fun _ _ _ _ _ z => z) (fun i a v σ H' ha hv hσ s' Rf Rt _ hR => ?_) (fun rl H4 ys nrl s4 hys hrl => ?_)
    · obtain ⟨w1, rfl⟩ := hσ
      rw [List.getElem?_map, ha] at hv
      cases hv
      walk_at "rd"
      intro row H5 s5 hl5 hc5
      exact hR _ _ _ rfl ⟨_, rfl⟩ s5 ⟨row, rfl, hl5, hc5⟩
    rw [List.filter_eq_self.mpr fun _ _ => rfl] at hys
    have hyl := hys.len
    obtain ⟨rows, rfl, hrows⟩ := rows_of (ys := ys) (C := fun r => (r.length : Int) = dd ∧ ∀ c ∈ r, c ∈ ks ∨ c = 45) fun y hy => by
      obtain ⟨j, hj⟩ := List.getElem?_of_mem hy
      obtain ⟨_, _, z⟩ := hys.back hj
      exact z
    rw [List.length_map] at hyl
    have hS4 := s4.seq hS3
    have ycl4 := s4 _ _ ycl3
    have hnl4 := s4 _ _ hnl0
    have p39 : CPow 10 39 := ⟨by decide, by decide, by decide⟩
    have p39' : (0 : Int) < 10 ^ (39 : Int).toNat := by decide
    obtain ⟨far, efar, far0, far1⟩ : ∃ far : Int, cellF ns 1 % 10 ^ (39 : Int).toNat = far ∧ 0 ≤ far ∧ far < 10 ^ (39 : Int).toNat := ⟨_, rfl, Int.emod_nonneg _ (by decide), Int.emod_lt_of_pos _ p39'⟩
    clear hys hS hS1 hS2 hS3 ycl ycl3 e2 fcl hnl0 s1 s2 s3 s4 nrl qcl3
    walk_at "rd"
    rw [tc]
    walk_at "rd"
    have tcs : (((cs.length : Nat) : Int)).toNat = cs.length := Int.toNat_natCast _
    rw [tcs]
    refine comp_hands (List.range cs.length) (fun _ => true) (fun (k : Nat) y H => ∃ p : Ps, Ps4 p y H ∧ (nms[k]? = some p.nm ∧ p.past = [] ∧ (∃ row, rows[k]? = some row ∧ (∀ c ∈ row, c ≠ 45 → c ∈ p.sk) ∧ (dut row : Int) ≤ p.most) ∧ p.most ≤ 9 ∧ 0 ≤ p.car ∧ p.car < 2 ^ 200)) (fun σ => ∃ v, σ = [v, some (T ks), some (.ref cl), some (.ref nl0), some (.ref rl), some (.int (cellF ns 1))]) (hands_range 0 cs.length) (by rw [List.length_map]) (by rw [List.length_range]; omega) ⟨_, rfl⟩ (fun _ y Ha Hb k ⟨p, h, c⟩ => ⟨p, Ps4.keeps p y Ha Hb k h, c⟩) (fun i a v σ H' ha hv hσ s' Rf Rt _ hR => ?_) (fun pl H5 ys npl s5 hys hpl => ?_)
    · obtain ⟨w1, rfl⟩ := hσ
      rw [List.getElem?_map, ha] at hv
      cases hv
      obtain ⟨ea, hal⟩ := range_at ha
      have hal' : a < cs.length := by omega
      have c1 : atI (cs.map V.int) (0 + (a : Int)) = some (.int cs[a]) := by rw [Int.zero_add]; exact atI_nat (by rw [List.getElem?_map, List.getElem?_eq_getElem hal']; rfl)
      have n1 : nms[a]? = some (nms[a]'(by omega)) := List.getElem?_eq_getElem (by omega)
      have r1 : rows[a]? = some (rows[a]'(by omega)) := List.getElem?_eq_getElem (by omega)
      generalize nms[a]'(by omega) = nm at n1
      generalize rows[a]'(by omega) = row at r1
      have n2 : atI (nms.map T) (0 + (a : Int)) = some (T nm) := by rw [Int.zero_add]; exact atI_nat (by rw [List.getElem?_map, n1]; rfl)
      have r2 : atI (rows.map T) (0 + (a : Int)) = some (T row) := by rw [Int.zero_add]; exact atI_nat (by rw [List.getElem?_map, r1]; rfl)
      obtain ⟨hrow1, hrow2⟩ := hrows row (List.mem_of_getElem? r1)
      have hrow7 : row.length ≤ 7 := by omega
      have a1 := s' _ _ ycl4
      have a2 := s' _ _ hnl4
      have a3 := s' _ _ hrl
      rw [← efar] at far0 far1
      walk_at "rd"
      intro t H6 p s6 ht hpn hpast hpk hpd hp9 hc0 hc1
      exact hR _ _ _ rfl ⟨_, rfl⟩ s6 ⟨p, ⟨t, rfl, ht⟩, by rw [hpn]; exact n1, hpast, ⟨row, r1, hpk, hpd⟩, hp9, hc0, hc1⟩
    rw [List.filter_eq_self.mpr fun _ _ => rfl] at hys
    have hpl5 := hys.len
    rw [List.length_range] at hpl5
    obtain ⟨ps, aP, hps⟩ := pick4 (H := H5) (ys := ys) (C := fun k p => nms[k]? = some p.nm ∧ p.past = [] ∧ (∃ row, rows[k]? = some row ∧ (∀ c ∈ row, c ≠ 45 → c ∈ p.sk) ∧ (dut row : Int) ≤ p.most) ∧ p.most ≤ 9 ∧ 0 ≤ p.car ∧ p.car < 2 ^ 200) fun j y hy => by
      obtain ⟨a, ha, p, h1, h2⟩ := hys.back hy
      rw [(range_at ha).1] at h2
      exact ⟨p, h1, h2⟩
    have hpsl := aP.len
    have hS5 := s5.seq hS4
    have ycl5 := s5 _ _ ycl4
    have hnl5 := s5 _ _ hnl4
    have hrl5 := s5 _ _ hrl
    have hrd : ∀ r ∈ rows, (r.length : Int) = dd := fun r hr => (hrows r hr).1
    have hrn5 : rows.length ≤ 5 := by omega
    clear hys hS4 ycl4 hnl4 hrl s5 npl far0 far1 efar
    walk_at "rd"
    intro nl H6 nds xs s6 fnl hnl aN hNd
    have hS6 := s6.seq hS5
    have ycl6 := s6 _ _ ycl5
    have hnl6 := s6 _ _ hnl5
    have hrl6 := s6 _ _ hrl5
    have hpl6 := s6 _ _ hpl
    have qcl6 : SqL K H6 cl (cs.map V.int) := SqL.of ycl6
    have hnn' : nms.length = cs.length := by omega
    have hr7 : ∀ r ∈ rows, r.length ≤ 7 := fun r hr => by have := hrd r hr; omega
    walk_at "rd"
    intro ll H7 ls zs s7 fll hll aL hLv hLl
    have hnl7 := s7 _ _ hnl
    have hpl7 := s7 _ _ hpl6
    have hrl7 := s7 _ _ hrl6
    have hS7 := s7.seq hS6
    have aN7 := aN.imp fun a y => NdAt.keeps a y _ _ s7.keeps
    have aP7 := aP.imp fun a y => Ps4.keeps a y _ _ (s6.trans s7).keeps
    walk_at "rd"
    intro t ft
    have sT := same_new (H := H7) ft (.tup [.int dd, T ks, .ref nl, .ref pl, .ref ll])
    have hP8 : Pt5 (upd H7 t (.tup [.int dd, T ks, .ref nl, .ref pl, .ref ll])) t dd ks nds ps ls nl pl ll xs ys zs := ⟨upd_same, sT _ _ hnl7, aN7.imp fun a y => NdAt.keeps a y _ _ sT.keeps, sT _ _ hpl7, aP7.imp fun a y => Ps4.keeps a y _ _ sT.keeps, sT _ _ hll, aL.imp fun a y => LvT.keeps a y _ _ sT.keeps⟩
    have hrl8 := sT _ _ hrl7
    have hS8 := sT.seq hS7
    generalize upd H7 t (.tup [.int dd, T ks, .ref nl, .ref pl, .ref ll]) = H8 at hP8 hrl8 hS8 ⊢
    clear sT ft hnl7 hpl7 hrl7 hS7 aN7 aP7 hll aL s7 hnl aN hS6 ycl6 hnl6 hrl6 hpl6 qcl6 s6 hS5 ycl5 hnl5 hrl5 hpl aP fnl fll
    have hRota : Rota rows ps ls nds := by
      refine ⟨by omega, fun i p row hp hr => ?_, fun i j p p' hp hp' e => ?_, fun l hl => ?_, fun n hn => ?_⟩
      · obtain ⟨_, _, ⟨row', h1, h2, h3⟩, _⟩ := hps i p hp
        rw [hr] at h1
        cases h1
        exact ⟨h2, h3⟩
      · have a1 := (hps i p hp).1
        have a2 := (hps j p' hp').1
        rw [← e] at a2
        exact hnU i j _ a1 a2
      · obtain ⟨i, row, h1, h2, h3, h4⟩ := hLv l hl
        have hi := (List.getElem?_eq_some_iff.mp h1).1
        have hp : ps[i]? = some (ps[i]'(by omega)) := List.getElem?_eq_getElem (by omega)
        refine ⟨i, _, row, hp, h2, ?_, h3, h4⟩
        have := (hps i _ hp).1
        rw [h1] at this
        exact (Option.some.inj this).symm
      · obtain ⟨k1, k2, k3⟩ := hNd.k n hn
        exact ⟨k2, hk45 _ k1, (hNd.f n hn).1⟩
    have hlr : rows.length = ps.length := hRota.len
    have hpl8 := hP8.p
    have hyl8 : ys.length = cs.length := hpl5
    walk_at "rd"
    intro cl2 fcl2
    rw [cutVm]
    have hc6 := cut814 ns
    generalize cutN ns (some 8) (some 14) = cs2 at hc6 ⊢
    obtain ⟨H9, e9, ycl2, s9⟩ := newl (xs := cs2.map V.int) fcl2
    rw [← e9]
    have hpl9 := s9 _ _ hpl8
    have qcl2 : SqL K H9 cl2 (cs2.map V.int) := SqL.of ycl2
    have ym0 : (0 : Int) ≤ (ys.length : Int) := by omega
    have ym5 : (ys.length : Int) ≤ 5 := by omega
    walk_at "rd"
    intro wl Ha W ws sa fwl hwl aW hW6 hWk
    have Sa := s9.trans sa
    have hPa := hP8.same Sa
    have hcs : CsOk dd ps W := by
      refine ⟨dd7, by omega, fun p hp => ?_, fun p hp => ?_, hRota.nms, hW6, fun w hw => ?_⟩
      · obtain ⟨j, hj⟩ := List.getElem?_of_mem hp
        exact (hps j p hj).2.2.2.2
      · obtain ⟨j, hj⟩ := List.getElem?_of_mem hp
        exact (hps j p hj).2.1
      · obtain ⟨a, b, c⟩ := hWk w hw
        exact ⟨by omega, b, c⟩
    walk_at "rd"
    intro ho Hb sb hKb hQb
    have Sb := Sa.trans sb
    have hrlb := Sb _ _ hrl8
    have hSb := Sb.seq hS8
    have hPb := hPa.same sb
    have hwlb := sb _ _ hwl
    have aWb := aW.imp fun a y => WiP.keeps a y _ _ sb.keeps
    have cm : CMul (cellF ns 1 / 27 % 2) (cellF ns 1 % 10 ^ (39 : Int).toNat) := .inl ⟨by omega, by omega⟩
    have tr : (rows.map T).length = rows.length := List.length_map _
    clear hPa hwl aW hP8 hrl8 hS8 hpl8 hpl9 qcl2 ycl2 fcl2 s9 sa Sa sb Sb
    walk_at "rd"
    generalize cellF ns 0 / 96 % 4 = way
    obtain ⟨lv, elv⟩ : ∃ lv : Int, cellF ns 1 / 3 % 9 - 4 + cellF ns 1 / 27 % 2 * (cellF ns 1 % 10 ^ (39 : Int).toNat) = lv := ⟨_, rfl⟩
    rw [elv, tr]
    have trs : (((rows.length : Nat) : Int)).toNat = rows.length := Int.toNat_natCast _
    rw [trs]
    refine comp_hands (List.range rows.length) (fun _ => true) (fun _ y _ => ∃ r : List Nat, y = T r ∧ (r.length : Int) = dd) (fun σ => ∃ v, σ = [v, some (T ks), some (.int dd), some (.int (cellF ns 1))]) (hands_range 0 rows.length) (by rw [List.length_map]) (by rw [List.length_range]; omega) ⟨_, rfl⟩ (fun _ _ _ _ _ z => z) (fun i a v σ H' ha hv hσ s' Rf Rt _ hR => ?_) (fun ol Hc us nol sc' hus hol => ?_)
    · obtain ⟨w1, rfl⟩ := hσ
      rw [List.getElem?_map, ha] at hv
      cases hv
      walk_at "rd"
      intro row H3 s3 hl3 hc3
      exact hR _ _ _ rfl ⟨_, rfl⟩ s3 ⟨row, rfl, hl3⟩
    rw [List.filter_eq_self.mpr fun _ _ => rfl] at hus
    have hul := hus.len
    obtain ⟨old, rfl, hor⟩ := rows_of (ys := us) (C := fun r => (r.length : Int) = dd) fun y hy => by
      obtain ⟨j, hj⟩ := List.getElem?_of_mem hy
      obtain ⟨_, _, z⟩ := hus.back hj
      exact z
    rw [List.length_map, List.length_range] at hul
    have hon : old.length = ps.length := by omega
    have hSc := sc'.seq hSb
    have hPc := hPb.same sc'
    have hKc := hKb.same sc'
    have hQc := hQb.same sc'
    have hrlc := sc' _ _ hrlb
    have hwlc := sc' _ _ hwlb
    have aWc := aWb.imp fun a y => WiP.keeps a y _ _ sc'.keeps
    clear hus hul hSb hPb hKb hQb hrlb hwlb aWb sc' nol
    walk_at "rd"
    intro c Hd sd hC
    have hSd := sd.seq hSc
    have hPd := hPc.same sd
    have hKd := hKc.same sd
    have hrld := sd _ _ hrlc
    have hwld := sd _ _ hwlc
    have hold := sd _ _ hol
    have aWd := aWc.imp fun a y => WiP.keeps a y _ _ sd.keeps
    clear hSc hPc hKc hQc hrlc hwlc hol aWc sd
    walk_at "rd"
    intro He se
    have hSe := se.seq hSd
    have hPe := hPd.same se
    have hKe := hKd.same se
    have hCe := hC.same se
    have hrle := se _ _ hrld
    have hI : SqL K He rl (rows.map T) ∨ SqT K He rl (rows.map T) := .inl (SqL.of hrle)
    obtain ⟨tot, etot⟩ : ∃ tot, totN (fT way W ps lv) (gT way W old) rows rows.length = tot := ⟨_, rfl⟩
    have tot0 : 0 ≤ tot := by rw [← etot]; exact tot_nonneg _ _ _ _ _ _ _
    rw [etot]
    clear hSd hPd hKd hC hrld hwld hold aWd se
    walk_at "rd"
    intro l fl
    obtain ⟨Hf, ef, yl, sf⟩ := newl (xs := rows.map T) fl
    rw [← ef]
    have hCf := hCe.same sf
    have hAt := hCf.at hlr hrd dd7
    have hr1000 : ∀ x ∈ rows, x.length ≤ 1000 := fun r hr => by have := hr7 r hr; omega
    walk_at "rd"
    intro Hg sg
    have Sg := sf.trans sg
    have hSg := Sg.seq hSe
    have hPg := hPe.same Sg
    have hKg := hKe.same Sg
    have hCg := hCe.same Sg
    have dd' : decide (V.int tot = V.int tot) = true := decide_eq_true rfl
    have etot' : totN (fun p row => cntC way W ps lv (p : Int) (dut row : Int)) (fun p d c => mrkC way W old (p : Int) (d : Int) c) rows rows.length = tot := etot
    rw [etot']
    clear hSe hPe hKe hCe hrle hI sf sg Sg hAt hCf yl ef fl
    walk_at "rd"
    rw [dd']
    have n21 := hNd.l
    have p5 : ps.length ≤ 5 := by omega
    walk_at "rd"
    intro pa Hh us sh hpa hPp
    have hKh := hKg.same sh
    have hCh := hCg.same sh
    have qpa : SqL K Hh pa us := SqL.of hpa
    have hU := hNd.u
    have hsm : ∀ n ∈ nds, (-(2 ^ 64) < n.least ∧ n.least < 2 ^ 64) ∧ (-(2 ^ 64) < n.most ∧ n.most < 2 ^ 64) := fun n hn => by
      obtain ⟨⟨f0, f1⟩, f2, f3⟩ := hNd.f n hn
      exact ⟨⟨by omega, by omega⟩, ⟨by omega, by omega⟩⟩
    have hpm : ∀ n ∈ ps, 0 ≤ n.most ∧ n.most ≤ 9 := fun n hn => by
      obtain ⟨j, hj⟩ := List.getElem?_of_mem hn
      obtain ⟨_, _, ⟨row, _, _, hm⟩, h9, _⟩ := hps j n hj
      exact ⟨by omega, h9⟩
    have dd0 : 0 ≤ dd := by omega
    have hOk : PlOk ks nds ps := ⟨hkl3, n21, p5, hU, fun n hn => (hNd.k n hn).1⟩
    have hWeak : ∀ prs ods : List Int, floorF (cntC way W ps lv) (mrkC way W old) dd ks nds ps ls prs ods ≤ tot := fun prs ods => by
      rw [← etot']
      refine weak hRota hU (fun n hn => (hNd.k n hn).1) (fun r hr => by have := hrd r hr; omega) fun r hr j c hj hc => ?_
      have hin := ((hrows r hr).2 c (List.mem_of_getElem? hj)).resolve_right hc
      have hjl := (List.getElem?_eq_some_iff.mp hj).1
      have := hrd r hr
      exact hNd.a j c (by omega) hin ⟨r, hr, hj⟩
    clear hPg hSg hCg hKg etot etot' hNd
    refine ⟨pa, rfl, ⟨_, qpa⟩, ?_⟩
    refine for_list (K := K) (xs := us) (fun i σ Hi => Here (∃ v18 v19, σ = [some (.ref sc), some (.int (cellF ns 0)), some (.int (cellF ns 1)), some (.int dd), some (T ks), some (.ref cl), some (.ref nl0), some (.ref rl), some (.ref pl), some (.ref nl), some (.ref t), some (.ref wl), some (.ref ho), some (.int way), some (.int lv), some (.ref ol), some (.ref c), some (.int tot), v18, v19] ∧ Same Hh Hi)) (Here.mk ⟨_, _, rfl, Same.refl _⟩) (fun i σ Hi _ hv => by obtain ⟨_, _, _, si⟩ := hv.out; exact SqL.of (si _ _ hpa)) ?_ ?_
    · rintro i x σ Hi hx hv
      obtain ⟨v18, v19, rfl, si⟩ := hv.out
      have hKi := hKh.same si
      have hCi := hCh.same si
      rcases (hPp x (List.mem_of_getElem? hx)).same si with ⟨pp, dx, a, b, prs, ods, rfl, h1, h2, h3⟩ | ⟨pp, dx, rfl, h1⟩ | ⟨pp, dx, a, pc, as, rfl, h1, h2, h3, h4⟩
      · have y1 := tx.y_Prices
        have y2 := tx.i_Prices_Paper
        have l1 := lPr_floor (V.ref a) (V.ref b)
        have k1 : 4 ≤ 9 := by decide
        have hle : (if prs.length = ps.length ∧ ods.length = nds.length then floorF (cntC way W ps lv) (mrkC way W old) dd ks nds ps ls prs ods else 0) ≤ tot := by
          split
          · exact hWeak _ _
          · exact tot0
        walk_at "rd"
        intro Hj sj
        generalize (if prs.length = ps.length ∧ ods.length = nds.length then floorF (cntC way W ps lv) (mrkC way W old) dd ks nds ps ls prs ods else 0) = z at hle ⊢
        have hgt : decide (tot < z) = false := decide_eq_false (by omega)
        walk_at "rd"
        rw [hgt]
        walk_at "rd"
        exact Here.mk ⟨_, _, rfl, si.trans sj⟩
      · have y1 := tx.y_Paper
        have y2 := tx.i_Paper_Paper
        have l1 : List.lookup ("floor" : Str) ([] : List (Str × V)) = none := rfl
        have k1 : 1 ≤ 9 := by decide
        have hgt : decide (tot < 0) = false := decide_eq_false (by omega)
        walk_at "rd"
        rw [hgt]
        walk_at "rd"
        exact Here.mk ⟨_, _, rfl, si⟩
      · have y1 := tx.y_Places
        have y2 := tx.i_Places_Paper
        have l1 := lPf (V.ref a)
        have k1 : 4 ≤ 9 := by decide
        have hgt : decide (tot < 0) = false := decide_eq_false (by omega)
        have hfr := fair hRota hU (inP pc)
        walk_at "rd"
        intro Hj sj
        rw [if_neg (Int.not_lt.mpr hfr)]
        walk_at "rd"
        rw [hgt]
        walk_at "rd"
        exact Here.mk ⟨_, _, rfl, si.trans sj⟩
    · rintro σ Hi hv
      obtain ⟨v18, v19, rfl, si⟩ := hv.out
      walk_at "rd"
      exact q _
end

theorem all_mk {l : PySem.W.OpenLaw} {w : World} {K : PySem.W.Frag} {h : Heap} {mg : Str → Option Value} {fa C_Person C_House C_Costs C_EvenCosts C_ChangeCosts C_LevelCosts C_Paper C_Places C_Prices q1 q2 q3 q4 q5 q6 q7 q8 q9 q10 q11 q12 q13 q14 q15 q16 q17 q18 q19 q20 q21 q22 q23 q24 q25 q26 q27 q28 q29 q30 q31 q32 q33 q34 q35 q36 q37 q38 q39 q40 q41 q42 q43 q44 q45 q46 : Addr} (X : K.In h) (G : h.Ns mainGlobals mg) (hfa : mg "law" = some (.ref fa))
    {od1 an1 od2 an2 od3 an3 od4 an4 od5 an5 od6 an6 od7 an7 od8 an8 od9 an9 od10 an10 od11 an11 od12 an12 od13 an13 od14 an14 od15 an15 od16 an16 od17 an17 od18 an18 od19 an19 od20 an20 od21 an21 od22 an22 od23 an23 od24 an24 od25 an25 od26 an26 od27 an27 od28 an28 od29 an29 od30 an30 od31 an31 od32 an32 od33 an33 od34 an34 od35 an35 od36 an36 od37 an37 od38 an38 od39 an39 od40 an40 od41 an41 od42 an42 od43 an43 od44 an44 od45 an45 od46 an46 : Option Addr} {sl1 sl2 sl3 sl4 sl5 sl6 sl7 sl8 sl9 sl10 sl11 sl12 sl13 sl14 sl15 sl16 sl17 sl18 sl19 sl20 sl21 sl22 sl23 sl24 sl25 sl26 sl27 sl28 sl29 sl30 sl31 sl32 sl33 sl34 sl35 sl36 sl37 sl38 sl39 sl40 sl41 sl42 sl43 sl44 sl45 sl46 : Array (Option Value)} {oc1 kV1 dc1 pm1 cd1 ct1 oc2 kV2 dc2 pm2 cd2 ct2 oc3 kV3 dc3 pm3 cd3 ct3 oc4 kV4 dc4 pm4 cd4 ct4 oc5 kV5 dc5 pm5 cd5 ct5 oc6 kV6 dc6 pm6 cd6 ct6 oc7 kV7 dc7 pm7 cd7 ct7 oc8 kV8 dc8 pm8 cd8 ct8 oc9 kV9 dc9 pm9 cd9 ct9 oc10 kV10 dc10 pm10 cd10 ct10 oc11 kV11 dc11 pm11 cd11 ct11 oc12 kV12 dc12 pm12 cd12 ct12 oc13 kV13 dc13 pm13 cd13 ct13 oc14 kV14 dc14 pm14 cd14 ct14 oc15 kV15 dc15 pm15 cd15 ct15 oc16 kV16 dc16 pm16 cd16 ct16 oc17 kV17 dc17 pm17 cd17 ct17 oc18 kV18 dc18 pm18 cd18 ct18 oc19 kV19 dc19 pm19 cd19 ct19 oc20 kV20 dc20 pm20 cd20 ct20 oc21 kV21 dc21 pm21 cd21 ct21 oc22 kV22 dc22 pm22 cd22 ct22 oc23 kV23 dc23 pm23 cd23 ct23 oc24 kV24 dc24 pm24 cd24 ct24 oc25 kV25 dc25 pm25 cd25 ct25 oc26 kV26 dc26 pm26 cd26 ct26 oc27 kV27 dc27 pm27 cd27 ct27 oc28 kV28 dc28 pm28 cd28 ct28 oc29 kV29 dc29 pm29 cd29 ct29 oc30 kV30 dc30 pm30 cd30 ct30 oc31 kV31 dc31 pm31 cd31 ct31 oc32 kV32 dc32 pm32 cd32 ct32 oc33 kV33 dc33 pm33 cd33 ct33 oc34 kV34 dc34 pm34 cd34 ct34 oc35 kV35 dc35 pm35 cd35 ct35 oc36 kV36 dc36 pm36 cd36 ct36 oc37 kV37 dc37 pm37 cd37 ct37 oc38 kV38 dc38 pm38 cd38 ct38 oc39 kV39 dc39 pm39 cd39 ct39 oc40 kV40 dc40 pm40 cd40 ct40 oc41 kV41 dc41 pm41 cd41 ct41 oc42 kV42 dc42 pm42 cd42 ct42 oc43 kV43 dc43 pm43 cd43 ct43 oc44 kV44 dc44 pm44 cd44 ct44 oc45 kV45 dc45 pm45 cd45 ct45 oc46 kV46 dc46 pm46 cd46 ct46 : Value}
    (g_Person : PySem.W.nsIn K mainGlobals "Person" = some (some (.ref C_Person)))
    (g_House : PySem.W.nsIn K mainGlobals "House" = some (some (.ref C_House)))
    (g_Costs : PySem.W.nsIn K mainGlobals "Costs" = some (some (.ref C_Costs)))
    (g_EvenCosts : PySem.W.nsIn K mainGlobals "EvenCosts" = some (some (.ref C_EvenCosts)))
    (g_ChangeCosts : PySem.W.nsIn K mainGlobals "ChangeCosts" = some (some (.ref C_ChangeCosts)))
    (g_LevelCosts : PySem.W.nsIn K mainGlobals "LevelCosts" = some (some (.ref C_LevelCosts)))
    (g_Paper : PySem.W.nsIn K mainGlobals "Paper" = some (some (.ref C_Paper)))
    (g_Places : PySem.W.nsIn K mainGlobals "Places" = some (some (.ref C_Places)))
    (g_Prices : PySem.W.nsIn K mainGlobals "Prices" = some (some (.ref C_Prices)))
    (a1 : PySem.W.findIn K (.ref C_Person) "__init__" = some (some (.ref q1)))
    (i1 : PySem.W.isFn K (.ref q1) = true)
    (l1 : K.lookup q1 = some ⟨oc1, od1, .func (PySem.W.fnOf "__init__" "Person.__init__" (defArgs s_Person_init) (defBody s_Person_init) (defScope s_Person_init) .none kV1 dc1 pm1 an1 cd1 ct1), sl1⟩)
    (c1 : PySem.W.codeIn K cd1 "Person.__init__" = true)
    (k1 : PySem.W.keepIn K (.ref q1) = true)
    (a2 : PySem.W.findIn K (.ref C_House) "__init__" = some (some (.ref q2)))
    (i2 : PySem.W.isFn K (.ref q2) = true)
    (l2 : K.lookup q2 = some ⟨oc2, od2, .func (PySem.W.fnOf "__init__" "House.__init__" (defArgs s_House_init) (defBody s_House_init) (defScope s_House_init) .none kV2 dc2 pm2 an2 cd2 ct2), sl2⟩)
    (c2 : PySem.W.codeIn K cd2 "House.__init__" = true)
    (k2 : PySem.W.keepIn K (.ref q2) = true)
    (a3 : PySem.W.findIn K (.ref C_House) "place_of" = some (some (.ref q3)))
    (i3 : PySem.W.isFn K (.ref q3) = true)
    (l3 : K.lookup q3 = some ⟨oc3, od3, .func (PySem.W.fnOf "place_of" "House.place_of" (defArgs s_House_place_of) (defBody s_House_place_of) (defScope s_House_place_of) .none kV3 dc3 pm3 an3 cd3 ct3), sl3⟩)
    (c3 : PySem.W.codeIn K cd3 "House.place_of" = true)
    (k3 : PySem.W.keepIn K (.ref q3) = true)
    (a4 : PySem.W.nsIn K mainGlobals "burdens_of" = some (some (.ref q4)))
    (l4 : K.lookup q4 = some ⟨oc4, od4, .func (PySem.W.fnOf "burdens_of" "burdens_of" (defArgs s_burdens_of) (defBody s_burdens_of) (defScope s_burdens_of) .none kV4 dc4 pm4 an4 cd4 ct4), sl4⟩)
    (c4 : PySem.W.codeIn K cd4 "burdens_of" = true)
    (k4 : PySem.W.keepIn K (.ref q4) = true)
    (a5 : PySem.W.nsIn K mainGlobals "wishes_by_place" = some (some (.ref q5)))
    (l5 : K.lookup q5 = some ⟨oc5, od5, .func (PySem.W.fnOf "wishes_by_place" "wishes_by_place" (defArgs s_wishes_by_place) (defBody s_wishes_by_place) (defScope s_wishes_by_place) .none kV5 dc5 pm5 an5 cd5 ct5), sl5⟩)
    (c5 : PySem.W.codeIn K cd5 "wishes_by_place" = true)
    (k5 : PySem.W.keepIn K (.ref q5) = true)
    (a6 : PySem.W.findIn K (.ref C_EvenCosts) "__init__" = some (some (.ref q6)))
    (i6 : PySem.W.isFn K (.ref q6) = true)
    (l6 : K.lookup q6 = some ⟨oc6, od6, .func (PySem.W.fnOf "__init__" "EvenCosts.__init__" (defArgs s_EvenCosts_init) (defBody s_EvenCosts_init) (defScope s_EvenCosts_init) .none kV6 dc6 pm6 an6 cd6 ct6), sl6⟩)
    (c6 : PySem.W.codeIn K cd6 "EvenCosts.__init__" = true)
    (k6 : PySem.W.keepIn K (.ref q6) = true)
    (a7 : PySem.W.findIn K (.ref C_ChangeCosts) "__init__" = some (some (.ref q7)))
    (i7 : PySem.W.isFn K (.ref q7) = true)
    (l7 : K.lookup q7 = some ⟨oc7, od7, .func (PySem.W.fnOf "__init__" "ChangeCosts.__init__" (defArgs s_ChangeCosts_init) (defBody s_ChangeCosts_init) (defScope s_ChangeCosts_init) .none kV7 dc7 pm7 an7 cd7 ct7), sl7⟩)
    (c7 : PySem.W.codeIn K cd7 "ChangeCosts.__init__" = true)
    (k7 : PySem.W.keepIn K (.ref q7) = true)
    (a8 : PySem.W.findIn K (.ref C_LevelCosts) "__init__" = some (some (.ref q8)))
    (i8 : PySem.W.isFn K (.ref q8) = true)
    (l8 : K.lookup q8 = some ⟨oc8, od8, .func (PySem.W.fnOf "__init__" "LevelCosts.__init__" (defArgs s_LevelCosts_init) (defBody s_LevelCosts_init) (defScope s_LevelCosts_init) .none kV8 dc8 pm8 an8 cd8 ct8), sl8⟩)
    (c8 : PySem.W.codeIn K cd8 "LevelCosts.__init__" = true)
    (k8 : PySem.W.keepIn K (.ref q8) = true)
    (a9 : PySem.W.findIn K (.ref C_Costs) "of_count" = some (some (.ref q9)))
    (i9 : PySem.W.isFn K (.ref q9) = true)
    (l9 : K.lookup q9 = some ⟨oc9, od9, .func (PySem.W.fnOf "of_count" "Costs.of_count" (defArgs s_Costs_of_count) (defBody s_Costs_of_count) (defScope s_Costs_of_count) .none kV9 dc9 pm9 an9 cd9 ct9), sl9⟩)
    (c9 : PySem.W.codeIn K cd9 "Costs.of_count" = true)
    (k9 : PySem.W.keepIn K (.ref q9) = true)
    (a10 : PySem.W.findIn K (.ref C_ChangeCosts) "of_count" = some (some (.ref q10)))
    (i10 : PySem.W.isFn K (.ref q10) = true)
    (l10 : K.lookup q10 = some ⟨oc10, od10, .func (PySem.W.fnOf "of_count" "Costs.of_count" (defArgs s_Costs_of_count) (defBody s_Costs_of_count) (defScope s_Costs_of_count) .none kV10 dc10 pm10 an10 cd10 ct10), sl10⟩)
    (c10 : PySem.W.codeIn K cd10 "Costs.of_count" = true)
    (k10 : PySem.W.keepIn K (.ref q10) = true)
    (a11 : PySem.W.findIn K (.ref C_Costs) "of_mark" = some (some (.ref q11)))
    (i11 : PySem.W.isFn K (.ref q11) = true)
    (l11 : K.lookup q11 = some ⟨oc11, od11, .func (PySem.W.fnOf "of_mark" "Costs.of_mark" (defArgs s_Costs_of_mark) (defBody s_Costs_of_mark) (defScope s_Costs_of_mark) .none kV11 dc11 pm11 an11 cd11 ct11), sl11⟩)
    (c11 : PySem.W.codeIn K cd11 "Costs.of_mark" = true)
    (k11 : PySem.W.keepIn K (.ref q11) = true)
    (a12 : PySem.W.findIn K (.ref C_LevelCosts) "of_mark" = some (some (.ref q12)))
    (i12 : PySem.W.isFn K (.ref q12) = true)
    (l12 : K.lookup q12 = some ⟨oc12, od12, .func (PySem.W.fnOf "of_mark" "Costs.of_mark" (defArgs s_Costs_of_mark) (defBody s_Costs_of_mark) (defScope s_Costs_of_mark) .none kV12 dc12 pm12 an12 cd12 ct12), sl12⟩)
    (c12 : PySem.W.codeIn K cd12 "Costs.of_mark" = true)
    (k12 : PySem.W.keepIn K (.ref q12) = true)
    (a13 : PySem.W.findIn K (.ref C_EvenCosts) "of_count" = some (some (.ref q13)))
    (i13 : PySem.W.isFn K (.ref q13) = true)
    (l13 : K.lookup q13 = some ⟨oc13, od13, .func (PySem.W.fnOf "of_count" "EvenCosts.of_count" (defArgs s_EvenCosts_of_count) (defBody s_EvenCosts_of_count) (defScope s_EvenCosts_of_count) .none kV13 dc13 pm13 an13 cd13 ct13), sl13⟩)
    (c13 : PySem.W.codeIn K cd13 "EvenCosts.of_count" = true)
    (k13 : PySem.W.keepIn K (.ref q13) = true)
    (a14 : PySem.W.findIn K (.ref C_EvenCosts) "of_mark" = some (some (.ref q14)))
    (i14 : PySem.W.isFn K (.ref q14) = true)
    (l14 : K.lookup q14 = some ⟨oc14, od14, .func (PySem.W.fnOf "of_mark" "EvenCosts.of_mark" (defArgs s_EvenCosts_of_mark) (defBody s_EvenCosts_of_mark) (defScope s_EvenCosts_of_mark) .none kV14 dc14 pm14 an14 cd14 ct14), sl14⟩)
    (c14 : PySem.W.codeIn K cd14 "EvenCosts.of_mark" = true)
    (k14 : PySem.W.keepIn K (.ref q14) = true)
    (a15 : PySem.W.findIn K (.ref C_ChangeCosts) "of_mark" = some (some (.ref q15)))
    (i15 : PySem.W.isFn K (.ref q15) = true)
    (l15 : K.lookup q15 = some ⟨oc15, od15, .func (PySem.W.fnOf "of_mark" "ChangeCosts.of_mark" (defArgs s_ChangeCosts_of_mark) (defBody s_ChangeCosts_of_mark) (defScope s_ChangeCosts_of_mark) .none kV15 dc15 pm15 an15 cd15 ct15), sl15⟩)
    (c15 : PySem.W.codeIn K cd15 "ChangeCosts.of_mark" = true)
    (k15 : PySem.W.keepIn K (.ref q15) = true)
    (a16 : PySem.W.findIn K (.ref C_LevelCosts) "of_count" = some (some (.ref q16)))
    (i16 : PySem.W.isFn K (.ref q16) = true)
    (l16 : K.lookup q16 = some ⟨oc16, od16, .func (PySem.W.fnOf "of_count" "LevelCosts.of_count" (defArgs s_LevelCosts_of_count) (defBody s_LevelCosts_of_count) (defScope s_LevelCosts_of_count) .none kV16 dc16 pm16 an16 cd16 ct16), sl16⟩)
    (c16 : PySem.W.codeIn K cd16 "LevelCosts.of_count" = true)
    (k16 : PySem.W.keepIn K (.ref q16) = true)
    (a17 : PySem.W.findIn K (.ref C_House) "need" = some (some (.ref q17)))
    (i17 : PySem.W.isFn K (.ref q17) = true)
    (l17 : K.lookup q17 = some ⟨oc17, od17, .func (PySem.W.fnOf "need" "House.need" (defArgs s_House_need) (defBody s_House_need) (defScope s_House_need) .none kV17 dc17 pm17 an17 cd17 ct17), sl17⟩)
    (c17 : PySem.W.codeIn K cd17 "House.need" = true)
    (k17 : PySem.W.keepIn K (.ref q17) = true)
    (a18 : PySem.W.findIn K (.ref C_House) "may" = some (some (.ref q18)))
    (i18 : PySem.W.isFn K (.ref q18) = true)
    (l18 : K.lookup q18 = some ⟨oc18, od18, .func (PySem.W.fnOf "may" "House.may" (defArgs s_House_may) (defBody s_House_may) (defScope s_House_may) .none kV18 dc18 pm18 an18 cd18 ct18), sl18⟩)
    (c18 : PySem.W.codeIn K cd18 "House.may" = true)
    (k18 : PySem.W.keepIn K (.ref q18) = true)
    (a19 : PySem.W.nsIn K mainGlobals "floor_of_need" = some (some (.ref q19)))
    (l19 : K.lookup q19 = some ⟨oc19, od19, .func (PySem.W.fnOf "floor_of_need" "floor_of_need" (defArgs s_floor_of_need) (defBody s_floor_of_need) (defScope s_floor_of_need) .none kV19 dc19 pm19 an19 cd19 ct19), sl19⟩)
    (c19 : PySem.W.codeIn K cd19 "floor_of_need" = true)
    (k19 : PySem.W.keepIn K (.ref q19) = true)
    (a20 : PySem.W.nsIn K mainGlobals "charges_by_place" = some (some (.ref q20)))
    (l20 : K.lookup q20 = some ⟨oc20, od20, .func (PySem.W.fnOf "charges_by_place" "charges_by_place" (defArgs s_charges_by_place) (defBody s_charges_by_place) (defScope s_charges_by_place) .none kV20 dc20 pm20 an20 cd20 ct20), sl20⟩)
    (c20 : PySem.W.codeIn K cd20 "charges_by_place" = true)
    (k20 : PySem.W.keepIn K (.ref q20) = true)
    (a21 : PySem.W.nsIn K mainGlobals "floor_of_counts" = some (some (.ref q21)))
    (l21 : K.lookup q21 = some ⟨oc21, od21, .func (PySem.W.fnOf "floor_of_counts" "floor_of_counts" (defArgs s_floor_of_counts) (defBody s_floor_of_counts) (defScope s_floor_of_counts) .none kV21 dc21 pm21 an21 cd21 ct21), sl21⟩)
    (c21 : PySem.W.codeIn K cd21 "floor_of_counts" = true)
    (k21 : PySem.W.keepIn K (.ref q21) = true)
    (a22 : PySem.W.nsIn K mainGlobals "floor_of_day" = some (some (.ref q22)))
    (l22 : K.lookup q22 = some ⟨oc22, od22, .func (PySem.W.fnOf "floor_of_day" "floor_of_day" (defArgs s_floor_of_day) (defBody s_floor_of_day) (defScope s_floor_of_day) .none kV22 dc22 pm22 an22 cd22 ct22), sl22⟩)
    (c22 : PySem.W.codeIn K cd22 "floor_of_day" = true)
    (k22 : PySem.W.keepIn K (.ref q22) = true)
    (a23 : PySem.W.findIn K (.ref C_Prices) "__init__" = some (some (.ref q23)))
    (i23 : PySem.W.isFn K (.ref q23) = true)
    (l23 : K.lookup q23 = some ⟨oc23, od23, .func (PySem.W.fnOf "__init__" "Prices.__init__" (defArgs s_Prices_init) (defBody s_Prices_init) (defScope s_Prices_init) .none kV23 dc23 pm23 an23 cd23 ct23), sl23⟩)
    (c23 : PySem.W.codeIn K cd23 "Prices.__init__" = true)
    (k23 : PySem.W.keepIn K (.ref q23) = true)
    (a24 : PySem.W.findIn K (.ref C_Prices) "floor" = some (some (.ref q24)))
    (i24 : PySem.W.isFn K (.ref q24) = true)
    (l24 : K.lookup q24 = some ⟨oc24, od24, .func (PySem.W.fnOf "floor" "Prices.floor" (defArgs s_Prices_floor) (defBody s_Prices_floor) (defScope s_Prices_floor) .none kV24 dc24 pm24 an24 cd24 ct24), sl24⟩)
    (c24 : PySem.W.codeIn K cd24 "Prices.floor" = true)
    (k24 : PySem.W.keepIn K (.ref q24) = true)
    (a25 : PySem.W.nsIn K mainGlobals "able_to_do" = some (some (.ref q25)))
    (l25 : K.lookup q25 = some ⟨oc25, od25, .func (PySem.W.fnOf "able_to_do" "able_to_do" (defArgs s_able_to_do) (defBody s_able_to_do) (defScope s_able_to_do) .none kV25 dc25 pm25 an25 cd25 ct25), sl25⟩)
    (c25 : PySem.W.codeIn K cd25 "able_to_do" = true)
    (k25 : PySem.W.keepIn K (.ref q25) = true)
    (a26 : PySem.W.findIn K (.ref C_Places) "__init__" = some (some (.ref q26)))
    (i26 : PySem.W.isFn K (.ref q26) = true)
    (l26 : K.lookup q26 = some ⟨oc26, od26, .func (PySem.W.fnOf "__init__" "Places.__init__" (defArgs s_Places_init) (defBody s_Places_init) (defScope s_Places_init) .none kV26 dc26 pm26 an26 cd26 ct26), sl26⟩)
    (c26 : PySem.W.codeIn K cd26 "Places.__init__" = true)
    (k26 : PySem.W.keepIn K (.ref q26) = true)
    (a27 : PySem.W.findIn K (.ref C_Places) "floor" = some (some (.ref q27)))
    (i27 : PySem.W.isFn K (.ref q27) = true)
    (l27 : K.lookup q27 = some ⟨oc27, od27, .func (PySem.W.fnOf "floor" "Places.floor" (defArgs s_Places_floor) (defBody s_Places_floor) (defScope s_Places_floor) .none kV27 dc27 pm27 an27 cd27 ct27), sl27⟩)
    (c27 : PySem.W.codeIn K cd27 "Places.floor" = true)
    (k27 : PySem.W.keepIn K (.ref q27) = true)
    (a28 : PySem.W.nsIn K mainGlobals "duties_in" = some (some (.ref q28)))
    (l28 : K.lookup q28 = some ⟨oc28, od28, .func (PySem.W.fnOf "duties_in" "duties_in" (defArgs s_duties_in) (defBody s_duties_in) (defScope s_duties_in) .none kV28 dc28 pm28 an28 cd28 ct28), sl28⟩)
    (c28 : PySem.W.codeIn K cd28 "duties_in" = true)
    (k28 : PySem.W.keepIn K (.ref q28) = true)
    (a29 : PySem.W.nsIn K mainGlobals "total_of" = some (some (.ref q29)))
    (l29 : K.lookup q29 = some ⟨oc29, od29, .func (PySem.W.fnOf "total_of" "total_of" (defArgs s_total_of) (defBody s_total_of) (defScope s_total_of) .none kV29 dc29 pm29 an29 cd29 ct29), sl29⟩)
    (c29 : PySem.W.codeIn K cd29 "total_of" = true)
    (k29 : PySem.W.keepIn K (.ref q29) = true)
    (a30 : PySem.W.nsIn K mainGlobals "_law_cell_at" = some (some (.ref q30)))
    (l30 : K.lookup q30 = some ⟨oc30, od30, .func (PySem.W.fnOf "_law_cell_at" "_law_cell_at" (defArgs s_law_cell_at) (defBody s_law_cell_at) (defScope s_law_cell_at) .none kV30 dc30 pm30 an30 cd30 ct30), sl30⟩)
    (c30 : PySem.W.codeIn K cd30 "_law_cell_at" = true)
    (k30 : PySem.W.keepIn K (.ref q30) = true)
    (a31 : PySem.W.nsIn K mainGlobals "_law_drawn" = some (some (.ref q31)))
    (l31 : K.lookup q31 = some ⟨oc31, od31, .func (PySem.W.fnOf "_law_drawn" "_law_drawn" (defArgs s_law_drawn) (defBody s_law_drawn) (defScope s_law_drawn) .none kV31 dc31 pm31 an31 cd31 ct31), sl31⟩)
    (c31 : PySem.W.codeIn K cd31 "_law_drawn" = true)
    (k31 : PySem.W.keepIn K (.ref q31) = true)
    (a32 : PySem.W.nsIn K mainGlobals "_law_kinds" = some (some (.ref q32)))
    (l32 : K.lookup q32 = some ⟨oc32, od32, .func (PySem.W.fnOf "_law_kinds" "_law_kinds" (defArgs s_law_kinds) (defBody s_law_kinds) (defScope s_law_kinds) .none kV32 dc32 pm32 an32 cd32 ct32), sl32⟩)
    (c32 : PySem.W.codeIn K cd32 "_law_kinds" = true)
    (k32 : PySem.W.keepIn K (.ref q32) = true)
    (a33 : PySem.W.nsIn K mainGlobals "_law_names" = some (some (.ref q33)))
    (l33 : K.lookup q33 = some ⟨oc33, od33, .func (PySem.W.fnOf "_law_names" "_law_names" (defArgs s_law_names) (defBody s_law_names) (defScope s_law_names) .none kV33 dc33 pm33 an33 cd33 ct33), sl33⟩)
    (c33 : PySem.W.codeIn K cd33 "_law_names" = true)
    (k33 : PySem.W.keepIn K (.ref q33) = true)
    (a34 : PySem.W.nsIn K mainGlobals "_law_row" = some (some (.ref q34)))
    (l34 : K.lookup q34 = some ⟨oc34, od34, .func (PySem.W.fnOf "_law_row" "_law_row" (defArgs s_law_row) (defBody s_law_row) (defScope s_law_row) .none kV34 dc34 pm34 an34 cd34 ct34), sl34⟩)
    (c34 : PySem.W.codeIn K cd34 "_law_row" = true)
    (k34 : PySem.W.keepIn K (.ref q34) = true)
    (a35 : PySem.W.nsIn K mainGlobals "_law_leave" = some (some (.ref q35)))
    (l35 : K.lookup q35 = some ⟨oc35, od35, .func (PySem.W.fnOf "_law_leave" "_law_leave" (defArgs s_law_leave) (defBody s_law_leave) (defScope s_law_leave) .none kV35 dc35 pm35 an35 cd35 ct35), sl35⟩)
    (c35 : PySem.W.codeIn K cd35 "_law_leave" = true)
    (k35 : PySem.W.keepIn K (.ref q35) = true)
    (a36 : PySem.W.nsIn K mainGlobals "_law_duties" = some (some (.ref q36)))
    (l36 : K.lookup q36 = some ⟨oc36, od36, .func (PySem.W.fnOf "_law_duties" "_law_duties" (defArgs s_law_duties) (defBody s_law_duties) (defScope s_law_duties) .none kV36 dc36 pm36 an36 cd36 ct36), sl36⟩)
    (c36 : PySem.W.codeIn K cd36 "_law_duties" = true)
    (k36 : PySem.W.keepIn K (.ref q36) = true)
    (a37 : PySem.W.nsIn K mainGlobals "_law_person" = some (some (.ref q37)))
    (l37 : K.lookup q37 = some ⟨oc37, od37, .func (PySem.W.fnOf "_law_person" "_law_person" (defArgs s_law_person) (defBody s_law_person) (defScope s_law_person) .none kV37 dc37 pm37 an37 cd37 ct37), sl37⟩)
    (c37 : PySem.W.codeIn K cd37 "_law_person" = true)
    (k37 : PySem.W.keepIn K (.ref q37) = true)
    (a38 : PySem.W.nsIn K mainGlobals "_law_needs" = some (some (.ref q38)))
    (l38 : K.lookup q38 = some ⟨oc38, od38, .func (PySem.W.fnOf "_law_needs" "_law_needs" (defArgs s_law_needs) (defBody s_law_needs) (defScope s_law_needs) .none kV38 dc38 pm38 an38 cd38 ct38), sl38⟩)
    (c38 : PySem.W.codeIn K cd38 "_law_needs" = true)
    (k38 : PySem.W.keepIn K (.ref q38) = true)
    (a39 : PySem.W.nsIn K mainGlobals "_law_wishes" = some (some (.ref q39)))
    (l39 : K.lookup q39 = some ⟨oc39, od39, .func (PySem.W.fnOf "_law_wishes" "_law_wishes" (defArgs s_law_wishes) (defBody s_law_wishes) (defScope s_law_wishes) .none kV39 dc39 pm39 an39 cd39 ct39), sl39⟩)
    (c39 : PySem.W.codeIn K cd39 "_law_wishes" = true)
    (k39 : PySem.W.keepIn K (.ref q39) = true)
    (a40 : PySem.W.nsIn K mainGlobals "_law_house" = some (some (.ref q40)))
    (l40 : K.lookup q40 = some ⟨oc40, od40, .func (PySem.W.fnOf "_law_house" "_law_house" (defArgs s_law_house) (defBody s_law_house) (defScope s_law_house) .none kV40 dc40 pm40 an40 cd40 ct40), sl40⟩)
    (c40 : PySem.W.codeIn K cd40 "_law_house" = true)
    (k40 : PySem.W.keepIn K (.ref q40) = true)
    (a41 : PySem.W.nsIn K mainGlobals "_law_numbers" = some (some (.ref q41)))
    (l41 : K.lookup q41 = some ⟨oc41, od41, .func (PySem.W.fnOf "_law_numbers" "_law_numbers" (defArgs s_law_numbers) (defBody s_law_numbers) (defScope s_law_numbers) .none kV41 dc41 pm41 an41 cd41 ct41), sl41⟩)
    (c41 : PySem.W.codeIn K cd41 "_law_numbers" = true)
    (k41 : PySem.W.keepIn K (.ref q41) = true)
    (a42 : PySem.W.nsIn K mainGlobals "_law_costs" = some (some (.ref q42)))
    (l42 : K.lookup q42 = some ⟨oc42, od42, .func (PySem.W.fnOf "_law_costs" "_law_costs" (defArgs s_law_costs) (defBody s_law_costs) (defScope s_law_costs) .none kV42 dc42 pm42 an42 cd42 ct42), sl42⟩)
    (c42 : PySem.W.codeIn K cd42 "_law_costs" = true)
    (k42 : PySem.W.keepIn K (.ref q42) = true)
    (a43 : PySem.W.nsIn K mainGlobals "_law_total" = some (some (.ref q43)))
    (l43 : K.lookup q43 = some ⟨oc43, od43, .func (PySem.W.fnOf "_law_total" "_law_total" (defArgs s_law_total) (defBody s_law_total) (defScope s_law_total) .none kV43 dc43 pm43 an43 cd43 ct43), sl43⟩)
    (c43 : PySem.W.codeIn K cd43 "_law_total" = true)
    (k43 : PySem.W.keepIn K (.ref q43) = true)
    (a44 : PySem.W.findIn K (.ref C_Paper) "floor" = some (some (.ref q44)))
    (i44 : PySem.W.isFn K (.ref q44) = true)
    (l44 : K.lookup q44 = some ⟨oc44, od44, .func (PySem.W.fnOf "floor" "Paper.floor" (defArgs s_Paper_floor) (defBody s_Paper_floor) (defScope s_Paper_floor) .none kV44 dc44 pm44 an44 cd44 ct44), sl44⟩)
    (c44 : PySem.W.codeIn K cd44 "Paper.floor" = true)
    (k44 : PySem.W.keepIn K (.ref q44) = true)
    (a45 : PySem.W.nsIn K mainGlobals "_law_papers" = some (some (.ref q45)))
    (l45 : K.lookup q45 = some ⟨oc45, od45, .func (PySem.W.fnOf "_law_papers" "_law_papers" (defArgs s_law_papers) (defBody s_law_papers) (defScope s_law_papers) .none kV45 dc45 pm45 an45 cd45 ct45), sl45⟩)
    (c45 : PySem.W.codeIn K cd45 "_law_papers" = true)
    (k45 : PySem.W.keepIn K (.ref q45) = true)
    (a46 : PySem.W.nsIn K mainGlobals "law" = some (some (.ref q46)))
    (l46 : K.lookup q46 = some ⟨oc46, od46, .func (PySem.W.fnOf "law" "law" (defArgs s_law) (defBody s_law) (defScope s_law) .none kV46 dc46 pm46 an46 cd46 ct46), sl46⟩)
    (c46 : PySem.W.codeIn K cd46 "law" = true)
    (k46 : PySem.W.keepIn K (.ref q46) = true)
    (pg_Person : PySem.W.plainGet K C_Person Str.empty = true)
    (hd_Person : PySem.W.hasDictIn K C_Person = true)
    (po_Person : PySem.W.plainOver K C_Person = true)
    (sa_Person : PySem.W.findIn K (.ref C_Person) "__setattr__" = some (some (.builtin "object.__setattr__")))
    (mk_Person : PySem.W.makesIn K C_Person = true)
    (kc_Person : PySem.W.keepIn K (.ref C_Person) = true)
    (pg_House : PySem.W.plainGet K C_House Str.empty = true)
    (hd_House : PySem.W.hasDictIn K C_House = true)
    (po_House : PySem.W.plainOver K C_House = true)
    (sa_House : PySem.W.findIn K (.ref C_House) "__setattr__" = some (some (.builtin "object.__setattr__")))
    (mk_House : PySem.W.makesIn K C_House = true)
    (kc_House : PySem.W.keepIn K (.ref C_House) = true)
    (pg_Costs : PySem.W.plainGet K C_Costs Str.empty = true)
    (hd_Costs : PySem.W.hasDictIn K C_Costs = true)
    (po_Costs : PySem.W.plainOver K C_Costs = true)
    (sa_Costs : PySem.W.findIn K (.ref C_Costs) "__setattr__" = some (some (.builtin "object.__setattr__")))
    (mk_Costs : PySem.W.makesIn K C_Costs = true)
    (kc_Costs : PySem.W.keepIn K (.ref C_Costs) = true)
    (pg_EvenCosts : PySem.W.plainGet K C_EvenCosts Str.empty = true)
    (hd_EvenCosts : PySem.W.hasDictIn K C_EvenCosts = true)
    (po_EvenCosts : PySem.W.plainOver K C_EvenCosts = true)
    (sa_EvenCosts : PySem.W.findIn K (.ref C_EvenCosts) "__setattr__" = some (some (.builtin "object.__setattr__")))
    (mk_EvenCosts : PySem.W.makesIn K C_EvenCosts = true)
    (kc_EvenCosts : PySem.W.keepIn K (.ref C_EvenCosts) = true)
    (pg_ChangeCosts : PySem.W.plainGet K C_ChangeCosts Str.empty = true)
    (hd_ChangeCosts : PySem.W.hasDictIn K C_ChangeCosts = true)
    (po_ChangeCosts : PySem.W.plainOver K C_ChangeCosts = true)
    (sa_ChangeCosts : PySem.W.findIn K (.ref C_ChangeCosts) "__setattr__" = some (some (.builtin "object.__setattr__")))
    (mk_ChangeCosts : PySem.W.makesIn K C_ChangeCosts = true)
    (kc_ChangeCosts : PySem.W.keepIn K (.ref C_ChangeCosts) = true)
    (pg_LevelCosts : PySem.W.plainGet K C_LevelCosts Str.empty = true)
    (hd_LevelCosts : PySem.W.hasDictIn K C_LevelCosts = true)
    (po_LevelCosts : PySem.W.plainOver K C_LevelCosts = true)
    (sa_LevelCosts : PySem.W.findIn K (.ref C_LevelCosts) "__setattr__" = some (some (.builtin "object.__setattr__")))
    (mk_LevelCosts : PySem.W.makesIn K C_LevelCosts = true)
    (kc_LevelCosts : PySem.W.keepIn K (.ref C_LevelCosts) = true)
    (pg_Paper : PySem.W.plainGet K C_Paper Str.empty = true)
    (hd_Paper : PySem.W.hasDictIn K C_Paper = true)
    (po_Paper : PySem.W.plainOver K C_Paper = true)
    (sa_Paper : PySem.W.findIn K (.ref C_Paper) "__setattr__" = some (some (.builtin "object.__setattr__")))
    (mk_Paper : PySem.W.makesIn K C_Paper = true)
    (kc_Paper : PySem.W.keepIn K (.ref C_Paper) = true)
    (pg_Places : PySem.W.plainGet K C_Places Str.empty = true)
    (hd_Places : PySem.W.hasDictIn K C_Places = true)
    (po_Places : PySem.W.plainOver K C_Places = true)
    (sa_Places : PySem.W.findIn K (.ref C_Places) "__setattr__" = some (some (.builtin "object.__setattr__")))
    (mk_Places : PySem.W.makesIn K C_Places = true)
    (kc_Places : PySem.W.keepIn K (.ref C_Places) = true)
    (pg_Prices : PySem.W.plainGet K C_Prices Str.empty = true)
    (hd_Prices : PySem.W.hasDictIn K C_Prices = true)
    (po_Prices : PySem.W.plainOver K C_Prices = true)
    (sa_Prices : PySem.W.findIn K (.ref C_Prices) "__setattr__" = some (some (.builtin "object.__setattr__")))
    (mk_Prices : PySem.W.makesIn K C_Prices = true)
    (kc_Prices : PySem.W.keepIn K (.ref C_Prices) = true)
    (yn : PySem.W.specialIn K (.builtin "object.__class__") "__get__" = some (some (.builtin "getset_descriptor.__get__")))
    (yt : PySem.W.takesIn K (.builtin "object.__class__") = some true)
    (ya_Paper : PySem.W.findIn K (.ref C_Paper) "__class__" = some (some (.builtin "object.__class__")))
    (ym_Paper : PySem.W.mroIn K C_Paper (.type "object") = some true)
    (i_Paper_Paper : PySem.W.kitOne K (.ref C_Paper) (.ref C_Paper) = some true)
    (ya_Places : PySem.W.findIn K (.ref C_Places) "__class__" = some (some (.builtin "object.__class__")))
    (ym_Places : PySem.W.mroIn K C_Places (.type "object") = some true)
    (i_Places_Paper : PySem.W.kitOne K (.ref C_Places) (.ref C_Paper) = some true)
    (ya_Prices : PySem.W.findIn K (.ref C_Prices) "__class__" = some (some (.builtin "object.__class__")))
    (ym_Prices : PySem.W.mroIn K C_Prices (.type "object") = some true)
    (i_Prices_Paper : PySem.W.kitOne K (.ref C_Prices) (.ref C_Paper) = some true)
    (n_Person_name : PySem.W.findIn K (.ref C_Person) "name" = some none)
    (n_Person_skills : PySem.W.findIn K (.ref C_Person) "skills" = some none)
    (n_Person_most : PySem.W.findIn K (.ref C_Person) "most" = some none)
    (n_Person_carried : PySem.W.findIn K (.ref C_Person) "carried" = some none)
    (n_Person_past : PySem.W.findIn K (.ref C_Person) "past" = some none)
    (n_House_days : PySem.W.findIn K (.ref C_House) "days" = some none)
    (n_House_kinds : PySem.W.findIn K (.ref C_House) "kinds" = some none)
    (n_House_needs : PySem.W.findIn K (.ref C_House) "needs" = some none)
    (n_House_persons : PySem.W.findIn K (.ref C_House) "persons" = some none)
    (n_House_leave : PySem.W.findIn K (.ref C_House) "leave" = some none)
    (n_House_wishes : PySem.W.findIn K (.ref C_House) "wishes" = some none)
    (n_House_rules : PySem.W.findIn K (.ref C_House) "rules" = some none)
    (n_House_pairs : PySem.W.findIn K (.ref C_House) "pairs" = some none)
    (n_EvenCosts_weight : PySem.W.findIn K (.ref C_EvenCosts) "weight" = some none)
    (n_EvenCosts_burdens : PySem.W.findIn K (.ref C_EvenCosts) "burdens" = some none)
    (n_EvenCosts_wished : PySem.W.findIn K (.ref C_EvenCosts) "wished" = some none)
    (n_ChangeCosts_rows : PySem.W.findIn K (.ref C_ChangeCosts) "rows" = some none)
    (n_LevelCosts_burdens : PySem.W.findIn K (.ref C_LevelCosts) "burdens" = some none)
    (n_LevelCosts_level : PySem.W.findIn K (.ref C_LevelCosts) "level" = some none)
    (n_Prices_persons : PySem.W.findIn K (.ref C_Prices) "persons" = some none)
    (n_Prices_needs : PySem.W.findIn K (.ref C_Prices) "needs" = some none)
    (n_Places_places : PySem.W.findIn K (.ref C_Places) "places" = some none)
    (z_bool : PySem.W.nsIn K mainGlobals "bool" = some none)
    (z_enumerate : PySem.W.nsIn K mainGlobals "enumerate" = some none)
    (z_int : PySem.W.nsIn K mainGlobals "int" = some none)
    (z_isinstance : PySem.W.nsIn K mainGlobals "isinstance" = some none)
    (z_len : PySem.W.nsIn K mainGlobals "len" = some none)
    (z_list : PySem.W.nsIn K mainGlobals "list" = some none)
    (z_max : PySem.W.nsIn K mainGlobals "max" = some none)
    (z_min : PySem.W.nsIn K mainGlobals "min" = some none)
    (z_range : PySem.W.nsIn K mainGlobals "range" = some none)
    (z_set : PySem.W.nsIn K mainGlobals "set" = some none)
    (z_sum : PySem.W.nsIn K mainGlobals "sum" = some none)
    (z_zip : PySem.W.nsIn K mainGlobals "zip" = some none)
    (oi_Costs : PySem.W.findIn K (.ref C_Costs) "__init__" = some (some (.builtin "object.__init__")))
    (oi_Paper : PySem.W.findIn K (.ref C_Paper) "__init__" = some (some (.builtin "object.__init__")))
    : ∃ fd : FuncData, (∀ (s : Shared) (v : Value), BindsTo s fd ⟨[v], []⟩ [("_law_script", v)]) ∧ ∀ base : Heap, K.In base → base.Ns mainGlobals mg → FnOk l.prog w K mg base CX0 14 fa fd ["_law_script"] (sp_law K) := by
  have e := hfa.symm.trans (PySem.W.mg_of X G a46)
  cases e
  have T : Tx K mg C_Person C_House C_Costs C_EvenCosts C_ChangeCosts C_LevelCosts C_Paper C_Places C_Prices := ⟨⟨_, _, fun_mk (st := s_Person_init) l1 c1 k1, ⟨a1, i1, k1⟩⟩,
    ⟨_, _, fun_mk (st := s_House_init) l2 c2 k2, ⟨a2, i2, k2⟩⟩,
    ⟨_, _, fun_mk (st := s_House_place_of) l3 c3 k3, ⟨a3, i3, k3⟩⟩,
    ⟨_, _, fun_mk (st := s_burdens_of) l4 c4 k4, PySem.W.mg_of X G a4⟩,
    ⟨_, _, fun_mk (st := s_wishes_by_place) l5 c5 k5, PySem.W.mg_of X G a5⟩,
    ⟨_, _, fun_mk (st := s_EvenCosts_init) l6 c6 k6, ⟨a6, i6, k6⟩⟩,
    ⟨_, _, fun_mk (st := s_ChangeCosts_init) l7 c7 k7, ⟨a7, i7, k7⟩⟩,
    ⟨_, _, fun_mk (st := s_LevelCosts_init) l8 c8 k8, ⟨a8, i8, k8⟩⟩,
    ⟨_, _, fun_mk (st := s_Costs_of_count) l9 c9 k9, ⟨a9, i9, k9⟩⟩,
    ⟨_, _, fun_mk (st := s_Costs_of_count) l10 c10 k10, ⟨a10, i10, k10⟩⟩,
    ⟨_, _, fun_mk (st := s_Costs_of_mark) l11 c11 k11, ⟨a11, i11, k11⟩⟩,
    ⟨_, _, fun_mk (st := s_Costs_of_mark) l12 c12 k12, ⟨a12, i12, k12⟩⟩,
    ⟨_, _, fun_mk (st := s_EvenCosts_of_count) l13 c13 k13, ⟨a13, i13, k13⟩⟩,
    ⟨_, _, fun_mk (st := s_EvenCosts_of_mark) l14 c14 k14, ⟨a14, i14, k14⟩⟩,
    ⟨_, _, fun_mk (st := s_ChangeCosts_of_mark) l15 c15 k15, ⟨a15, i15, k15⟩⟩,
    ⟨_, _, fun_mk (st := s_LevelCosts_of_count) l16 c16 k16, ⟨a16, i16, k16⟩⟩,
    ⟨_, _, fun_mk (st := s_House_need) l17 c17 k17, ⟨a17, i17, k17⟩⟩,
    ⟨_, _, fun_mk (st := s_House_may) l18 c18 k18, ⟨a18, i18, k18⟩⟩,
    ⟨_, _, fun_mk (st := s_floor_of_need) l19 c19 k19, PySem.W.mg_of X G a19⟩,
    ⟨_, _, fun_mk (st := s_charges_by_place) l20 c20 k20, PySem.W.mg_of X G a20⟩,
    ⟨_, _, fun_mk (st := s_floor_of_counts) l21 c21 k21, PySem.W.mg_of X G a21⟩,
    ⟨_, _, fun_mk (st := s_floor_of_day) l22 c22 k22, PySem.W.mg_of X G a22⟩,
    ⟨_, _, fun_mk (st := s_Prices_init) l23 c23 k23, ⟨a23, i23, k23⟩⟩,
    ⟨_, _, fun_mk (st := s_Prices_floor) l24 c24 k24, ⟨a24, i24, k24⟩⟩,
    ⟨_, _, fun_mk (st := s_able_to_do) l25 c25 k25, PySem.W.mg_of X G a25⟩,
    ⟨_, _, fun_mk (st := s_Places_init) l26 c26 k26, ⟨a26, i26, k26⟩⟩,
    ⟨_, _, fun_mk (st := s_Places_floor) l27 c27 k27, ⟨a27, i27, k27⟩⟩,
    ⟨_, _, fun_mk (st := s_duties_in) l28 c28 k28, PySem.W.mg_of X G a28⟩,
    ⟨_, _, fun_mk (st := s_total_of) l29 c29 k29, PySem.W.mg_of X G a29⟩,
    ⟨_, _, fun_mk (st := s_law_cell_at) l30 c30 k30, PySem.W.mg_of X G a30⟩,
    ⟨_, _, fun_mk (st := s_law_drawn) l31 c31 k31, PySem.W.mg_of X G a31⟩,
    ⟨_, _, fun_mk (st := s_law_kinds) l32 c32 k32, PySem.W.mg_of X G a32⟩,
    ⟨_, _, fun_mk (st := s_law_names) l33 c33 k33, PySem.W.mg_of X G a33⟩,
    ⟨_, _, fun_mk (st := s_law_row) l34 c34 k34, PySem.W.mg_of X G a34⟩,
    ⟨_, _, fun_mk (st := s_law_leave) l35 c35 k35, PySem.W.mg_of X G a35⟩,
    ⟨_, _, fun_mk (st := s_law_duties) l36 c36 k36, PySem.W.mg_of X G a36⟩,
    ⟨_, _, fun_mk (st := s_law_person) l37 c37 k37, PySem.W.mg_of X G a37⟩,
    ⟨_, _, fun_mk (st := s_law_needs) l38 c38 k38, PySem.W.mg_of X G a38⟩,
    ⟨_, _, fun_mk (st := s_law_wishes) l39 c39 k39, PySem.W.mg_of X G a39⟩,
    ⟨_, _, fun_mk (st := s_law_house) l40 c40 k40, PySem.W.mg_of X G a40⟩,
    ⟨_, _, fun_mk (st := s_law_numbers) l41 c41 k41, PySem.W.mg_of X G a41⟩,
    ⟨_, _, fun_mk (st := s_law_costs) l42 c42 k42, PySem.W.mg_of X G a42⟩,
    ⟨_, _, fun_mk (st := s_law_total) l43 c43 k43, PySem.W.mg_of X G a43⟩,
    ⟨_, _, fun_mk (st := s_Paper_floor) l44 c44 k44, ⟨a44, i44, k44⟩⟩,
    ⟨_, _, fun_mk (st := s_law_papers) l45 c45 k45, PySem.W.mg_of X G a45⟩,
    ⟨_, _, fun_mk (st := s_law) l46 c46 k46, PySem.W.mg_of X G a46⟩,
    ⟨⟨pg_Person, hd_Person, po_Person, sa_Person⟩, PySem.W.mg_of X G g_Person, mk_Person, kc_Person⟩,
    ⟨⟨pg_House, hd_House, po_House, sa_House⟩, PySem.W.mg_of X G g_House, mk_House, kc_House⟩,
    ⟨⟨pg_Costs, hd_Costs, po_Costs, sa_Costs⟩, PySem.W.mg_of X G g_Costs, mk_Costs, kc_Costs⟩,
    ⟨⟨pg_EvenCosts, hd_EvenCosts, po_EvenCosts, sa_EvenCosts⟩, PySem.W.mg_of X G g_EvenCosts, mk_EvenCosts, kc_EvenCosts⟩,
    ⟨⟨pg_ChangeCosts, hd_ChangeCosts, po_ChangeCosts, sa_ChangeCosts⟩, PySem.W.mg_of X G g_ChangeCosts, mk_ChangeCosts, kc_ChangeCosts⟩,
    ⟨⟨pg_LevelCosts, hd_LevelCosts, po_LevelCosts, sa_LevelCosts⟩, PySem.W.mg_of X G g_LevelCosts, mk_LevelCosts, kc_LevelCosts⟩,
    ⟨⟨pg_Paper, hd_Paper, po_Paper, sa_Paper⟩, PySem.W.mg_of X G g_Paper, mk_Paper, kc_Paper⟩,
    ⟨⟨pg_Places, hd_Places, po_Places, sa_Places⟩, PySem.W.mg_of X G g_Places, mk_Places, kc_Places⟩,
    ⟨⟨pg_Prices, hd_Prices, po_Prices, sa_Prices⟩, PySem.W.mg_of X G g_Prices, mk_Prices, kc_Prices⟩,
    ⟨⟨pg_Paper, hd_Paper, po_Paper, sa_Paper⟩, ya_Paper, yn, yt, ym_Paper⟩,
    i_Paper_Paper,
    ⟨⟨pg_Places, hd_Places, po_Places, sa_Places⟩, ya_Places, yn, yt, ym_Places⟩,
    i_Places_Paper,
    ⟨⟨pg_Prices, hd_Prices, po_Prices, sa_Prices⟩, ya_Prices, yn, yt, ym_Prices⟩,
    i_Prices_Paper,
    n_Person_name,
    n_Person_skills,
    n_Person_most,
    n_Person_carried,
    n_Person_past,
    n_House_days,
    n_House_kinds,
    n_House_needs,
    n_House_persons,
    n_House_leave,
    n_House_wishes,
    n_House_rules,
    n_House_pairs,
    n_EvenCosts_weight,
    n_EvenCosts_burdens,
    n_EvenCosts_wished,
    n_ChangeCosts_rows,
    n_LevelCosts_burdens,
    n_LevelCosts_level,
    n_Prices_persons,
    n_Prices_needs,
    n_Places_places,
    PySem.W.mg_none_of X G z_bool,
    PySem.W.mg_none_of X G z_enumerate,
    PySem.W.mg_none_of X G z_int,
    PySem.W.mg_none_of X G z_isinstance,
    PySem.W.mg_none_of X G z_len,
    PySem.W.mg_none_of X G z_list,
    PySem.W.mg_none_of X G z_max,
    PySem.W.mg_none_of X G z_min,
    PySem.W.mg_none_of X G z_range,
    PySem.W.mg_none_of X G z_set,
    PySem.W.mg_none_of X G z_sum,
    PySem.W.mg_none_of X G z_zip,
    oi_Costs,
    oi_Paper⟩
  refine ⟨PySem.W.fnOf "law" "law" (defArgs s_law) (defBody s_law) (defScope s_law) .none kV46 dc46 pm46 an46 cd46 ct46, fun s v => .of_eq rfl, fun base _ _ => ?_⟩
  exact law_ok T (fun_mk (st := s_law) l46 c46 k46)
theorem walk {l : PySem.W.OpenLaw} {q : Program} {loose : List Str} {XP : (Str → Option Value) → Heap → Prop} {YP : World → Heap → Prop} {d : DefRec} {K : Params → PySem.W.Frag} (hn : l.most = some 63) (hdf : d.params.defaults = [])
    (hY : ∀ (w : World) (h : Heap), YP w h → (K w.params).In h)
    (F : ∀ (w : World) (mg : Str → Option Value) (fa : Addr) (h : Heap), (K w.params).In h → h.Ns mainGlobals mg → mg d.name = some (.ref fa) →
      ∃ fd : FuncData, (∀ (s : Shared) (u : Value), BindsTo s fd ⟨[u], []⟩ [("_law_script", u)]) ∧ ∀ base : Heap, (K w.params).In base → base.Ns mainGlobals mg → FnOk l.prog w (K w.params) mg base CX0 14 fa fd ["_law_script"] (sp_law (K w.params))) :
    PySem.W.WalkO q loose XP YP l.row.toRowW d [] (fun f vs => PySem.call f vs) :=
  L2.walk_of (n := 63) (k := 14) (x := "_law_script") (CX := fun _ => CX0) (sp := fun w => sp_law (K w.params)) hn (by decide) hdf ⟨rfl, by decide, by decide⟩ hY F (fun _ _ a ns hl _ hS => ⟨a, ns, rfl, hS, hl, fun _ => rfl⟩) fun _ _ _ _ _ z => z
theorem walkX {q : Program} {loose : List Str} {XP : (Str → Option Value) → Heap → Prop} {K : Params → PySem.W.Frag} {as : List Addr} {n t : Nat} {r : PySem.W.RowW} {d : DefRec} {kwd : List (Str × Expr)} {run : Value → List Value → Sem Value} (e : ∀ P, as = (K P).map (·.1))
    (h : PySem.W.WalkO q loose XP (fun w hp => (K w.params).In hp) r d kwd run) : PySem.W.WalkX q loose XP (PySem.W.X.obsZ as) (PySem.W.X.valZ K n t) r d kwd run := by
  intro w s₀ s₁ mg mb G Y a o pm cd doc dV kV h1 h2 h3 h4 h5 h6 args vals as' L p1 p2 p3 p4 p5
  exact h w s₀ s₁ mg mb G (PySem.W.InK.keeps w _ _ (PySem.W.X.z_facts e Y).2.1 L.keeps) a o pm cd doc dV kV h1 h2 h3 h4 h5 h6 args vals as' p1 p2 p3 p4 p5
end K53
def PySem.W.Fast.tw3053727047032164924 : Unit := ()
def PySem.W.Fast.tw17333952664452989155 : Unit := ()
def PySem.W.Fast.tw7249734075250936294 : Unit := ()
def PySem.W.Fast.tw4172132766903938538 : Unit := ()
def PySem.W.Fast.tw5936052962222694111 : Unit := ()
def PySem.W.Fast.tw8705700867604614287 : Unit := ()
def PySem.W.Fast.tw7128240501240824543 : Unit := ()
def PySem.W.Fast.tw8201487430510591502 : Unit := ()
def PySem.W.Fast.tw15999615957941600042 : Unit := ()
def PySem.W.Fast.tw14575012480252560986 : Unit := ()
def PySem.W.Fast.tw16487561071844193568 : Unit := ()
def PySem.W.Fast.tw17704507496947878393 : Unit := ()
def PySem.W.Fast.tw13189331733265880806 : Unit := ()
def PySem.W.Fast.tw14678784237409850982 : Unit := ()
def PySem.W.Fast.tw12038563749133167852 : Unit := ()
def PySem.W.Fast.tw8662874726932340563 : Unit := ()
def PySem.W.Fast.tw9293695980778003665 : Unit := ()
def PySem.W.Fast.tw16824386700962783926 : Unit := ()
def PySem.W.Fast.tw2832911461978375273 : Unit := ()
def PySem.W.Fast.tw4674041976602334612 : Unit := ()
def PySem.W.Fast.tw9345042996850747020 : Unit := ()
def PySem.W.Fast.tw9119069359258022070 : Unit := ()
def PySem.W.Fast.tw17285834155330486912 : Unit := ()
def PySem.W.Fast.tw10523269635126142157 : Unit := ()
def PySem.W.Fast.tw3280673812778728133 : Unit := ()
def PySem.W.Fast.tw10906609829403679696 : Unit := ()
def PySem.W.Fast.tw11185958310985005182 : Unit := ()
def PySem.W.Fast.tw802601495018714295 : Unit := ()
def PySem.W.Fast.tw14059476217431582629 : Unit := ()
def PySem.W.Fast.tw2439230894160543024 : Unit := ()
def PySem.W.Fast.tw5343570238727331686 : Unit := ()
def PySem.W.Fast.tw12661440863283603679 : Unit := ()
def PySem.W.Fast.tw516757859939430288 : Unit := ()
def PySem.W.Fast.tw7479889468612288662 : Unit := ()
def PySem.W.Fast.tw4151240080161550342 : Unit := ()
def PySem.W.Fast.tw11880090459085093642 : Unit := ()
def PySem.W.Fast.tw12501736082699252790 : Unit := ()
def PySem.W.Fast.tw14600074700923518861 : Unit := ()
def PySem.W.Fast.tw16382757803206978647 : Unit := ()
def PySem.W.Fast.tw18049776297207228505 : Unit := ()
def PySem.W.Fast.tw1090309793631936533 : Unit := ()
def PySem.W.Fast.tw14594676121495181937 : Unit := ()
def PySem.W.Fast.tw6103988305546117337 : Unit := ()
def PySem.W.Fast.tw17490715541753390284 : Unit := ()
def PySem.W.Fast.tw4181790274632258252 : Unit := ()
def PySem.W.Fast.tw10888609608719219277 : Unit := ()
def PySem.W.Fast.tw14721947344333040564 : Unit := ()
def PySem.W.Fast.tw833020864442717938 : Unit := ()
def PySem.W.Fast.tw10868668542968711661 : Unit := ()
def PySem.W.Fast.tw4616324802478839437 : Unit := ()
def PySem.W.Fast.tw12610703835502476252 : Unit := ()
def PySem.W.Fast.tw6968005904245408243 : Unit := ()
def PySem.W.Fast.tw4546075256687232510 : Unit := ()
def PySem.W.Fast.tw6957956636855203147 : Unit := ()
def PySem.W.Fast.tw13327200300152557755 : Unit := ()
def PySem.W.Fast.tw8138600277283975784 : Unit := ()
def PySem.W.Fast.tw5003058572378489822 : Unit := ()
def PySem.W.Fast.tw18382904940965455077 : Unit := ()
def PySem.W.Fast.tw6661667773886068271 : Unit := ()
def PySem.W.Fast.tw6969237985652251439 : Unit := ()
def PySem.W.Fast.tw13695596108290428608 : Unit := ()
def PySem.W.Fast.tw10711484978014435510 : Unit := ()
def PySem.W.Fast.tw18394092617461139399 : Unit := ()
def PySem.W.Fast.tw13382928565289508506 : Unit := ()
def PySem.W.Fast.tw3817127131166821453 : Unit := ()
def PySem.W.Fast.tw8104202668484345680 : Unit := ()
def PySem.W.Fast.tw15756936748920208176 : Unit := ()
def PySem.W.Fast.tw6178107244011020069 : Unit := ()
def PySem.W.Fast.tw10737417362403375444 : Unit := ()
def PySem.W.Fast.tw17838057170421844524 : Unit := ()
def PySem.W.Fast.tw9133672035741557979 : Unit := ()
def PySem.W.Fast.tw5831066516168811870 : Unit := ()
def PySem.W.Fast.tw9352159916307485781 : Unit := ()
def PySem.W.Fast.tw41440065873084945 : Unit := ()
def PySem.W.Fast.tw9304366333964121447 : Unit := ()
def PySem.W.Fast.tw6178020803096593410 : Unit := ()
def PySem.W.Fast.tw14794070928369050071 : Unit := ()
def PySem.W.Fast.tw9862800090971631929 : Unit := ()
def PySem.W.Fast.tw5087208031808965820 : Unit := ()
def PySem.W.Fast.tw162537431324578914 : Unit := ()
def PySem.W.Fast.tw12593296595671046891 : Unit := ()
def PySem.W.Fast.tw18431862966614886076 : Unit := ()
def PySem.W.Fast.tw18233617310479761817 : Unit := ()
def PySem.W.Fast.tw15905603339284814404 : Unit := ()
def PySem.W.Fast.tw2040934418946523464 : Unit := ()
def PySem.W.Fast.tw9928189794778622676 : Unit := ()
def PySem.W.Fast.tw17645111738671629602 : Unit := ()
def PySem.W.Fast.tw15032507827407175648 : Unit := ()
def PySem.W.Fast.tw8011460661447421483 : Unit := ()
def PySem.W.Fast.tw366716489801418809 : Unit := ()
def PySem.W.Fast.tw10719294825833115095 : Unit := ()
def PySem.W.Fast.tw8007794976796724512 : Unit := ()
def PySem.W.Fast.tw8687245435535891556 : Unit := ()
def PySem.W.Fast.tw2156299385022476186 : Unit := ()
def PySem.W.Fast.tw8182407733455389752 : Unit := ()
def PySem.W.Fast.tw5622802767471486160 : Unit := ()
def PySem.W.Fast.tw17127955409386058829 : Unit := ()
def PySem.W.Fast.tw11871388205443145142 : Unit := ()
def PySem.W.Fast.tw14174873471797314386 : Unit := ()
def PySem.W.Fast.tw14319660022258157615 : Unit := ()
def PySem.W.Fast.tw6213670943926176940 : Unit := ()
def PySem.W.Fast.tw17178012058111206435 : Unit := ()
def PySem.W.Fast.tw8623191891453669680 : Unit := ()
def PySem.W.Fast.tw15040929120823629461 : Unit := ()
def PySem.W.Fast.tw711532670336967582 : Unit := ()
def PySem.W.Fast.tw8616239354356096816 : Unit := ()
def PySem.W.Fast.tw7515813974204952357 : Unit := ()
def PySem.W.Fast.tw15138775539242551276 : Unit := ()
def PySem.W.Fast.tw201240631181807878 : Unit := ()
def PySem.W.Fast.tw15912955455001031385 : Unit := ()
def PySem.W.Fast.tw12195386433764469930 : Unit := ()
def PySem.W.Fast.tw7092167699922101772 : Unit := ()
def PySem.W.Fast.tw5955671658669574545 : Unit := ()
def PySem.W.Fast.tw12518117311770485474 : Unit := ()
def PySem.W.Fast.tw10349732131815746288 : Unit := ()
def PySem.W.Fast.tw17276388841528311889 : Unit := ()
def PySem.W.Fast.tw13893410683102617950 : Unit := ()
def PySem.W.Fast.tw14576873764210531725 : Unit := ()
def PySem.W.Fast.tw7734054037447768106 : Unit := ()
def PySem.W.Fast.tw10125464986281818967 : Unit := ()
def PySem.W.Fast.tw9066587929664621832 : Unit := ()
def PySem.W.Fast.tw15173188320804490419 : Unit := ()
def PySem.W.Fast.tw5753558261206229923 : Unit := ()
def PySem.W.Fast.tw1205558841762688946 : Unit := ()
def PySem.W.Fast.tw18302792260144197808 : Unit := ()
def PySem.W.Fast.tw7785252551332164246 : Unit := ()
def PySem.W.Fast.tw11591683756287599194 : Unit := ()
def PySem.W.Fast.tw12668572770585472048 : Unit := ()
def PySem.W.Fast.tw2795681319127319240 : Unit := ()
def PySem.W.Fast.tw3344151927826959690 : Unit := ()
def PySem.W.Fast.tw15118822641054080210 : Unit := ()
def PySem.W.Fast.tw2352635337623780788 : Unit := ()
def PySem.W.Fast.tw8345569769043501966 : Unit := ()
def PySem.W.Fast.tw9129816146883765474 : Unit := ()
def PySem.W.Fast.tw13413533161936979204 : Unit := ()
def PySem.W.Fast.tw11183605525392953371 : Unit := ()
def PySem.W.Fast.tw5863775876459032181 : Unit := ()
def PySem.W.Fast.tw3107719863635015572 : Unit := ()
def PySem.W.Fast.tw11048120885546891204 : Unit := ()
def PySem.W.Fast.tw4440297915554794527 : Unit := ()
def PySem.W.Fast.tw9561642309084562337 : Unit := ()
def PySem.W.Fast.tw14162729837349316872 : Unit := ()
def PySem.W.Fast.tw12592756033243534659 : Unit := ()
def PySem.W.Fast.tw9833594772600886383 : Unit := ()
def PySem.W.Fast.tw9412460351540372315 : Unit := ()
def PySem.W.Fast.tw4054875635326257816 : Unit := ()
def PySem.W.Fast.tw4638664295506234297 : Unit := ()
def PySem.W.Fast.tw6836815759815043355 : Unit := ()
def PySem.W.Fast.tw13296911002906276779 : Unit := ()
def PySem.W.Fast.tw6496914258955434491 : Unit := ()
def PySem.W.Fast.tw5204701464315394728 : Unit := ()
def PySem.W.Fast.tw7936247156567597326 : Unit := ()
def PySem.W.Fast.tw4370343780000557670 : Unit := ()
def PySem.W.Fast.tw1142975644389862405 : Unit := ()
def PySem.W.Fast.tw13001165436053441620 : Unit := ()
def PySem.W.Fast.tw5028055754465355922 : Unit := ()
def PySem.W.Fast.tw15753218669654709214 : Unit := ()
def PySem.W.Fast.tw9170792466093424219 : Unit := ()
def PySem.W.Fast.tw2586439708902217147 : Unit := ()
def PySem.W.Fast.tw2982916099346795220 : Unit := ()
def PySem.W.Fast.tw10311439542943455531 : Unit := ()
def PySem.W.Fast.tw11620842656386394085 : Unit := ()
def PySem.W.Fast.tw17130105783662402183 : Unit := ()
def PySem.W.Fast.tw2131876042464892107 : Unit := ()
def PySem.W.Fast.tw11729446719077476010 : Unit := ()
def PySem.W.Fast.tw17253859944089276629 : Unit := ()
def PySem.W.Fast.tw8584200582874152544 : Unit := ()
def PySem.W.Fast.tw16958023368156180322 : Unit := ()
def PySem.W.Fast.tw3899974879412328221 : Unit := ()
def PySem.W.Fast.tw7104749563004864036 : Unit := ()
def PySem.W.Fast.tw12551125872313136966 : Unit := ()
def PySem.W.Fast.tw17324193750563574555 : Unit := ()
def PySem.W.Fast.tw5378113373379781235 : Unit := ()
def PySem.W.Fast.tw17638264070469820092 : Unit := ()
def PySem.W.Fast.tw15323876343481271337 : Unit := ()
def PySem.W.Fast.tw7262255858977401526 : Unit := ()
def PySem.W.Fast.tw17601942333365364658 : Unit := ()
def PySem.W.Fast.tw5696206014426455002 : Unit := ()
def PySem.W.Fast.tw4393214788198035524 : Unit := ()
def PySem.W.Fast.tw8565476272651308563 : Unit := ()
def PySem.W.Fast.tw3735210497199313472 : Unit := ()
def PySem.W.Fast.tw8877485953583208897 : Unit := ()
def PySem.W.Fast.tw6096712410598660176 : Unit := ()
def PySem.W.Fast.tw1975204977688905017 : Unit := ()
def PySem.W.Fast.tw9249781974058023109 : Unit := ()
def PySem.W.Fast.tw5031517597585218365 : Unit := ()
def PySem.W.Fast.tw8391345535020215472 : Unit := ()
def PySem.W.Fast.tw11861603968257096293 : Unit := ()
def PySem.W.Fast.tw15276872666119174470 : Unit := ()
def PySem.W.Fast.tw4801165659247712163 : Unit := ()
def PySem.W.Fast.tw2193443221571496423 : Unit := ()
def PySem.W.Fast.tw6674161603972730403 : Unit := ()
def PySem.W.Fast.tw15609149694171750812 : Unit := ()
def PySem.W.Fast.tw5361560137916423294 : Unit := ()
def PySem.W.Fast.tw16687074772906186909 : Unit := ()
def PySem.W.Fast.tw11799216510569823470 : Unit := ()
def PySem.W.Fast.tw473194441279558769 : Unit := ()
def PySem.W.Fast.tw435729622048979149 : Unit := ()
def PySem.W.Fast.tw3522102902116276791 : Unit := ()
def PySem.W.Fast.tw15625975767309577231 : Unit := ()
def PySem.W.Fast.tw628440198267888465 : Unit := ()
def PySem.W.Fast.tw10403311380641276017 : Unit := ()
def PySem.W.Fast.tw13402111148213212229 : Unit := ()
def PySem.W.Fast.tw5729263332955534617 : Unit := ()
def PySem.W.Fast.tw7898523343650546040 : Unit := ()
def PySem.W.Fast.tw12005323579545301202 : Unit := ()
def PySem.W.Fast.tw18131112229702238224 : Unit := ()
def PySem.W.Fast.tw17876699449031566647 : Unit := ()
def PySem.W.Fast.tw14810690916897785306 : Unit := ()
def PySem.W.Fast.tw4092083392889053243 : Unit := ()
def PySem.W.Fast.tw16898081431811951537 : Unit := ()
def PySem.W.Fast.tw16349984821815673372 : Unit := ()
def PySem.W.Fast.tw4320552325977104833 : Unit := ()
def PySem.W.Fast.tw2391435285402905704 : Unit := ()
def PySem.W.Fast.tw13595673211560468323 : Unit := ()
def PySem.W.Fast.tw703260142750279090 : Unit := ()
def PySem.W.Fast.tw17236605401647499166 : Unit := ()
def PySem.W.Fast.tw5113943317585489305 : Unit := ()
def PySem.W.Fast.tw6302210625647163586 : Unit := ()
def PySem.W.Fast.tw13348989353219819042 : Unit := ()
def PySem.W.Fast.tw15939307385508987833 : Unit := ()
def PySem.W.Fast.tw2185732411766046476 : Unit := ()
def PySem.W.Fast.tw2254991382786567668 : Unit := ()
def PySem.W.Fast.tw15661154954149384596 : Unit := ()
def PySem.W.Fast.tw4426386886409257684 : Unit := ()
def PySem.W.Fast.tw3018659313271777105 : Unit := ()
def PySem.W.Fast.tw2499331884353149644 : Unit := ()
def PySem.W.Fast.tw8544779273649265255 : Unit := ()
def PySem.W.Fast.tw5522611930580784451 : Unit := ()
def PySem.W.Fast.tw6142713483104307189 : Unit := ()
def PySem.W.Fast.tw6663668615613211588 : Unit := ()
def PySem.W.Fast.tw821771758669350703 : Unit := ()
def PySem.W.Fast.tw17850892895223908281 : Unit := ()
def PySem.W.Fast.tw14226460227211089539 : Unit := ()
def PySem.W.Fast.tw14357545609360709034 : Unit := ()
def PySem.W.Fast.tw8812796807133768923 : Unit := ()
def PySem.W.Fast.tw6489019930620189551 : Unit := ()
def PySem.W.Fast.tw11889806113897031881 : Unit := ()
def PySem.W.Fast.tw5568105896069507676 : Unit := ()
def PySem.W.Fast.tw5989995782543170348 : Unit := ()
def PySem.W.Fast.tw18250035989282390164 : Unit := ()
def PySem.W.Fast.tw11961637425363539125 : Unit := ()
def PySem.W.Fast.tw5449399353152764304 : Unit := ()
def PySem.W.Fast.tw1056900587804902614 : Unit := ()
def PySem.W.Fast.tw10760915457224033097 : Unit := ()
def PySem.W.Fast.tw10511011303431696648 : Unit := ()
def PySem.W.Fast.tw560657740086030437 : Unit := ()
def PySem.W.Fast.tw9394074439280726084 : Unit := ()
def PySem.W.Fast.tw2897932210495347717 : Unit := ()
def PySem.W.Fast.tw12317459926279421291 : Unit := ()
def PySem.W.Fast.tw9316441478922360080 : Unit := ()
def PySem.W.Fast.tw12378832477037808197 : Unit := ()
def PySem.W.Fast.tw7192246095814740720 : Unit := ()
def PySem.W.Fast.tw9691932840152234049 : Unit := ()
def PySem.W.Fast.tw15109616444515416417 : Unit := ()
def PySem.W.Fast.tw18238382704923642048 : Unit := ()
def PySem.W.Fast.tw252737237751086136 : Unit := ()
def PySem.W.Fast.tw15436478298968779683 : Unit := ()
def PySem.W.Fast.tw16931109320080942340 : Unit := ()
def PySem.W.Fast.tw8041495913308926878 : Unit := ()
def PySem.W.Fast.tw6313721369720579883 : Unit := ()
def PySem.W.Fast.tw10809438829770895219 : Unit := ()
def PySem.W.Fast.tw14378059703003729713 : Unit := ()
def PySem.W.Fast.tw11606972291387843617 : Unit := ()
def PySem.W.Fast.tw15762356647324418048 : Unit := ()
def PySem.W.Fast.tw13414561415670156979 : Unit := ()
def PySem.W.Fast.tw7160225393001621738 : Unit := ()
def PySem.W.Fast.tw18128556134155252587 : Unit := ()
def PySem.W.Fast.tw18166750078506114918 : Unit := ()
def PySem.W.Fast.tw977966153364703070 : Unit := ()
def PySem.W.Fast.tw16831738644428191346 : Unit := ()
def PySem.W.Fast.tw10988328217050030046 : Unit := ()
def PySem.W.Fast.tw11421595646244381779 : Unit := ()
def PySem.W.Fast.tw1835219776472667595 : Unit := ()
def PySem.W.Fast.tw16185616978349477855 : Unit := ()
def PySem.W.Fast.tw4606021002126251506 : Unit := ()
def PySem.W.Fast.tw10824407961760549487 : Unit := ()
def PySem.W.Fast.tw6218416306188452651 : Unit := ()
def PySem.W.Fast.tw14387169911435654264 : Unit := ()
def PySem.W.Fast.tw15576812516758633722 : Unit := ()
def PySem.W.Fast.tw13042805396627648666 : Unit := ()
def PySem.W.Fast.tw10303196288133304812 : Unit := ()
def PySem.W.Fast.tw7801644858093211339 : Unit := ()
def PySem.W.Fast.tw13493198828407129779 : Unit := ()
def PySem.W.Fast.tw3876911223968315580 : Unit := ()
def PySem.W.Fast.tw17157474790332318416 : Unit := ()
def PySem.W.Fast.tw6105830355392855032 : Unit := ()
def PySem.W.Fast.tw16809306323520920246 : Unit := ()
def PySem.W.Fast.tw14014108188316177217 : Unit := ()
def PySem.W.Fast.tw2475225970541411601 : Unit := ()
def PySem.W.Fast.tw2653659365324761993 : Unit := ()
def PySem.W.Fast.tw13704664568073996075 : Unit := ()
def PySem.W.Fast.tw11893783016960570005 : Unit := ()
def PySem.W.Fast.tw12308508868793916902 : Unit := ()
def PySem.W.Fast.tw13126738994973188803 : Unit := ()
def PySem.W.Fast.tw8441011047832413620 : Unit := ()
def PySem.W.Fast.tw15719696702490258885 : Unit := ()
def PySem.W.Fast.tw14137227309925715807 : Unit := ()
def PySem.W.Fast.tw7023489390188688639 : Unit := ()
def PySem.W.Fast.tw4326935760401674157 : Unit := ()
def PySem.W.Fast.tw15026652171744327204 : Unit := ()
def PySem.W.Fast.tw8546057821135428399 : Unit := ()
def PySem.W.Fast.tw17511051729468099491 : Unit := ()
def PySem.W.Fast.tw12721677059340889549 : Unit := ()
def PySem.W.Fast.tw8013735616448820730 : Unit := ()
def PySem.W.Fast.tw16046762784432156347 : Unit := ()
def PySem.W.Fast.tw13464730665853614235 : Unit := ()
def PySem.W.Fast.tw9273213305039291619 : Unit := ()
def PySem.W.Fast.tw6442872184480898927 : Unit := ()
def PySem.W.Fast.tw10905939537973891839 : Unit := ()
def PySem.W.Fast.tw4647411007720231554 : Unit := ()
def PySem.W.Fast.tw13445669813475276604 : Unit := ()
def PySem.W.Fast.tw2863216149889398172 : Unit := ()
def PySem.W.Fast.tw16343750538252077412 : Unit := ()
def PySem.W.Fast.tw12530927534837834680 : Unit := ()
def PySem.W.Fast.tw6322747798344436796 : Unit := ()
def PySem.W.Fast.tw12544702450392881622 : Unit := ()
def PySem.W.Fast.tw10813743756029557826 : Unit := ()
def PySem.W.Fast.tw3318584760075405145 : Unit := ()
def PySem.W.Fast.tw15930020924891239785 : Unit := ()
def PySem.W.Fast.tw3980685490391533401 : Unit := ()
def PySem.W.Fast.tw6843636525754629358 : Unit := ()
def PySem.W.Fast.tw1265807721019747428 : Unit := ()
def PySem.W.Fast.tw8850342537567678296 : Unit := ()
def PySem.W.Fast.tw5269026642232760427 : Unit := ()
def PySem.W.Fast.tw14486963580268136833 : Unit := ()
def PySem.W.Fast.tw462414022668411346 : Unit := ()
def PySem.W.Fast.tw14364882563463170938 : Unit := ()
def PySem.W.Fast.tw1109624179134076275 : Unit := ()
def PySem.W.Fast.tw18094919513586154126 : Unit := ()
def PySem.W.Fast.tw6437465881192429004 : Unit := ()
def PySem.W.Fast.tw8499564897449817223 : Unit := ()
def PySem.W.Fast.tw7642038915542445827 : Unit := ()
def PySem.W.Fast.tw2089804628009010394 : Unit := ()
def PySem.W.Fast.tw5167670749912048084 : Unit := ()
def PySem.W.Fast.tw10293569834356638311 : Unit := ()
def PySem.W.Fast.tw13799629612169190682 : Unit := ()
def PySem.W.Fast.tw2545531546053871917 : Unit := ()
def PySem.W.Fast.tw2808559340722927541 : Unit := ()
def PySem.W.Fast.tw5071228532158274329 : Unit := ()
def PySem.W.Fast.tw1027942863872103285 : Unit := ()
def PySem.W.Fast.tw17686781151313297555 : Unit := ()
def PySem.W.Fast.tw12248113738989061539 : Unit := ()
def PySem.W.Fast.tw9695761137371195006 : Unit := ()
def PySem.W.Fast.tw6612333746454187835 : Unit := ()
def PySem.W.Fast.tw3931440501678854026 : Unit := ()
def PySem.W.Fast.tw17943088707220297093 : Unit := ()
def PySem.W.Fast.tw7983622223825273605 : Unit := ()
def PySem.W.Fast.tw16170870479123127117 : Unit := ()
def PySem.W.Fast.tw2205783425340042935 : Unit := ()
def PySem.W.Fast.tw16712166644085441855 : Unit := ()
def PySem.W.Fast.tw11883913452924549160 : Unit := ()
def PySem.W.Fast.tw16364635926777093450 : Unit := ()
def PySem.W.Fast.tw2846852970408362386 : Unit := ()
def PySem.W.Fast.tw16126976614343708682 : Unit := ()
def PySem.W.Fast.tw11369517480523058112 : Unit := ()
def PySem.W.Fast.tw10339151008581136660 : Unit := ()
def PySem.W.Fast.tw14213697273685182037 : Unit := ()
def PySem.W.Fast.tw9320847304609408679 : Unit := ()
def PySem.W.Fast.tw6587516114744614238 : Unit := ()
def PySem.W.Fast.tw13193971825886137401 : Unit := ()
def PySem.W.Fast.tw14646933709420870273 : Unit := ()
def PySem.W.Fast.tw518657047402393311 : Unit := ()
def PySem.W.Fast.tw17014167969031127769 : Unit := ()
def PySem.W.Fast.tw11171569100693702789 : Unit := ()
def PySem.W.Fast.tw13398438338477285066 : Unit := ()
def PySem.W.Fast.tw4983697552177480068 : Unit := ()
def PySem.W.Fast.tw9572740013678215586 : Unit := ()
def PySem.W.Fast.tw16057152220414278142 : Unit := ()
def PySem.W.Fast.tw2262617304549823178 : Unit := ()
def PySem.W.Fast.tw18227799128247331862 : Unit := ()
def PySem.W.Fast.tw16619034068356572849 : Unit := ()
def PySem.W.Fast.tw13988174760479248018 : Unit := ()
def PySem.W.Fast.tw8470487476043797278 : Unit := ()
def PySem.W.Fast.tw3935393472639614773 : Unit := ()
def PySem.W.Fast.tw8634869285031507913 : Unit := ()
def PySem.W.Fast.tw1017017847855576325 : Unit := ()
def PySem.W.Fast.tw9710435588750776721 : Unit := ()
def PySem.W.Fast.tw6737201552154788496 : Unit := ()
def PySem.W.Fast.tw4411444741161383459 : Unit := ()
def PySem.W.Fast.tw4996436103904120610 : Unit := ()
def PySem.W.Fast.tw16423277018679754030 : Unit := ()
def PySem.W.Fast.tw17496911754939219091 : Unit := ()
def PySem.W.Fast.tw13503798678501279854 : Unit := ()
def PySem.W.Fast.tw13902195304960064893 : Unit := ()
def PySem.W.Fast.tw13970789027215314621 : Unit := ()
def PySem.W.Fast.tw10799545715845645986 : Unit := ()
def PySem.W.Fast.tw10161147419101986115 : Unit := ()
def PySem.W.Fast.tw3648918787451766917 : Unit := ()
def PySem.W.Fast.tw13737834594439110080 : Unit := ()
def PySem.W.Fast.tw18341214595804001660 : Unit := ()
def PySem.W.Fast.tw9516113663419890534 : Unit := ()
def PySem.W.Fast.tw11800976820318279973 : Unit := ()
def PySem.W.Fast.tw6225660078889875228 : Unit := ()
def PySem.W.Fast.tw9665801067709060836 : Unit := ()
def PySem.W.Fast.tw9262361026985066620 : Unit := ()
def PySem.W.Fast.tw17046063437392174610 : Unit := ()
def PySem.W.Fast.tw15402647530195662644 : Unit := ()
def PySem.W.Fast.tw10696940053521444192 : Unit := ()
def PySem.W.Fast.tw3746345318016729547 : Unit := ()
def PySem.W.Fast.tw2742363025101108792 : Unit := ()
def PySem.W.Fast.tw12504409537024674265 : Unit := ()
def PySem.W.Fast.tw13018536506534603630 : Unit := ()
def PySem.W.Fast.tw12236862864694659742 : Unit := ()
def PySem.W.Fast.tw11581751674479706028 : Unit := ()
def PySem.W.Fast.tw1761184071913531495 : Unit := ()
def PySem.W.Fast.tw5946615343446738158 : Unit := ()
def PySem.W.Fast.tw9508761447447392010 : Unit := ()
def PySem.W.Fast.tw10584908941003812082 : Unit := ()
def PySem.W.Fast.tw16627460318768463683 : Unit := ()
def PySem.W.Fast.tw7717894014918032630 : Unit := ()
def PySem.W.Fast.tw17343464171088112958 : Unit := ()
def PySem.W.Fast.tw4662401851294113722 : Unit := ()
def PySem.W.Fast.tw16440871401681466270 : Unit := ()
def PySem.W.Fast.tw13197607890436790975 : Unit := ()
def PySem.W.Fast.tw13454756091717104480 : Unit := ()
def PySem.W.Fast.tw2872424295664228537 : Unit := ()
def PySem.W.Fast.tw14534373497095852429 : Unit := ()
def PySem.W.Fast.tw13692544077482760808 : Unit := ()
def PySem.W.Fast.tw10165996321122703027 : Unit := ()
def PySem.W.Fast.tw6716756253228906678 : Unit := ()
def PySem.W.Fast.tw10420156988493659957 : Unit := ()
def PySem.W.Fast.tw14097816220291565251 : Unit := ()
def PySem.W.Fast.tw232566926993292832 : Unit := ()
def PySem.W.Fast.tw3191869726142105963 : Unit := ()
def PySem.W.Fast.tw4129780823067477911 : Unit := ()
def PySem.W.Fast.tw8551721936900120087 : Unit := ()
def PySem.W.Fast.tw11985326149452653008 : Unit := ()
def PySem.W.Fast.tw12259661440642858059 : Unit := ()
def PySem.W.Fast.tw5751419826900291338 : Unit := ()
def PySem.W.Fast.tw9910470504257261384 : Unit := ()
open PySem PySem.W PyProof.Rows
set_option maxRecDepth 100000 in
set_option maxHeartbeats 0 in
theorem PySem.Challenge.cw_rotafair_k53_no_rota_below_a_floor_holds : PySem.Challenge.rw_rotafair_k53_no_rota_below_a_floor.Holds := by
  w_on; o_law; z_head; (case hw => w_witness2)
  k_fill
  refine K53.walkX (fun _ => rfl) ?_
  refine K53.walk (l := PySem.Challenge.rw_rotafair_k53_no_rota_below_a_floor) rfl rfl (fun w h Y => Y) ?F
  case F =>
    intro w mg fa h KX G hmg
    refine' K53.all_mk KX G hmg ?g_Person ?g_House ?g_Costs ?g_EvenCosts ?g_ChangeCosts ?g_LevelCosts ?g_Paper ?g_Places ?g_Prices ?a1 ?i1 ?l1 ?c1 ?k1 ?a2 ?i2 ?l2 ?c2 ?k2 ?a3 ?i3 ?l3 ?c3 ?k3 ?a4 ?l4 ?c4 ?k4 ?a5 ?l5 ?c5 ?k5 ?a6 ?i6 ?l6 ?c6 ?k6 ?a7 ?i7 ?l7 ?c7 ?k7 ?a8 ?i8 ?l8 ?c8 ?k8 ?a9 ?i9 ?l9 ?c9 ?k9 ?a10 ?i10 ?l10 ?c10 ?k10 ?a11 ?i11 ?l11 ?c11 ?k11 ?a12 ?i12 ?l12 ?c12 ?k12 ?a13 ?i13 ?l13 ?c13 ?k13 ?a14 ?i14 ?l14 ?c14 ?k14 ?a15 ?i15 ?l15 ?c15 ?k15 ?a16 ?i16 ?l16 ?c16 ?k16 ?a17 ?i17 ?l17 ?c17 ?k17 ?a18 ?i18 ?l18 ?c18 ?k18 ?a19 ?l19 ?c19 ?k19 ?a20 ?l20 ?c20 ?k20 ?a21 ?l21 ?c21 ?k21 ?a22 ?l22 ?c22 ?k22 ?a23 ?i23 ?l23 ?c23 ?k23 ?a24 ?i24 ?l24 ?c24 ?k24 ?a25 ?l25 ?c25 ?k25 ?a26 ?i26 ?l26 ?c26 ?k26 ?a27 ?i27 ?l27 ?c27 ?k27 ?a28 ?l28 ?c28 ?k28 ?a29 ?l29 ?c29 ?k29 ?a30 ?l30 ?c30 ?k30 ?a31 ?l31 ?c31 ?k31 ?a32 ?l32 ?c32 ?k32 ?a33 ?l33 ?c33 ?k33 ?a34 ?l34 ?c34 ?k34 ?a35 ?l35 ?c35 ?k35 ?a36 ?l36 ?c36 ?k36 ?a37 ?l37 ?c37 ?k37 ?a38 ?l38 ?c38 ?k38 ?a39 ?l39 ?c39 ?k39 ?a40 ?l40 ?c40 ?k40 ?a41 ?l41 ?c41 ?k41 ?a42 ?l42 ?c42 ?k42 ?a43 ?l43 ?c43 ?k43 ?a44 ?i44 ?l44 ?c44 ?k44 ?a45 ?l45 ?c45 ?k45 ?a46 ?l46 ?c46 ?k46 ?pg_Person ?hd_Person ?po_Person ?sa_Person ?mk_Person ?kc_Person ?pg_House ?hd_House ?po_House ?sa_House ?mk_House ?kc_House ?pg_Costs ?hd_Costs ?po_Costs ?sa_Costs ?mk_Costs ?kc_Costs ?pg_EvenCosts ?hd_EvenCosts ?po_EvenCosts ?sa_EvenCosts ?mk_EvenCosts ?kc_EvenCosts ?pg_ChangeCosts ?hd_ChangeCosts ?po_ChangeCosts ?sa_ChangeCosts ?mk_ChangeCosts ?kc_ChangeCosts ?pg_LevelCosts ?hd_LevelCosts ?po_LevelCosts ?sa_LevelCosts ?mk_LevelCosts ?kc_LevelCosts ?pg_Paper ?hd_Paper ?po_Paper ?sa_Paper ?mk_Paper ?kc_Paper ?pg_Places ?hd_Places ?po_Places ?sa_Places ?mk_Places ?kc_Places ?pg_Prices ?hd_Prices ?po_Prices ?sa_Prices ?mk_Prices ?kc_Prices ?yn ?yt ?ya_Paper ?ym_Paper ?i_Paper_Paper ?ya_Places ?ym_Places ?i_Places_Paper ?ya_Prices ?ym_Prices ?i_Prices_Paper ?n_Person_name ?n_Person_skills ?n_Person_most ?n_Person_carried ?n_Person_past ?n_House_days ?n_House_kinds ?n_House_needs ?n_House_persons ?n_House_leave ?n_House_wishes ?n_House_rules ?n_House_pairs ?n_EvenCosts_weight ?n_EvenCosts_burdens ?n_EvenCosts_wished ?n_ChangeCosts_rows ?n_LevelCosts_burdens ?n_LevelCosts_level ?n_Prices_persons ?n_Prices_needs ?n_Places_places ?z_bool ?z_enumerate ?z_int ?z_isinstance ?z_len ?z_list ?z_max ?z_min ?z_range ?z_set ?z_sum ?z_zip ?oi_Costs ?oi_Paper
    (case g_Person => k_is)
    (case g_House => k_is)
    (case g_Costs => k_is)
    (case g_EvenCosts => k_is)
    (case g_ChangeCosts => k_is)
    (case g_LevelCosts => k_is)
    (case g_Paper => k_is)
    (case g_Places => k_is)
    (case g_Prices => k_is)
    (case a1 => k_is)
    (case i1 => k_is)
    (case l1 => k_is)
    (case c1 => k_is)
    (case k1 => k_is)
    (case a2 => k_is)
    (case i2 => k_is)
    (case l2 => k_is)
    (case c2 => k_is)
    (case k2 => k_is)
    (case a3 => k_is)
    (case i3 => k_is)
    (case l3 => k_is)
    (case c3 => k_is)
    (case k3 => k_is)
    (case a4 => k_is)
    (case l4 => k_is)
    (case c4 => k_is)
    (case k4 => k_is)
    (case a5 => k_is)
    (case l5 => k_is)
    (case c5 => k_is)
    (case k5 => k_is)
    (case a6 => k_is)
    (case i6 => k_is)
    (case l6 => k_is)
    (case c6 => k_is)
    (case k6 => k_is)
    (case a7 => k_is)
    (case i7 => k_is)
    (case l7 => k_is)
    (case c7 => k_is)
    (case k7 => k_is)
    (case a8 => k_is)
    (case i8 => k_is)
    (case l8 => k_is)
    (case c8 => k_is)
    (case k8 => k_is)
    (case a9 => k_is)
    (case i9 => k_is)
    (case l9 => k_is)
    (case c9 => k_is)
    (case k9 => k_is)
    (case a10 => k_is)
    (case i10 => k_is)
    (case l10 => k_is)
    (case c10 => k_is)
    (case k10 => k_is)
    (case a11 => k_is)
    (case i11 => k_is)
    (case l11 => k_is)
    (case c11 => k_is)
    (case k11 => k_is)
    (case a12 => k_is)
    (case i12 => k_is)
    (case l12 => k_is)
    (case c12 => k_is)
    (case k12 => k_is)
    (case a13 => k_is)
    (case i13 => k_is)
    (case l13 => k_is)
    (case c13 => k_is)
    (case k13 => k_is)
    (case a14 => k_is)
    (case i14 => k_is)
    (case l14 => k_is)
    (case c14 => k_is)
    (case k14 => k_is)
    (case a15 => k_is)
    (case i15 => k_is)
    (case l15 => k_is)
    (case c15 => k_is)
    (case k15 => k_is)
    (case a16 => k_is)
    (case i16 => k_is)
    (case l16 => k_is)
    (case c16 => k_is)
    (case k16 => k_is)
    (case a17 => k_is)
    (case i17 => k_is)
    (case l17 => k_is)
    (case c17 => k_is)
    (case k17 => k_is)
    (case a18 => k_is)
    (case i18 => k_is)
    (case l18 => k_is)
    (case c18 => k_is)
    (case k18 => k_is)
    (case a19 => k_is)
    (case l19 => k_is)
    (case c19 => k_is)
    (case k19 => k_is)
    (case a20 => k_is)
    (case l20 => k_is)
    (case c20 => k_is)
    (case k20 => k_is)
    (case a21 => k_is)
    (case l21 => k_is)
    (case c21 => k_is)
    (case k21 => k_is)
    (case a22 => k_is)
    (case l22 => k_is)
    (case c22 => k_is)
    (case k22 => k_is)
    (case a23 => k_is)
    (case i23 => k_is)
    (case l23 => k_is)
    (case c23 => k_is)
    (case k23 => k_is)
    (case a24 => k_is)
    (case i24 => k_is)
    (case l24 => k_is)
    (case c24 => k_is)
    (case k24 => k_is)
    (case a25 => k_is)
    (case l25 => k_is)
    (case c25 => k_is)
    (case k25 => k_is)
    (case a26 => k_is)
    (case i26 => k_is)
    (case l26 => k_is)
    (case c26 => k_is)
    (case k26 => k_is)
    (case a27 => k_is)
    (case i27 => k_is)
    (case l27 => k_is)
    (case c27 => k_is)
    (case k27 => k_is)
    (case a28 => k_is)
    (case l28 => k_is)
    (case c28 => k_is)
    (case k28 => k_is)
    (case a29 => k_is)
    (case l29 => k_is)
    (case c29 => k_is)
    (case k29 => k_is)
    (case a30 => k_is)
    (case l30 => k_is)
    (case c30 => k_is)
    (case k30 => k_is)
    (case a31 => k_is)
    (case l31 => k_is)
    (case c31 => k_is)
    (case k31 => k_is)
    (case a32 => k_is)
    (case l32 => k_is)
    (case c32 => k_is)
    (case k32 => k_is)
    (case a33 => k_is)
    (case l33 => k_is)
    (case c33 => k_is)
    (case k33 => k_is)
    (case a34 => k_is)
    (case l34 => k_is)
    (case c34 => k_is)
    (case k34 => k_is)
    (case a35 => k_is)
    (case l35 => k_is)
    (case c35 => k_is)
    (case k35 => k_is)
    (case a36 => k_is)
    (case l36 => k_is)
    (case c36 => k_is)
    (case k36 => k_is)
    (case a37 => k_is)
    (case l37 => k_is)
    (case c37 => k_is)
    (case k37 => k_is)
    (case a38 => k_is)
    (case l38 => k_is)
    (case c38 => k_is)
    (case k38 => k_is)
    (case a39 => k_is)
    (case l39 => k_is)
    (case c39 => k_is)
    (case k39 => k_is)
    (case a40 => k_is)
    (case l40 => k_is)
    (case c40 => k_is)
    (case k40 => k_is)
    (case a41 => k_is)
    (case l41 => k_is)
    (case c41 => k_is)
    (case k41 => k_is)
    (case a42 => k_is)
    (case l42 => k_is)
    (case c42 => k_is)
    (case k42 => k_is)
    (case a43 => k_is)
    (case l43 => k_is)
    (case c43 => k_is)
    (case k43 => k_is)
    (case a44 => k_is)
    (case i44 => k_is)
    (case l44 => k_is)
    (case c44 => k_is)
    (case k44 => k_is)
    (case a45 => k_is)
    (case l45 => k_is)
    (case c45 => k_is)
    (case k45 => k_is)
    (case a46 => k_is)
    (case l46 => k_is)
    (case c46 => k_is)
    (case k46 => k_is)
    (case pg_Person => k_is)
    (case hd_Person => k_is)
    (case po_Person => k_is)
    (case sa_Person => k_is)
    (case mk_Person => k_is)
    (case kc_Person => k_is)
    (case pg_House => k_is)
    (case hd_House => k_is)
    (case po_House => k_is)
    (case sa_House => k_is)
    (case mk_House => k_is)
    (case kc_House => k_is)
    (case pg_Costs => k_is)
    (case hd_Costs => k_is)
    (case po_Costs => k_is)
    (case sa_Costs => k_is)
    (case mk_Costs => k_is)
    (case kc_Costs => k_is)
    (case pg_EvenCosts => k_is)
    (case hd_EvenCosts => k_is)
    (case po_EvenCosts => k_is)
    (case sa_EvenCosts => k_is)
    (case mk_EvenCosts => k_is)
    (case kc_EvenCosts => k_is)
    (case pg_ChangeCosts => k_is)
    (case hd_ChangeCosts => k_is)
    (case po_ChangeCosts => k_is)
    (case sa_ChangeCosts => k_is)
    (case mk_ChangeCosts => k_is)
    (case kc_ChangeCosts => k_is)
    (case pg_LevelCosts => k_is)
    (case hd_LevelCosts => k_is)
    (case po_LevelCosts => k_is)
    (case sa_LevelCosts => k_is)
    (case mk_LevelCosts => k_is)
    (case kc_LevelCosts => k_is)
    (case pg_Paper => k_is)
    (case hd_Paper => k_is)
    (case po_Paper => k_is)
    (case sa_Paper => k_is)
    (case mk_Paper => k_is)
    (case kc_Paper => k_is)
    (case pg_Places => k_is)
    (case hd_Places => k_is)
    (case po_Places => k_is)
    (case sa_Places => k_is)
    (case mk_Places => k_is)
    (case kc_Places => k_is)
    (case pg_Prices => k_is)
    (case hd_Prices => k_is)
    (case po_Prices => k_is)
    (case sa_Prices => k_is)
    (case mk_Prices => k_is)
    (case kc_Prices => k_is)
    (case yn => k_is)
    (case yt => k_is)
    (case ya_Paper => k_is)
    (case ym_Paper => k_is)
    (case i_Paper_Paper => kit_is)
    (case ya_Places => k_is)
    (case ym_Places => k_is)
    (case i_Places_Paper => kit_is)
    (case ya_Prices => k_is)
    (case ym_Prices => k_is)
    (case i_Prices_Paper => kit_is)
    (case n_Person_name => k_is)
    (case n_Person_skills => k_is)
    (case n_Person_most => k_is)
    (case n_Person_carried => k_is)
    (case n_Person_past => k_is)
    (case n_House_days => k_is)
    (case n_House_kinds => k_is)
    (case n_House_needs => k_is)
    (case n_House_persons => k_is)
    (case n_House_leave => k_is)
    (case n_House_wishes => k_is)
    (case n_House_rules => k_is)
    (case n_House_pairs => k_is)
    (case n_EvenCosts_weight => k_is)
    (case n_EvenCosts_burdens => k_is)
    (case n_EvenCosts_wished => k_is)
    (case n_ChangeCosts_rows => k_is)
    (case n_LevelCosts_burdens => k_is)
    (case n_LevelCosts_level => k_is)
    (case n_Prices_persons => k_is)
    (case n_Prices_needs => k_is)
    (case n_Places_places => k_is)
    (case z_bool => k_is)
    (case z_enumerate => k_is)
    (case z_int => k_is)
    (case z_isinstance => k_is)
    (case z_len => k_is)
    (case z_list => k_is)
    (case z_max => k_is)
    (case z_min => k_is)
    (case z_range => k_is)
    (case z_set => k_is)
    (case z_sum => k_is)
    (case z_zip => k_is)
    (case oi_Costs => k_is)
    (case oi_Paper => k_is)
#print axioms PySem.Challenge.cw_rotafair_k53_no_rota_below_a_floor_holds
