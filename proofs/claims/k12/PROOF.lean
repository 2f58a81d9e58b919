import PyProof.Rows.All
import Wide.All
import OpenK.AllK
import Wide.FinOn
import Lean
import PyProof.EqAt
import PyProof.EqKinds
import PyProof.TupleCall
import PySem.Challenge.RW_rotafair_k12_whole_no_shorter_row

set_option Elab.async false
set_option linter.all false
set_option maxRecDepth 100000
/-! THE HAND LAYER, for ints, bools, texts, own classes, LISTS and tuples (index, slices, in, append, pop ..), calls, loops. Paste it whole ahead of your own text; what your proof does not reach may be deleted. -/
namespace L2
open PySem PySem.Spec PyProof.Rows

/-- a key: an int or a str -/
abbrev Key := Sum Int Str
def keyIs : Key → Value → Bool
  | .inl k, v => Value.isInt k v
  | .inr x, v => Value.isStrOf x v
def keyH (w : World) : Key → Int
  | .inl k => hashInt k
  | .inr x => hashStr w x
theorem keyIs_shape : ∀ {k : Key} {v : Value}, keyIs k v = true → (∃ i t, k = Sum.inl i ∧ v = Value.int i t) ∨ (∃ x t, k = Sum.inr x ∧ v = Value.str x t)
  | .inl i, v, h => by
    obtain ⟨t, e⟩ := Value.isInt_shape (k := i) (v := v) h
    exact .inl ⟨i, t, rfl, e⟩
  | .inr x, v, h => by
    obtain ⟨t, e⟩ := Value.isStrOf_shape (x := x) (v := v) h
    exact .inr ⟨x, t, rfl, e⟩
theorem keyIs_int (i : Int) (t : Tok) : keyIs (.inl i) (.int i t) = true := by simp [keyIs, Value.isInt]
theorem keyIs_str (x : Str) (t : Tok) : keyIs (.inr x) (.str x t) = true := by simp [keyIs, Value.isStrOf]
theorem key_ll (a b : Int) : decide ((Sum.inl a : Key) = Sum.inl b) = (a == b) := by
  by_cases e : a = b
  · subst e; simp
  · have h : ¬ (Sum.inl a : Key) = Sum.inl b := fun q => e (Sum.inl.inj q)
    rw [decide_eq_false h]
    exact (beq_eq_false_iff_ne.mpr e).symm
theorem key_rr (a b : Str) : decide ((Sum.inr a : Key) = Sum.inr b) = decide (a = b) := by
  by_cases e : a = b
  · subst e; simp
  · have h : ¬ (Sum.inr a : Key) = Sum.inr b := fun q => e (Sum.inr.inj q)
    rw [decide_eq_false h, decide_eq_false e]
theorem key_lr (a : Int) (b : Str) : decide ((Sum.inl a : Key) = Sum.inr b) = false := decide_eq_false (fun q => nomatch q)
theorem key_rl (a : Str) (b : Int) : decide ((Sum.inr a : Key) = Sum.inl b) = false := decide_eq_false (fun q => nomatch q)

def mixKind (prog : Program) (w : World) : PySem.KeyKind prog w Key where
  is := keyIs
  hash := keyH w
  inj := fun v a b ha hb => by
    rcases keyIs_shape ha with ⟨i, t, rfl, rfl⟩ | ⟨x, t, rfl, rfl⟩
    · rcases keyIs_shape hb with ⟨j, u, rfl, e⟩ | ⟨y, u, rfl, e⟩
      · injection e with e1 _; rw [e1]
      · exact nomatch e
    · rcases keyIs_shape hb with ⟨j, u, rfl, e⟩ | ⟨y, u, rfl, e⟩
      · exact nomatch e
      · injection e with e1 _; rw [e1]
  byValue := fun k v h => by
    rcases keyIs_shape h with ⟨i, t, rfl, rfl⟩ | ⟨x, t, rfl, rfl⟩ <;> rfl
  pyHash := fun hv h => by
    rcases keyIs_shape hv with ⟨i, t, rfl, rfl⟩ | ⟨x, t, rfl, rfl⟩
    · exact wpAny_pyHash_int h
    · exact wpAny_pyHash_str h
  eqBool := fun hu hv h => by
    rcases keyIs_shape hu with ⟨i, t, rfl, rfl⟩ | ⟨x, t, rfl, rfl⟩
    · rcases keyIs_shape hv with ⟨j, u, rfl, rfl⟩ | ⟨y, u, rfl, rfl⟩
      · rw [key_ll] at h; exact wpAny_eqBool_int h
      · rw [key_lr] at h; exact SeqAt.EqAt.int_str i t y u _ _ _ _ h
    · rcases keyIs_shape hv with ⟨j, u, rfl, rfl⟩ | ⟨y, u, rfl, rfl⟩
      · rw [key_rl] at h; exact SeqAt.EqAt.str_int x t j u _ _ _ _ h
      · rw [key_rr] at h; exact wpAny_eqBool_str h
  «strs» := fun k x t v h => by
    rcases keyIs_shape h with ⟨i, u, rfl, e⟩ | ⟨y, u, rfl, e⟩
    · exact nomatch e
    · injection e with e1 _
      subst e1
      cases v <;> rfl

theorem mixKind_int (prog : Program) (w : World) (i : Int) (t : Tok) : (mixKind prog w).is (.inl i) (.int i t) = true := keyIs_int i t
theorem mixKind_str (prog : Program) (w : World) (x : Str) (t : Tok) : (mixKind prog w).is (.inr x) (.str x t) = true := keyIs_str x t
end L2

namespace L2
open PySem PySem.Spec PyProof.Rows

/-- a value, without the heap -/
inductive V where
  | non | bl (b : Bool) | int (i : Int) | str (x : Str) | byt (b : Array UInt8) | flt (b : UInt64) | ref (a : Addr) | ty (n : String)
  deriving DecidableEq

def RelV : V → Value → Prop
  | .non, u => u = Value.none
  | .bl b, u => u = Value.bool b
  | .int i, u => ∃ t, u = Value.int i t
  | .str x, u => ∃ t, u = Value.str x t
  | .byt b, u => ∃ t, u = Value.bytes b t
  | .flt b, u => ∃ t, u = Value.float b t
  | .ref a, u => u = Value.ref a
  | .ty n, u => u = Value.type n

abbrev Vals : List V → List Value → Prop := Paired RelV
theorem Vals.length {xs : List V} {us : List Value} (r : Vals xs us) : xs.length = us.length := Paired.length r
theorem Vals.get : ∀ {xs : List V} {us : List Value} {i : Nat} {x : V}, Vals xs us → xs[i]? = some x → ∃ u, us[i]? = some u ∧ RelV x u
  | _, _, _, _, .nil, e => by simp at e
  | _, _, 0, _, .cons r _, e => by simp at e; subst e; exact ⟨_, rfl, r⟩
  | _, _, i + 1, x, .cons _ t, e => by
    obtain ⟨u, h1, h2⟩ := Vals.get (i := i) (x := x) t (by simpa using e)
    exact ⟨u, by simpa using h1, h2⟩
theorem Vals.append : ∀ {xs ys : List V} {us ws : List Value}, Vals xs us → Vals ys ws → Vals (xs ++ ys) (us ++ ws)
  | _, _, _, _, .nil, s => s
  | _, _, _, _, .cons r t, s => .cons r (Vals.append t s)
theorem Vals.take : ∀ {xs : List V} {us : List Value} (n : Nat), Vals xs us → Vals (xs.take n) (us.take n)
  | _, _, 0, _ => .nil
  | _, _, _ + 1, .nil => .nil
  | _, _, n + 1, .cons r t => .cons r (Vals.take n t)
theorem Vals.drop : ∀ {xs : List V} {us : List Value} (n : Nat), Vals xs us → Vals (xs.drop n) (us.drop n)
  | _, _, 0, r => r
  | _, _, _ + 1, .nil => .nil
  | _, _, n + 1, .cons _ t => Vals.drop n t
def RelO : Option V → Option Value → Prop
  | some v, some u => RelV v u
  | none, none => True
  | _, _ => False
def KV {κ : Type} : List (κ × V) → List (κ × Value) → Prop := Paired fun (p : κ × V) (q : κ × Value) => p.1 = q.1 ∧ RelV p.2 q.2

/-- a key of a dict (00_mix): an int or a text -/
def kV : Key → V
  | .inl i => .int i
  | .inr x => .str x

/-- what stands at a tracked address -/
inductive HO where
  /-- a list -/
  | lst (xs : List V)
  /-- a tuple (never changes) -/
  | tup (xs : List V)
  /-- a dict whose keys are ints and texts; one whose keys are tuples of ints and texts (the empty one is both) -/
  | dK (kvs : List (Key × V)) | dT (kvs : List (List Key × V))
  /-- a set of ints: its members, its size -/
  | set (S : Int → Bool) (n : Nat)
  /-- an instance of the class at C, its dict at dx, its attributes -/
  | ins (C dx : Addr) (fs : List (Str × V))
  /-- the dict of the instance at x -/
  | own (x : Addr)
  /-- the dict of an exception -/
  | xd (fs : List (Str × V))
  /-- a bound method, f of x -/
  | met (f x : Addr)
  /-- a range object lo, lo + 1, .. below hi -/
  | rng (lo hi : Int)
  /-- a thing that is known to the object (the script; a dict while a loop walks it): read, never written while it is so -/
  | frz (o : Obj) (u : HO)
  /-- a code object's table -/
  | tbl (ps : Array Value)
  /-- any other thing, by what is true of its one object (a def of one's own: SetO a S n := HO.ext fun h => ..) -/
  | ext (φ : Heap → Prop)

abbrev Hp := Addr → Option HO
def upd (H : Hp) (a : Addr) (o : HO) : Hp := fun b => if b = a then some o else H b
theorem upd_same {H : Hp} {a : Addr} {o : HO} : upd H a o a = some o := by unfold upd; rw [if_pos rfl]
theorem upd_ne {H : Hp} {a b : Addr} {o : HO} (h : b ≠ a) : upd H a o b = H b := by unfold upd; rw [if_neg h]
/-- two objects of different content stand apart -/
theorem ne_of {H : Hp} {a b : Addr} {o u : HO} (h : H a = some o) (h' : H b = some u) (d : o ≠ u) : a ≠ b := by
  intro e; subst e; rw [h] at h'; exact d (Option.some.inj h')
theorem ne_of_none {H : Hp} {a b : Addr} {o : HO} (h : H a = some o) (h' : H b = none) : a ≠ b := by
  intro e; subst e; rw [h] at h'; cases h'

section
variable (P : Program) (w : World)
def ObjOk (H : Hp) (h : Heap) (a : Addr) : HO → Prop
  | .lst xs => xs.length ≤ sizeLine ∧ ∃ (its : List Value) (n : Nat), Vals xs its ∧ h.get? a = some { cls := .type "list", data := .seq its.toArray n }
  | .tup xs => xs.length ≤ sizeLine ∧ ∃ its : List Value, Vals xs its ∧ IsTup h a its.toArray
  | .dK kvs => kvs.length ≤ sizeLine ∧ (a == sysModules) = false ∧ ∃ vs, KV kvs vs ∧ h.DictOf (mixKind P w) a vs
  | .dT kvs => kvs.length ≤ sizeLine ∧ (a == sysModules) = false ∧ ∃ xs : List (List Key × Addr × Value),
      Paired (fun (p : List Key × V) (q : List Key × Addr × Value) => p.1 = q.1 ∧ H q.2.1 = some (.tup (p.1.map kV)) ∧ RelV p.2 q.2.2) kvs xs ∧
      ∃ o es ep, h.get? a = some o ∧ o.ExactDict ∧ o.data = .dict es ep ∧ es.toList = xs.map (entryOfKey (tupleKind (mixKind P w))) ∧ (xs.map (·.1)).Nodup
  | .set S n => h.SetOf (intKind P w) a S n
  | .ins C dx fs => H dx = some (.own a) ∧ fs.length ≤ 1000 ∧ dx ≠ a ∧ h.get? a = some (PySem.W.instObj C dx) ∧
      ∃ mA, h.Ns1 dx mA ∧ (∀ f, RelO (fs.lookup f) (mA f)) ∧ PySem.Within mA (fs.map (·.1))
  | .own _ => ∃ o, h.get? a = some o
  | .xd fs => ∃ mA, h.Ns1 a mA ∧ ∀ f, RelO (fs.lookup f) (mA f)
  | .rng lo hi => ∃ t u v, h.get? a = some { cls := .type "range", data := .fields #[.int lo t, .int hi u, .int 1 v] }
  | .frz o u => h.get? a = some o ∧ ObjOk H h a u
  | .tbl ps => h.get? a = some { cls := .none, data := .fields ps }
  | .met f x => h.get? a = some (PySem.W.methodObj (.ref f) (.ref x))
  | .ext φ => φ h ∧ (∃ o, h.get? a = some o) ∧ ∀ h1 h2 : Heap, φ h1 → (∀ o, h1.get? a = some o → h2.get? a = some o) → φ h2
/-- the abstract heap is held -/
def HOk (H : Hp) (h : Heap) : Prop := ∀ a o, H a = some o → ObjOk P w H h a o
end

section
variable {P : Program} {w : World} {H H' : Hp} {h h' : Heap} {a : Addr} {o : HO}
theorem ObjOk.lt (x : ObjOk P w H h a o) : a < h.objs.size := by
  cases o with
  | lst xs => obtain ⟨_, _, _, _, e⟩ := x; exact Heap.lt_size e
  | tup xs => obtain ⟨_, _, _, p⟩ := x; exact p.lt
  | dK kvs => obtain ⟨_, _, _, _, o, _, _, e, _⟩ := x; exact Heap.lt_size e
  | dT kvs => obtain ⟨_, _, _, _, o, _, _, e, _⟩ := x; exact Heap.lt_size e
  | set S n => obtain ⟨o, _, _, _, e, _⟩ := x; exact Heap.lt_size e
  | ins C dx fs => obtain ⟨_, _, _, e, _⟩ := x; exact Heap.lt_size e
  | own y => obtain ⟨_, e⟩ := x; exact Heap.lt_size e
  | xd fs => obtain ⟨_, ⟨_, _, _, e, _⟩, _⟩ := x; exact Heap.lt_size e
  | rng lo hi => obtain ⟨_, _, _, e⟩ := x; exact Heap.lt_size e
  | frz ob u => obtain ⟨e, _⟩ := x; exact Heap.lt_size e
  | tbl ps => exact Heap.lt_size (show h.get? a = some _ from x)
  | met f y => exact Heap.lt_size (show h.get? a = some _ from x)
  | ext φ => obtain ⟨_, ⟨_, e⟩, _⟩ := x; exact Heap.lt_size e
theorem Paired.mapP {α β : Type} {F G : α → β → Prop} : ∀ {l₁ : List α} {l₂ : List β}, Paired F l₁ l₂ → (∀ a b, F a b → G a b) → Paired G l₁ l₂
  | _, _, .nil, _ => .nil
  | _, _, .cons r t, f => .cons (f _ _ r) (Paired.mapP t f)
/-- what an object's description leans on: its own object, its own dict, the tuples -/
theorem ObjOk.stay (x : ObjOk P w H h a o) (k : ∀ b u, (b = a ∨ H b = some (.own a)) → h.get? b = some u → h'.get? b = some u)
    (ho : ∀ b, H b = some (.own a) → H' b = some (.own a)) (ht : ∀ b xs, H b = some (.tup xs) → H' b = some (.tup xs)) : ObjOk P w H' h' a o := by
  induction o with
  | lst xs => obtain ⟨z, its, n, r, e⟩ := x; exact ⟨z, its, n, r, k _ _ (.inl rfl) e⟩
  | tup xs => obtain ⟨z, its, r, ob, e, c⟩ := x; exact ⟨z, its, r, ob, k _ _ (.inl rfl) e, c⟩
  | dK kvs => obtain ⟨z, y, vs, r, ob, es, ep, e, c⟩ := x; exact ⟨z, y, vs, r, ob, es, ep, k _ _ (.inl rfl) e, c⟩
  | dT kvs =>
    obtain ⟨z, y, xs, r, ob, es, ep, e, c⟩ := x
    exact ⟨z, y, xs, Paired.mapP r fun p q z => ⟨z.1, ht _ _ z.2.1, z.2.2⟩, ob, es, ep, k _ _ (.inl rfl) e, c⟩
  | set S n => obtain ⟨ob, es, ep, t, e, c⟩ := x; exact ⟨ob, es, ep, t, k _ _ (.inl rfl) e, c⟩
  | ins C dx fs =>
    obtain ⟨d, z, ne, e, mA, ⟨od, es, ep, e2, c⟩, r⟩ := x
    exact ⟨ho _ d, z, ne, k _ _ (.inl rfl) e, mA, ⟨od, es, ep, k _ _ (.inr d) e2, c⟩, r⟩
  | own y => obtain ⟨ob, e⟩ := x; exact ⟨ob, k _ _ (.inl rfl) e⟩
  | xd fs => obtain ⟨mA, ⟨od, es, ep, e, c⟩, r⟩ := x; exact ⟨mA, ⟨od, es, ep, k _ _ (.inl rfl) e, c⟩, r⟩
  | rng lo hi => obtain ⟨t, u, v, e⟩ := x; exact ⟨t, u, v, k _ _ (.inl rfl) e⟩
  | frz ob u ih => obtain ⟨e, q⟩ := x; exact ⟨k _ _ (.inl rfl) e, ih q⟩
  | tbl ps =>
    have e : h.get? a = some { cls := .none, data := .fields ps } := x
    show h'.get? a = some { cls := .none, data := .fields ps }
    exact k a _ (.inl rfl) e
  | met f y =>
    have e : h.get? a = some (PySem.W.methodObj (.ref f) (.ref y)) := x
    show h'.get? a = some (PySem.W.methodObj (.ref f) (.ref y))
    exact k a _ (.inl rfl) e
  | ext φ => obtain ⟨p, ⟨o, e⟩, st⟩ := x; exact ⟨st _ _ p fun o q => k _ _ (.inl rfl) q, ⟨o, k _ _ (.inl rfl) e⟩, st⟩
theorem HOk.lt (x : HOk P w H h) (e : H a = some o) : a < h.objs.size := (x a o e).lt
theorem HOk.fresh (x : HOk P w H h) (e : h.objs.size ≤ a) : H a = none := by
  cases q : H a with
  | none => rfl
  | some u => exact absurd (Nat.lt_of_lt_of_le (x.lt q) e) (Nat.lt_irrefl _)
/-- every object of the heap is kept -/
theorem HOk.kept (x : HOk P w H h) (k : ∀ b u, h.get? b = some u → h'.get? b = some u) : HOk P w H h' := fun a o e =>
  (x a o e).stay (fun b u _ q => k b u q) (fun _ q => q) fun _ _ q => q
/-- a new object is laid and tracked -/
theorem HOk.laid (x : HOk P w H h) (k : ∀ b u, h.get? b = some u → h'.get? b = some u) (hp : h.objs.size ≤ a) (new : ObjOk P w (upd H a o) h' a o) : HOk P w (upd H a o) h' := fun b u e => by
  have hn := x.fresh hp
  by_cases hb : b = a
  · subst hb; rw [upd_same] at e; cases e; exact new
  · rw [upd_ne hb] at e
    exact (x b u e).stay (fun c v _ q => k c v q) (fun c q => by rw [upd_ne (ne_of_none q hn)]; exact q) fun c xs q => by rw [upd_ne (ne_of_none q hn)]; exact q
end

/-- what may be read as u: it is u, or a known u -/
def Rd (H : Hp) (a : Addr) (u : HO) : Prop := H a = some u ∨ ∃ o, H a = some (.frz o u)
theorem Rd.ok {P : Program} {w : World} {H : Hp} {h : Heap} {a : Addr} {u : HO} (r : Rd H a u) (x : HOk P w H h) : ObjOk P w H h a u := by
  rcases r with r | ⟨o, r⟩
  · exact x a u r
  · obtain ⟨_, q⟩ := x a _ r
    exact q
/-- what may be written -/
def Mut : Option HO → Prop
  | some (.lst _) => True
  | some (.dK _) => True
  | some (.dT _) => True
  | some (.set _ _) => True
  | some (.ins _ _ _) => True
  | some (.ext _) => True
  | _ => False
section
variable {P : Program} {w : World} {H : Hp} {h h' : Heap} {x e : Addr} {o' : HO}
/-- the object at e is changed: x itself, or the dict of the instance x -/
theorem HOk.write (ok : HOk P w H h) (mu : Mut (H x)) (he : e = x ∨ H e = some (.own x)) (k : ∀ b u, b ≠ e → h.get? b = some u → h'.get? b = some u) (heo : ∃ u, h'.get? e = some u)
    (new : ObjOk P w (upd H x o') h' x o') : HOk P w (upd H x o') h' := fun b u q => by
  have nown : ∀ c y, H c = some (.own y) → c ≠ x := fun c y r z => by subst z; rw [r] at mu; exact mu
  have ntup : ∀ c xs, H c = some (.tup xs) → c ≠ x := fun c xs r z => by subst z; rw [r] at mu; exact mu
  by_cases hb : b = x
  · subst hb; rw [upd_same] at q; cases q; exact new
  · rw [upd_ne hb] at q
    by_cases hbe : b = e
    · have q' : H b = some (.own x) := by
        rcases he with z | z
        · exact absurd (hbe.trans z) hb
        · rw [hbe]; exact z
      rw [q] at q'; cases q'
      obtain ⟨v, hv⟩ := heo
      exact ⟨v, by rw [hbe]; exact hv⟩
    · refine (ok b u q).stay (fun c v hc r => k c v ?_ r) (fun c r => by rw [upd_ne (nown c b r)]; exact r) fun c xs r => by rw [upd_ne (ntup c xs r)]; exact r
      rcases hc with rfl | hc
      · exact hbe
      · rintro rfl
        rcases he with z | z
        · exact nown c b hc z
        · rw [hc] at z; cases z; exact hb rfl
end

/-! ### kept unless tracked; of the frames at fs (the callers') the slots may change (an exception that passes writes there); of the records at ex (iterators) nothing is said -/
structure Un (fs ex : List Addr) (H H' : Hp) (h h' : Heap) : Prop where
  keep : ∀ b o, h.get? b = some o → H b = none → b ∉ fs → b ∉ ex → h'.get? b = some o
  slot : ∀ b o, h.get? b = some o → H b = none → b ∈ fs → b ∉ ex → ∃ sl, h'.get? b = some { o with slots := sl }
  free : ∀ b o, h.get? b = some o → H b = none → b ∉ ex → H' b = none
  there : ∀ b o, h.get? b = some o → b ∉ ex → ∃ o', h'.get? b = some o'
  tups : ∀ b xs, H b = some (.tup xs) → H' b = some (.tup xs)
  frzs : ∀ b o u, H b = some (.frz o u) → H' b = some (.frz o u)
  tbls : ∀ b ps, H b = some (.tbl ps) → ∃ more, H' b = some (.tbl (ps ++ more))
section
variable {fs fs' ex ex' : List Addr} {H H1 H2 : Hp} {h h1 h2 h' : Heap} {a x e : Addr} {o : HO}
theorem Un.any (u : Un fs ex H H1 h h1) {b : Addr} {ob : Obj} (q : h.get? b = some ob) (n : H b = none) (hx : b ∉ ex) : ∃ sl, h1.get? b = some { ob with slots := sl } := by
  by_cases hb : b ∈ fs
  · exact u.slot b ob q n hb hx
  · exact ⟨ob.slots, u.keep b ob q n hb hx⟩
theorem Un.kept (k : ∀ b u, h.get? b = some u → h'.get? b = some u) : Un fs ex H H h h' :=
  ⟨fun b ob q _ _ _ => k b ob q, fun b ob q _ _ _ => ⟨ob.slots, k b ob q⟩, fun _ _ _ n _ => n, fun b ob q _ => ⟨ob, k b ob q⟩, fun _ _ q => q, fun _ _ _ q => q, fun _ ps q => ⟨#[], by rw [q]; simp⟩⟩
theorem Un.refl : Un fs ex H H h h := Un.kept fun _ _ q => q
theorem Un.laid (k : ∀ b u, h.get? b = some u → h'.get? b = some u) (hp : h.objs.size ≤ a) (hn : H a = none) : Un fs ex H (upd H a o) h h' where
  keep := fun b u q _ _ _ => k b u q
  slot := fun b u q _ _ _ => ⟨u.slots, k b u q⟩
  free := fun b u q n _ => by rw [upd_ne (Nat.ne_of_lt (Nat.lt_of_lt_of_le (Heap.lt_size q) hp))]; exact n
  there := fun b u q _ => ⟨u, k b u q⟩
  tups := fun b xs q => by rw [upd_ne (ne_of_none q hn)]; exact q
  frzs := fun b u xs q => by rw [upd_ne (ne_of_none q hn)]; exact q
  tbls := fun b ps q => ⟨#[], by rw [upd_ne (ne_of_none q hn), q]; simp⟩
theorem Un.write (mu : Mut (H x)) (he : e = x ∨ H e = some (.own x)) (k : ∀ b u, b ≠ e → h.get? b = some u → h'.get? b = some u) (heo : ∃ u, h'.get? e = some u) : Un fs ex H (upd H x o) h h' := by
  have hx : ∀ b, H b = none → b ≠ x := fun b n z => by subst z; rw [n] at mu; exact mu
  have hb : ∀ b, H b = none → b ≠ e := fun b n z => by
    subst z
    rcases he with r | r
    · exact hx b n r
    · rw [n] at r; cases r
  have hm : ∀ b u, H b = some u → ¬ Mut (some u) → b ≠ x := fun b u q nm z => by subst z; rw [q] at mu; exact nm mu
  refine ⟨fun b u q n _ _ => k b u (hb b n) q, fun b u q n _ _ => ⟨u.slots, k b u (hb b n) q⟩, fun b u q n _ => by rw [upd_ne (hx b n)]; exact n, fun b u q _ => ?_,
    fun b xs q => by rw [upd_ne (hm b _ q fun z => z)]; exact q, fun b u xs q => by rw [upd_ne (hm b _ q fun z => z)]; exact q, fun b ps q => ⟨#[], by rw [upd_ne (hm b _ q fun z => z), q]; simp⟩⟩
  by_cases hbe : b = e
  · subst hbe; exact heo
  · exact ⟨u, k b u hbe q⟩
end

/-! ### the heap without what is tracked -/
def trk (h : Heap) (H : Hp) : List Addr := (List.range h.objs.size).filter fun a => (H a).isSome
def hidT (h : Heap) (H : Hp) : Heap := PySem.W.hideAll h (trk h H)
theorem hidT_size (h : Heap) (H : Hp) : (hidT h H).objs.size = h.objs.size := PySem.W.hideAll_size _ _
theorem hidT_get {h : Heap} {H : Hp} {b : Addr} {o : Obj} (e : h.get? b = some o) (n : H b = none) : (hidT h H).get? b = some o :=
  PySem.W.hideAll_get _ e fun hm => by
    have q : (H b).isSome = true := (List.mem_filter.mp hm).2
    rw [n] at q; simp at q
theorem of_hidT {h : Heap} {H : Hp} {b : Addr} {o : Obj} (e : (hidT h H).get? b = some o) : h.get? b = some o ∧ H b = none := by
  have e' : h.get? b = some o := PySem.W.of_hideAll (trk h H) e
  refine ⟨e', ?_⟩
  cases q : H b with
  | none => rfl
  | some x =>
    have hm : b ∈ trk h H := List.mem_filter.mpr ⟨List.mem_range.mpr (Heap.lt_size e'), by simp [q]⟩
    have z : (hidT h H).get? b = none := PySem.W.hideAll_none (trk h H) hm
    rw [z] at e; cases e

/-! ### OpenK's ledger, filled with every new object but one -/
end L2

namespace L2
open PySem PySem.Spec PyProof.Rows

/-- the module's facts, over the base: the heap at the law's entry without what is tracked there -/
structure Mod (K : PySem.W.Frag) (mg : Str → Option Value) (base : Heap) : Prop where
  kin : K.In base
  glob : base.Ns mainGlobals mg
  blt : ∃ mb, base.Ns builtinsNs mb ∧ ∀ x : Str, x ≠ "__name__" → mb x = bootBuiltins x
  nolimit : base.NoLimit

/-- the context: a def's body (or a comprehension's block) running. base: fixed through the whole law; s₀, H₀: the entry; outer: the frames whose slots others may change (a def's callers); stack: all frames that run;
   ex: iterators that were made ahead of the entry and are walked here (a comprehension's); fn: the names whose cells were made at the entry (a def: all; a comprehension's block: its own); calm: not within an except suite; pn: pins that every state bears; xe: what is wanted of an exception that leaves the code -/
structure Cx where
  prog : Program
  w : World
  K : PySem.W.Frag
  mg : Str → Option Value
  base : Heap
  A : Around
  N : List Str
  s₀ : Shared
  H₀ : Hp
  env : Env
  outer : List Env
  stack : List Env
  ex : List Addr
  fn : Str → Bool
  calm : Bool
  pn : List (Addr × Obj)
  xe : Value → Shared → Prop
/-- the callers' frames -/
def frs (l : List Env) : List Addr := l.filterMap (·.frame)
abbrev Cx.fs (X : Cx) : List Addr := frs X.outer

def Vis (sc : Scope) (x : Str) : Prop := sc.names.lookup x = some .local ∨ sc.names.lookup x = some .cell ∨ sc.names.lookup x = some .free
def Loc (sc : Scope) (x : Str) : Prop := sc.names.lookup x = some .local ∨ sc.names.lookup x = some .cell
def Look (env : Env) (h : Heap) (m : Str → Option Value) (x : Str) (u : Value) : Prop :=
  (env.kindOf x = some .local ∧ m x = some u) ∨ ((env.kindOf x = some .cell ∨ env.kindOf x = some .free) ∧ ∃ c, env.cells.lookup x = some c ∧ h.IsCell c (some u))

structure Cx.Ok (X : Cx) : Prop where
  mod : Mod X.K X.mg X.base
  kind : X.env.scope.kind = .function
  glob : X.env.globals = mainGlobals
  blt : X.env.builtins = builtinsNs
  above : X.s₀.heap.objs.size ≤ X.env.locals
  inj : ∀ x y c, X.env.cells.lookup x = some c → X.env.cells.lookup y = some c → x = y
  has : ∀ x, (X.env.kindOf x = some .cell ∨ X.env.kindOf x = some .free) → ∃ c, X.env.cells.lookup x = some c
  cab : ∀ x c, X.fn x = true → X.env.cells.lookup x = some c → X.s₀.heap.objs.size ≤ c
  hd : X.calm = true → X.A.handled = none
  frames : X.A.frames = some X.stack
  stk : X.stack = X.outer ∨ (X.stack = X.env :: X.outer ∧ X.env.frame = some X.env.locals)
  exf : ∀ b ∈ X.ex, b ≠ X.env.locals ∧ ∀ x c, X.env.cells.lookup x = some c → c ≠ b
  bs : ∀ b o, X.base.get? b = some o → X.s₀.heap.get? b = some o ∧ X.H₀ b = none
  bsz : X.base.objs.size ≤ X.s₀.heap.objs.size
  noex : ∀ b o, X.base.get? b = some o → b ∉ X.ex
  exfs : ∀ b ∈ X.ex, b ∉ X.fs
  funs : X.s₀.heap.FunFrames X.base X.outer
  frf : ∀ b ∈ X.fs, X.H₀ b = none

structure Inv (X : Cx) (pins : List (Addr × Obj)) (σ : List (Option V)) (H : Hp) (s : Shared) : Prop where
  ok : X.Ok
  os : s.os = X.s₀.os
  bare : AllBare s.gens
  base : Un X.fs X.ex X.H₀ H X.s₀.heap s.heap
  loc : ∃ m, s.heap.Ns X.env.locals m ∧ ∀ (i : Nat) (x : Str) (v : V), X.N[i]? = some x → σ[i]? = some (some v) → Vis X.env.scope x → ∃ u, RelV v u ∧ Look X.env s.heap m x u
  cell : ∀ x c, X.env.cells.lookup x = some c → ∃ v, s.heap.IsCell c v
  free : H X.env.locals = none
  freeC : ∀ x c, X.env.cells.lookup x = some c → H c = none
  pin : ∀ p ∈ X.pn ++ pins, s.heap.get? p.1 = some p.2 ∧ H p.1 = none ∧ p.1 ≠ X.env.locals ∧ p.1 ∉ X.fs ∧ ∀ v, p.2.data ≠ .cell v
  hok : HOk X.prog X.w H s.heap
  len : σ.length = X.N.length

section
variable {X : Cx} {pins : List (Addr × Obj)} {σ : List (Option V)} {H H' : Hp} {s : Shared} {h' : Heap}

theorem Cx.Ok.nofr (ok : X.Ok) {b : Addr} {o : Obj} (e : X.base.get? b = some o) : b ∉ X.fs := fun hb => by
  have := (ok.funs.mem hb).1
  rw [e] at this; cases this
theorem Inv.bs (I : Inv X pins σ H s) : ∀ b o, X.base.get? b = some o → s.heap.get? b = some o ∧ H b = none := fun b o e =>
  ⟨I.base.keep b o (I.ok.bs b o e).1 (I.ok.bs b o e).2 (I.ok.nofr e) (I.ok.noex b o e), I.base.free b o (I.ok.bs b o e).1 (I.ok.bs b o e).2 (I.ok.noex b o e)⟩
theorem Inv.bk (I : Inv X pins σ H s) : ∀ b o, X.base.get? b = some o → s.heap.get? b = some o := fun b o e => (I.bs b o e).1
theorem Inv.mod (I : Inv X pins σ H s) : Mod X.K X.mg X.base := I.ok.mod
theorem Inv.kIn (I : Inv X pins σ H s) : X.K.In s.heap := I.ok.mod.kin.keeps I.bk
theorem Inv.lt (I : Inv X pins σ H s) : X.env.locals < s.heap.objs.size := let ⟨_, hn, _⟩ := I.loc; hn.lt
theorem Inv.sz (I : Inv X pins σ H s) : X.s₀.heap.objs.size ≤ s.heap.objs.size := Nat.le_trans I.ok.above (Nat.le_of_lt I.lt)
theorem Inv.nofs (I : Inv X pins σ H s) {a : Addr} (h : s.heap.objs.size ≤ a) : a ∉ X.fs := fun hb => by
  obtain ⟨_, o, ho, _⟩ := I.ok.funs.mem hb
  exact absurd (Nat.lt_of_lt_of_le (Heap.lt_size ho) (Nat.le_trans I.sz h)) (Nat.lt_irrefl _)
theorem Inv.cne (I : Inv X pins σ H s) : ∀ x c, X.env.cells.lookup x = some c → c ≠ X.env.locals := fun x c e z => by
  obtain ⟨v, o, ho, hd⟩ := I.cell x c e
  obtain ⟨m, ⟨o', es, ep, ho', hd', _⟩, _⟩ := I.loc
  rw [z, ho'] at ho; cases ho; rw [hd'] at hd; cases hd
theorem Inv.funs (I : Inv X pins σ H s) : s.heap.FunFrames X.base X.outer := by
  have all : ∀ (l : List Env), (∀ b ∈ frs l, b ∈ X.fs) → X.s₀.heap.FunFrames X.base l → s.heap.FunFrames X.base l := by
    intro l
    induction l with
    | nil => intro _ _; trivial
    | cons env r ih =>
      intro hs hl
      obtain ⟨hk, ⟨L, o, hf, hn, ho, hd⟩, hr⟩ := hl
      have hL : L ∈ X.fs := hs L (by unfold frs; rw [List.filterMap_cons, hf]; exact List.mem_cons_self)
      obtain ⟨sl, e⟩ := I.base.slot L o ho (I.ok.frf L hL) hL fun z => I.ok.exfs L z hL
      exact ⟨hk, ⟨L, _, hf, hn, e, hd⟩, ih (fun b hb => hs b (by unfold frs; rw [List.filterMap_cons, hf]; exact List.mem_cons_of_mem _ hb)) hr⟩
  exact all X.outer (fun _ hb => hb) I.ok.funs

/-- the frames that run, for a call -/
theorem Inv.stack (I : Inv X pins σ H s) : s.heap.FunFrames X.base X.stack := by
  rcases I.ok.stk with e | ⟨e, hf⟩
  · rw [e]; exact I.funs
  · rw [e]
    obtain ⟨m, hn, _⟩ := I.loc
    refine .cons (by rw [I.ok.kind]; decide) hf hn ?_ I.funs
    exact Heap.get?_none_of_le (Nat.le_trans I.ok.bsz I.ok.above)
theorem Inv.stkSub (I : Inv X pins σ H s) : ∀ b ∈ frs X.stack, b ∈ X.env.locals :: X.fs := fun b hb => by
  rcases I.ok.stk with e | ⟨e, hf⟩
  · rw [e] at hb; exact List.mem_cons_of_mem _ hb
  · rw [e] at hb
    unfold frs at hb
    rw [List.filterMap_cons, hf] at hb
    exact hb
theorem Inv.stkFree (I : Inv X pins σ H s) : ∀ b ∈ frs X.stack, H b = none := fun b hb => by
  rcases List.mem_cons.mp (I.stkSub b hb) with e | hb
  · rw [e]; exact I.free
  · obtain ⟨_, o, ho, _⟩ := I.ok.funs.mem hb
    exact I.base.free b o ho (I.ok.frf b hb) fun z => I.ok.exfs b z hb

/-- THE STEP: the untracked objects but the frame and the records at ch are kept (the callers' frames up to slots), the frame's map is kept, the new abstract heap is held -/
theorem Inv.step {g' : Array GenState} {t' : Nat} {d' : Drawn} {ch : List Addr} (I : Inv X pins σ H s)
    (hch : ∀ b ∈ ch, (b ∈ X.ex ∨ X.s₀.heap.objs.size ≤ b) ∧ b ≠ X.env.locals ∧ (∀ x c, X.env.cells.lookup x = some c → c ≠ b) ∧ ∀ p ∈ X.pn ++ pins, p.1 ≠ b)
    (keep : ∀ b o, b ≠ X.env.locals → b ∉ X.fs → b ∉ ch → s.heap.get? b = some o → H b = none → h'.get? b = some o)
    (slot : ∀ b o, b ≠ X.env.locals → b ∈ X.fs → b ∉ ch → s.heap.get? b = some o → H b = none → ∃ sl, h'.get? b = some { o with slots := sl }) (free : ∀ b o, b ∉ ch → s.heap.get? b = some o → H b = none → H' b = none)
    (there : ∀ b o, b ∉ ch → s.heap.get? b = some o → ∃ o', h'.get? b = some o')
    (tups : ∀ b xs, H b = some (.tup xs) → H' b = some (.tup xs)) (frzs : ∀ b o u, H b = some (.frz o u) → H' b = some (.frz o u)) (tbls : ∀ b ps, H b = some (.tbl ps) → ∃ more, H' b = some (.tbl (ps ++ more)))
    (ns : ∀ m, s.heap.Ns X.env.locals m → h'.Ns X.env.locals m) (hok : HOk X.prog X.w H' h') (hg : AllBare g') :
    Inv X pins σ H' { s with heap := h', gens := g', drawn := d', toks := t' } := by
  have neL : ∀ b o, X.s₀.heap.get? b = some o → b ≠ X.env.locals := fun b o e => Nat.ne_of_lt (Nat.lt_of_lt_of_le (Heap.lt_size e) I.ok.above)
  have neC : ∀ b o, X.s₀.heap.get? b = some o → b ∉ X.ex → b ∉ ch := fun b o e hx hb => by
    rcases (hch b hb).1 with z | z
    · exact hx z
    · exact absurd (Nat.lt_of_lt_of_le (Heap.lt_size e) z) (Nat.lt_irrefl _)
  have cellK : ∀ x c, X.env.cells.lookup x = some c → ∀ v, s.heap.IsCell c v → h'.IsCell c v := fun x c e v ⟨o, ho, hd⟩ => by
    have nch : c ∉ ch := fun z => (hch c z).2.2.1 x c e rfl
    by_cases hc : c ∈ X.fs
    · obtain ⟨sl, q⟩ := slot c o (I.cne x c e) hc nch ho (I.freeC x c e)
      exact ⟨_, q, hd⟩
    · exact ⟨o, keep c o (I.cne x c e) hc nch ho (I.freeC x c e), hd⟩
  refine ⟨I.ok, I.os, hg, ⟨fun b o e n hb hx => ?_, fun b o e n hb hx => ?_, fun b o e n hx => ?_, fun b o e hx => ?_, fun b xs e => tups b xs (I.base.tups b xs e), fun b o xs e => frzs b o xs (I.base.frzs b o xs e), fun b ps e => ?_⟩, ?_, fun x c e => ?_, ?_, fun x c e => ?_, fun p hp => ?_, hok, I.len⟩
  · exact keep b o (neL b o e) hb (neC b o e hx) (I.base.keep b o e n hb hx) (I.base.free b o e n hx)
  · obtain ⟨sl, e1⟩ := I.base.slot b o e n hb hx
    obtain ⟨sl', e2⟩ := slot b _ (neL b o e) hb (neC b o e hx) e1 (I.base.free b o e n hx)
    exact ⟨sl', e2⟩
  · obtain ⟨o', e1⟩ := I.base.there b o e hx
    exact free b o' (neC b o e hx) e1 (I.base.free b o e n hx)
  · obtain ⟨o', e1⟩ := I.base.there b o e hx
    exact there b o' (neC b o e hx) e1
  · obtain ⟨m1, e1⟩ := I.base.tbls b ps e
    obtain ⟨m2, e2⟩ := tbls b _ e1
    exact ⟨m1 ++ m2, by rw [e2, Array.append_assoc]⟩
  · obtain ⟨m, hn, hl⟩ := I.loc
    refine ⟨m, ns m hn, fun i x v e1 e2 e3 => ?_⟩
    obtain ⟨u, r, l⟩ := hl i x v e1 e2 e3
    refine ⟨u, r, ?_⟩
    rcases l with l | ⟨k, c, e, z⟩
    · exact .inl l
    · exact .inr ⟨k, c, e, cellK x c e _ z⟩
  · obtain ⟨v, z⟩ := I.cell x c e
    exact ⟨v, cellK x c e v z⟩
  · obtain ⟨m, ⟨o, _, _, ho, _⟩, _⟩ := I.loc
    exact free _ o (fun z => (hch _ z).2.1 rfl) ho I.free
  · obtain ⟨v, o, ho, hd⟩ := I.cell x c e
    exact free c o (fun z => (hch c z).2.2.1 x c e rfl) ho (I.freeC x c e)
  · obtain ⟨e, n, ne, nf, d⟩ := I.pin p hp
    have nch : p.1 ∉ ch := fun z => (hch p.1 z).2.2.2 p hp rfl
    exact ⟨keep p.1 p.2 ne nf nch e n, free p.1 p.2 nch e n, ne, nf, d⟩
/-- .. where the frame's own object is kept too -/
theorem Inv.un {t' : Nat} (I : Inv X pins σ H s) (u : Un X.fs [] H H' s.heap h') (hok : HOk X.prog X.w H' h') : Inv X pins σ H' { s with heap := h', toks := t' } := by
  obtain ⟨m, ⟨o, es, ep, ho, r⟩, _⟩ := id I.loc
  obtain ⟨sl, hL⟩ := u.any ho I.free (by simp)
  exact I.step (g' := s.gens) (d' := s.drawn) (ch := []) (fun _ z => nomatch z) (fun b o _ hb _ e n => u.keep b o e n hb (by simp)) (fun b o _ hb _ e n => u.slot b o e n hb (by simp)) (fun b o _ e n => u.free b o e n (by simp)) (fun b o _ e => u.there b o e (by simp)) u.tups u.frzs u.tbls (fun m' hm => by
    obtain ⟨o', es', ep', ho', r'⟩ := hm
    rw [ho] at ho'; cases ho'
    exact ⟨_, es', ep', hL, r'⟩) hok I.bare
/-- behind a call (or a comprehension's block): the slots of this frame may have changed too, the records at ch may have turned -/
theorem Inv.call {g' : Array GenState} {t' : Nat} {d' : Drawn} {ch : List Addr} (I : Inv X pins σ H s) (u : Un (frs X.stack) ch H H' s.heap h') (hok : HOk X.prog X.w H' h') (hg : AllBare g')
    (hch : ∀ b ∈ ch, (b ∈ X.ex ∨ X.s₀.heap.objs.size ≤ b) ∧ b ≠ X.env.locals ∧ (∀ x c, X.env.cells.lookup x = some c → c ≠ b) ∧ ∀ p ∈ X.pn ++ pins, p.1 ≠ b) :
    Inv X pins σ H' { s with heap := h', gens := g', drawn := d', toks := t' } := by
  obtain ⟨m, ⟨o, es, ep, ho, r⟩, _⟩ := id I.loc
  obtain ⟨sl, hL⟩ := u.any ho I.free fun z => (hch _ z).2.1 rfl
  exact I.step (ch := ch) hch (fun b o hL hb hc e n => u.keep b o e n (fun z => (List.mem_cons.mp (I.stkSub b z)).elim hL hb) hc) (fun b o _ _ hc e n => u.any e n hc) (fun b o hc e n => u.free b o e n hc) (fun b o hc e => u.there b o e hc) u.tups u.frzs u.tbls (fun m' hm => by
    obtain ⟨o', es', ep', ho', r'⟩ := hm
    rw [ho] at ho'; cases ho'
    exact ⟨_, es', ep', hL, r'⟩) hok hg
/-- an untracked record of ours (an iterator) has turned -/
theorem Inv.turned {t' : Nat} {it : Addr} (I : Inv X pins σ H s) (k : ∀ b o, b ≠ it → s.heap.get? b = some o → h'.get? b = some o) (hn : H it = none) (hL : it ≠ X.env.locals)
    (h1 : it ∈ X.ex ∨ X.s₀.heap.objs.size ≤ it) (h2 : ∀ x c, X.env.cells.lookup x = some c → c ≠ it) (h3 : ∀ p ∈ X.pn ++ pins, p.1 ≠ it) : Inv X pins σ H { s with heap := h', toks := t' } := by
  have nit : ∀ b u, H b = some u → b ≠ it := fun b u e z => by rw [z, hn] at e; cases e
  refine I.step (g' := s.gens) (d' := s.drawn) (ch := [it]) (fun b hb => ?_) (fun b o _ _ hc e _ => k b o (fun z => hc (by simp [z])) e) (fun b o _ _ hc e _ => ⟨o.slots, k b o (fun z => hc (by simp [z])) e⟩) (fun _ _ _ _ n => n)
    (fun b o hc e => ⟨o, k b o (fun z => hc (by simp [z])) e⟩) (fun _ _ e => e) (fun _ _ _ e => e) (fun b ps e => ⟨#[], by rw [e]; simp⟩) (fun m hm => ?_) (fun b u e => ?_) I.bare
  · have e : b = it := by simpa using hb
    subst e
    exact ⟨h1, hL, h2, h3⟩
  · obtain ⟨o, es, ep, ho, r⟩ := hm
    exact ⟨o, es, ep, k _ o (Ne.symm hL) ho, r⟩
  · refine (I.hok b u e).stay (fun c v hc q => k c v ?_ q) (fun _ q => q) fun _ _ q => q
    rcases hc with z | z
    · rw [z]; exact nit b u e
    · exact nit c _ z
theorem Inv.tok (I : Inv X pins σ H s) (t : Nat) : Inv X pins σ H { s with toks := t } := I.un (h' := s.heap) (t' := t) Un.refl I.hok
/-- all objects kept -/
theorem Inv.kept {t' : Nat} (I : Inv X pins σ H s) (k : ∀ b u, s.heap.get? b = some u → h'.get? b = some u) : Inv X pins σ H { s with heap := h', toks := t' } := I.un (Un.kept k) (I.hok.kept k)
/-- a new object laid and tracked -/
theorem Inv.laid {a : Addr} {o : HO} {t' : Nat} (I : Inv X pins σ H s) (k : ∀ b u, s.heap.get? b = some u → h'.get? b = some u) (hp : s.heap.objs.size ≤ a) (new : ObjOk X.prog X.w (upd H a o) h' a o) :
    Inv X pins σ (upd H a o) { s with heap := h', toks := t' } := I.un (Un.laid k hp (I.hok.fresh hp)) (I.hok.laid k hp new)
/-- an object written -/
theorem Inv.write {x e : Addr} {o : HO} {t' : Nat} (I : Inv X pins σ H s) (mu : Mut (H x)) (he : e = x ∨ H e = some (.own x)) (k : ∀ b u, b ≠ e → s.heap.get? b = some u → h'.get? b = some u) (heo : ∃ u, h'.get? e = some u)
    (new : ObjOk X.prog X.w (upd H x o) h' x o) : Inv X pins σ (upd H x o) { s with heap := h', toks := t' } := I.un (Un.write mu he k heo) (I.hok.write mu he k heo new)
theorem Inv.pins_of {pins' : List (Addr × Obj)} (I : Inv X pins σ H s) (h : ∀ p ∈ pins', s.heap.get? p.1 = some p.2 ∧ H p.1 = none ∧ p.1 ≠ X.env.locals ∧ p.1 ∉ X.fs ∧ ∀ v, p.2.data ≠ .cell v) : Inv X pins' σ H s :=
  ⟨I.ok, I.os, I.bare, I.base, I.loc, I.cell, I.free, I.freeC, fun p hp => (List.mem_append.mp hp).elim (fun z => I.pin p (List.mem_append_left _ z)) (h p), I.hok, I.len⟩

theorem nodup_ix {N : List Str} (hN : N.Nodup) {i j : Nat} {x : Str} (a : N[i]? = some x) (b : N[j]? = some x) : i = j := by
  obtain ⟨h1, e1⟩ := List.getElem?_eq_some_iff.mp a
  obtain ⟨h2, e2⟩ := List.getElem?_eq_some_iff.mp b
  exact (List.getElem_inj hN).mp (e1.trans e2.symm)

/-- a name is stored; what changed -/
theorem store_ok2 {M : Model} {A : Around} {E : Value → Shared → Prop} {i : Nat} {x : Str} {v : V} {u : Value} {Q : Unit → Shared → Prop} (I : Inv X pins σ H s) (hN : X.N.Nodup) (hi : X.N[i]? = some x) (hx : Loc X.env.scope x) (r : RelV v u)
    (h : ∀ s', Inv X pins (σ.set i (some v)) H s' → (∃ a, Heap.SameBut a s.heap s'.heap ∧ (a = X.env.locals ∨ X.env.cells.lookup x = some a)) → Q () s') (hf : X.fn x = true ∨ X.env.scope.names.lookup x = some .local := by first | exact .inl rfl | exact .inr rfl | assumption) : wpAny M A (storeName X.env x u) Q E s := by
  obtain ⟨m, hn, hl⟩ := id I.loc
  have hcls : (X.env.scope.kind == .class || (X.env.scope.kind == .module && X.env.locals != X.env.globals)) = false := by rw [I.ok.kind]; rfl
  have hiσ : i < σ.length := by rw [I.len]; exact (List.getElem?_eq_some_iff.mp hi).1
  have cne := I.cne
  have tracked : ∀ {a : Addr} {h' : Heap}, (∃ o, s.heap.get? a = some o ∧ H a = none) → Heap.SameBut a s.heap h' → HOk X.prog X.w H h' := fun {a h'} ha hs b ob e => by
    obtain ⟨_, _, hfree⟩ := ha
    refine (I.hok b ob e).stay (fun c w' hc q => (hs.2 c ?_).trans q) (fun _ q => q) fun _ _ q => q
    rintro rfl
    rcases hc with rfl | hc
    · rw [hfree] at e; cases e
    · rw [hfree] at hc; cases hc
  rcases hx with hk | hk
  · refine wpAny_storeName_local hk hn (fun h' hn' hs => ?_) hcls
    obtain ⟨oL, _, _, hoL, _⟩ := id hn
    refine h _ ⟨I.ok, I.os, I.bare, ⟨fun b o e n hb hx => ?_, fun b o e n hb hx => ?_, I.base.free, fun b o e hx => ?_, I.base.tups, I.base.frzs, I.base.tbls⟩, ⟨_, hn', fun j y v' e1 e2 e3 => ?_⟩, fun y c e => ?_, I.free, I.freeC, fun p hp => ?_, tracked ⟨oL, hoL, I.free⟩ hs, by simpa using I.len⟩ ⟨_, hs, .inl rfl⟩
    · exact (hs.2 b (Nat.ne_of_lt (Nat.lt_of_lt_of_le (Heap.lt_size e) I.ok.above))).trans (I.base.keep b o e n hb hx)
    · obtain ⟨sl, e1⟩ := I.base.slot b o e n hb hx
      exact ⟨sl, (hs.2 b (Nat.ne_of_lt (Nat.lt_of_lt_of_le (Heap.lt_size e) I.ok.above))).trans e1⟩
    · obtain ⟨o', e1⟩ := I.base.there b o e hx
      exact ⟨o', (hs.2 b (Nat.ne_of_lt (Nat.lt_of_lt_of_le (Heap.lt_size e) I.ok.above))).trans e1⟩
    · by_cases hj : j = i
      · subst hj
        rw [hi] at e1; cases e1
        rw [List.getElem?_set_self hiσ] at e2
        cases e2
        exact ⟨u, r, .inl ⟨hk, by simp⟩⟩
      · rw [List.getElem?_set_ne (Ne.symm hj)] at e2
        obtain ⟨u', r', q⟩ := hl j y v' e1 e2 e3
        refine ⟨u', r', ?_⟩
        rcases q with ⟨k, e⟩ | ⟨k, c, e, z⟩
        · refine .inl ⟨k, ?_⟩
          have : y ≠ x := fun e => hj (nodup_ix hN e1 (e ▸ hi))
          simp [this, e]
        · exact .inr ⟨k, c, e, z.sameBut hs (cne y c e)⟩
    · obtain ⟨w', z⟩ := I.cell y c e
      exact ⟨w', z.sameBut hs (cne y c e)⟩
    · obtain ⟨e, n, ne, nf, d⟩ := I.pin p hp
      exact ⟨(hs.2 p.1 ne).trans e, n, ne, nf, d⟩
  · have hfn : X.fn x = true := by
      rcases hf with z | z
      · exact z
      · rw [z] at hk; cases hk
    obtain ⟨c, hc⟩ := I.ok.has x (.inl hk)
    obtain ⟨w', z⟩ := I.cell x c hc
    refine wpAny_storeName_cell I.ok.kind hk hc z (fun h' hc' hs => ?_)
    obtain ⟨oc, hoc, hocd⟩ := id z
    refine h { s with heap := h' } ⟨I.ok, I.os, I.bare, ⟨fun b o e n hb hx => ?_, fun b o e n hb hx => ?_, I.base.free, fun b o e hx => ?_, I.base.tups, I.base.frzs, I.base.tbls⟩, ⟨m, hn.sameBut hs (Ne.symm (cne x c hc)), fun j y v' e1 e2 e3 => ?_⟩, fun y c' e => ?_, I.free, I.freeC, fun p hp => ?_, tracked ⟨oc, hoc, I.freeC x c hc⟩ hs, by simpa using I.len⟩ ⟨c, hs, .inr hc⟩
    · exact (hs.2 b (Nat.ne_of_lt (Nat.lt_of_lt_of_le (Heap.lt_size e) (I.ok.cab x c hfn hc)))).trans (I.base.keep b o e n hb hx)
    · obtain ⟨sl, e1⟩ := I.base.slot b o e n hb hx
      exact ⟨sl, (hs.2 b (Nat.ne_of_lt (Nat.lt_of_lt_of_le (Heap.lt_size e) (I.ok.cab x c hfn hc)))).trans e1⟩
    · obtain ⟨o', e1⟩ := I.base.there b o e hx
      exact ⟨o', (hs.2 b (Nat.ne_of_lt (Nat.lt_of_lt_of_le (Heap.lt_size e) (I.ok.cab x c hfn hc)))).trans e1⟩
    · by_cases hj : j = i
      · subst hj
        rw [hi] at e1; cases e1
        rw [List.getElem?_set_self hiσ] at e2
        cases e2
        exact ⟨u, r, .inr ⟨.inl hk, c, hc, hc'⟩⟩
      · rw [List.getElem?_set_ne (Ne.symm hj)] at e2
        obtain ⟨u', r', q⟩ := hl j y v' e1 e2 e3
        refine ⟨u', r', ?_⟩
        rcases q with q | ⟨k, c', e, z'⟩
        · exact .inl q
        · refine .inr ⟨k, c', e, z'.sameBut hs ?_⟩
          rintro rfl
          exact hj (nodup_ix hN e1 (I.ok.inj _ _ _ e hc ▸ hi))
    · by_cases hcc : c' = c
      · subst hcc; exact ⟨_, hc'⟩
      · obtain ⟨w2, z2⟩ := I.cell y c' e
        exact ⟨w2, z2.sameBut hs hcc⟩
    · obtain ⟨e, n, ne, nf, d⟩ := I.pin p hp
      refine ⟨(hs.2 p.1 ?_).trans e, n, ne, nf, d⟩
      intro q
      rw [q, hoc] at e
      have q' : oc = p.2 := Option.some.inj e
      exact d w' (by rw [← q']; exact hocd)
theorem store_ok {M : Model} {A : Around} {E : Value → Shared → Prop} {i : Nat} {x : Str} {v : V} {u : Value} {Q : Unit → Shared → Prop} (I : Inv X pins σ H s) (hN : X.N.Nodup) (hi : X.N[i]? = some x) (hx : Loc X.env.scope x) (r : RelV v u)
    (h : ∀ s', Inv X pins (σ.set i (some v)) H s' → Q () s') (hf : X.fn x = true ∨ X.env.scope.names.lookup x = some .local := by first | exact .inl rfl | exact .inr rfl | assumption) : wpAny M A (storeName X.env x u) Q E s :=
  store_ok2 I hN hi hx r (fun s' I' _ => h s' I') hf
/-- behind a call or a block, the state as it is -/
theorem Inv.call' {s' : Shared} {ch : List Addr} (I : Inv X pins σ H s) (ho : s'.os = s.os) (u : Un (frs X.stack) ch H H' s.heap s'.heap) (hok : HOk X.prog X.w H' s'.heap) (hg : AllBare s'.gens)
    (hch : ∀ b ∈ ch, (b ∈ X.ex ∨ X.s₀.heap.objs.size ≤ b) ∧ b ≠ X.env.locals ∧ (∀ x c, X.env.cells.lookup x = some c → c ≠ b) ∧ ∀ p ∈ X.pn ++ pins, p.1 ≠ b) : Inv X pins σ H' s' := by
  obtain ⟨h', g', d', t', o'⟩ := s'
  have e : o' = s.os := ho
  subst e
  exact I.call (g' := g') (t' := t') (d' := d') u hok hg hch
end

/-! ### the judgements -/
/-- an exception: its class, its own dict's address (where it has one), the abstract heap behind it -/
abbrev XK := Value → Option Addr → Hp → Prop
abbrev St := List (Option V)
abbrev VK := V → Hp → Prop
/-- an expression's reading; a test's; an argument list's -/
abbrev TE := St → Hp → VK → Prop
abbrev TT := St → Hp → (Bool → Hp → Prop) → Prop
abbrev TA := St → Hp → (List V → Hp → Prop) → Prop
/-- what is wanted behind a statement -/
structure Ends where
  nx : St → Hp → Prop
  rt : VK
  bk : St → Hp → Prop := fun _ _ => False
  ct : St → Hp → Prop := fun _ _ => False
abbrev TS := Ends → St → Hp → Prop

def EP (X : Cx) (pins : List (Addr × Obj)) (σ : St) (Q : VK) (u : Value) (s' : Shared) : Prop := ∃ v H', Inv X pins σ H' s' ∧ RelV v u ∧ Q v H'
def TP (X : Cx) (pins : List (Addr × Obj)) (σ : St) (Q : Bool → Hp → Prop) (b : Bool) (s' : Shared) : Prop := ∃ H', Inv X pins σ H' s' ∧ Q b H'
def AP (X : Cx) (pins : List (Addr × Obj)) (σ : St) (Q : List V → Hp → Prop) (us : List Value) (s' : Shared) : Prop := ∃ vs H', Inv X pins σ H' s' ∧ Vals vs us ∧ Q vs H'
def SP (X : Cx) (pins : List (Addr × Obj)) (D : Ends) (f : Flow) (s' : Shared) : Prop :=
  match f with
  | .next => ∃ σ' H', Inv X pins σ' H' s' ∧ D.nx σ' H'
  | .brk => ∃ σ' H', Inv X pins σ' H' s' ∧ D.bk σ' H'
  | .cont => ∃ σ' H', Inv X pins σ' H' s' ∧ D.ct σ' H'
  | .ret u => ∃ v σ' H', Inv X pins σ' H' s' ∧ RelV v u ∧ D.rt v H'

def PE (X : Cx) (e : Expr) (t : TE) : Prop :=
  ∀ (pins : List (Addr × Obj)) (s : Shared) (σ : St) (H : Hp) (Q : VK), Inv X pins σ H s → t σ H Q → wpAny (model X.prog X.w) X.A (eval e X.env) (EP X pins σ Q) X.xe s
def PT (X : Cx) (e : Expr) (t : TT) : Prop :=
  ∀ (pins : List (Addr × Obj)) (s : Shared) (σ : St) (H : Hp) (Q : Bool → Hp → Prop), Inv X pins σ H s → t σ H Q → wpAny (model X.prog X.w) X.A (isTrue e X.env (eval e X.env)) (TP X pins σ Q) X.xe s
/-- a test whatever its 'whole' is (and, or) -/
def PW (X : Cx) (e : Expr) (t : TT) : Prop :=
  ∀ (whole : Sem Value) (pins : List (Addr × Obj)) (s : Shared) (σ : St) (H : Hp) (Q : Bool → Hp → Prop), Inv X pins σ H s → t σ H Q → wpAny (model X.prog X.w) X.A (isTrue e X.env whole) (TP X pins σ Q) X.xe s
theorem PW.pt {X : Cx} {e : Expr} {t : TT} (h : PW X e t) : PT X e t := h _
/-- an argument list (no star), from the left -/
def PA (X : Cx) (es : List Expr) (t : TA) : Prop :=
  ∀ (pos : Pos) (pins : List (Addr × Obj)) (s : Shared) (σ : St) (H : Hp) (Q : List V → Hp → Prop), Inv X pins σ H s → t σ H Q → wpAny (model X.prog X.w) X.A (spliced (backTo pos (starEach es X.env))) (AP X pins σ Q) X.xe s
def PS (X : Cx) (st : Stmt) (t : TS) : Prop :=
  ∀ (pins : List (Addr × Obj)) (s : Shared) (σ : St) (H : Hp) (D : Ends), Inv X pins σ H s → t D σ H → wpAny (model X.prog X.w) X.A (exec st X.env) (SP X pins D) X.xe s
def PSs (X : Cx) (st : List Stmt) (t : TS) : Prop :=
  ∀ (pins : List (Addr × Obj)) (s : Shared) (σ : St) (H : Hp) (D : Ends), Inv X pins σ H s → t D σ H → wpAny (model X.prog X.w) X.A (execs st X.env) (SP X pins D) X.xe s
/-- weaken the end -/
theorem thn {α : Type} {t : Sem α} {Q Q' : α → Shared → Prop} {M : Model} {A : Around} {E : Value → Shared → Prop} {s : Shared} (h : wpAny M A t Q E s) (hQ : ∀ a s, Q a s → Q' a s) : wpAny M A t Q' E s := wpAny_mono h hQ fun _ _ x => x
end L2

namespace L2
open PySem PySem.Spec PyProof.Rows
section
variable {X : Cx}

/-! ### names and constants -/
def tVar (i : Nat) : TE := fun σ H Q => ∃ v, σ[i]? = some (some v) ∧ Q v H
def tC (v : V) : TE := fun _ H Q => Q v H
theorem pe_var {i : Nat} {x : Str} {pos : Pos} (hN : X.N[i]? = some x) (hv : Vis X.env.scope x) (hd : (x == ("__debug__" : Str)) = false := by decide) (hcd : (x == ("__classdict__" : Str)) = false := by decide) : PE X (.Name x pos) (tVar i) := by
  intro pins s σ H Q I h
  obtain ⟨v, e, h⟩ := h
  obtain ⟨m, hn, hl⟩ := I.loc
  obtain ⟨u, r, l⟩ := hl i x v hN e hv
  have fin : EP X pins σ Q u s := ⟨v, H, I, r, h⟩
  rcases l with ⟨hk, hm⟩ | ⟨hk, c, hc, hcell⟩
  · exact wpAny_Name (wpAny_loadName_local I.ok.kind hk hn hm fin) hd
  · rcases hk with hk | hk
    · exact wpAny_Name (wpAny_loadName_cell I.ok.kind hk hc hcell fin) hd
    · exact wpAny_Name (wpAny_loadName_free I.ok.kind hk hc hcell fin hcd) hd
theorem pe_int {i j pos} : PE X (.Constant (.int i) j pos) (tC (.int i)) := fun _ _ _ H _ I h => wpAny_Constant_int ⟨.int i, H, I.tok _, ⟨_, rfl⟩, h⟩
theorem pe_bl {b j pos} : PE X (.Constant (.bool b) j pos) (tC (.bl b)) := fun _ _ _ H _ I h => Constant_bool ⟨.bl b, H, I, rfl, h⟩
theorem pe_str {x j pos} : PE X (.Constant (.str x) j pos) (tC (.str x)) := fun _ _ _ H _ I h => Calls.Constant_str ⟨.str x, H, I.tok _, ⟨_, rfl⟩, h⟩

/-- a global name of the def -/
def Gl (X : Cx) (x : Str) : Prop := X.env.kindOf x = some .globalImplicit
theorem ld_glob {E : Value → Shared → Prop} {pins : List (Addr × Obj)} {s : Shared} {σ : St} {H : Hp} {x : Str} {u : Value} {pos : Pos} {Q : Value → Shared → Prop} (I : Inv X pins σ H s) (hg : Gl X x) (hm : X.mg x = some u) (h : Q u s)
    (hd : (x == ("__debug__" : Str)) = false := by decide) : wpAny (model X.prog X.w) X.A (eval (.Name x pos) X.env) Q E s :=
  Calls.Name_function_global I.ok.kind hg (Calls.loadGlobal_global (by rw [I.ok.glob]; exact I.mod.glob.keeps I.bk) hm h) hd
theorem ld_blt {E : Value → Shared → Prop} {pins : List (Addr × Obj)} {s : Shared} {σ : St} {H : Hp} {x : Str} {u : Value} {pos : Pos} {Q : Value → Shared → Prop} (I : Inv X pins σ H s) (hg : Gl X x) (hm : X.mg x = none) (hv : bootBuiltins x = some u) (h : Q u s)
    (hn : x ≠ "__name__" := by decide) (hd : (x == ("__debug__" : Str)) = false := by decide) : wpAny (model X.prog X.w) X.A (eval (.Name x pos) X.env) Q E s := by
  obtain ⟨mb, h1, h2⟩ := I.mod.blt
  exact Calls.Name_function_global I.ok.kind hg (Calls.loadGlobal_builtin (by rw [I.ok.glob]; exact I.mod.glob.keeps I.bk) hm (by rw [I.ok.blt]; exact h1.keeps I.bk) ((h2 x hn).trans hv) h) hd
/-- a module's constant, a class, a function, as a value -/
theorem pe_glob {x : Str} {v : V} {u : Value} {pos : Pos} (hg : Gl X x) (hm : X.mg x = some u) (r : RelV v u) (hd : (x == ("__debug__" : Str)) = false := by decide) : PE X (.Name x pos) (tC v) :=
  fun _ _ _ H _ I h => ld_glob I hg hm ⟨v, H, I, r, h⟩ hd
theorem pe_bltn {x : Str} {v : V} {u : Value} {pos : Pos} (hg : Gl X x) (hm : X.mg x = none) (hv : bootBuiltins x = some u) (r : RelV v u) (hn : x ≠ "__name__" := by decide) (hd : (x == ("__debug__" : Str)) = false := by decide) : PE X (.Name x pos) (tC v) :=
  fun _ _ _ H _ I h => ld_blt I hg hm hv ⟨v, H, I, r, h⟩ hn hd

/-! ### arithmetic -/
variable {a b : Expr} {ta tb : TE} {pos : Pos}
/-! ### comparisons -/
def PC (X : Cx) (op : CmpOp) (a b : Expr) (t : TE) : Prop :=
  ∀ (pins : List (Addr × Obj)) (s : Shared) (σ : St) (H : Hp) (Q : VK), Inv X pins σ H s → t σ H Q →
    wpAny (model X.prog X.w) X.A (eval a X.env) (fun v s₁ => wpAny (model X.prog X.w) X.A (eval b X.env) (fun u s₂ => wpAny (model X.prog X.w) X.A (compareOp op v u) (EP X pins σ Q) X.xe s₂) X.xe s₁) X.xe s
/-- a comparison as a value, as a test -/
def tB (t : TE) : TT := fun σ H Q => t σ H fun x H1 => ∃ c, x = .bl c ∧ Q c H1
theorem pt_cmp {op : CmpOp} {t : TE} (h : PC X op a b t) (h1 : behindInMarks op b = false := by first | exact nobehind _ (by decide) (by decide) | rfl) : PT X (.Compare a [op] [b] pos) (tB t) := by
  intro pins s σ H Q I hw
  refine wpAny_isTrue_Compare1 (thn (h pins s σ H _ I hw) fun v s1 h1 => thn h1 fun u s2 h2 => thn h2 fun c s3 ⟨x, H1, I1, r1, q1⟩ => ?_) h1
  obtain ⟨d, rfl, q⟩ := q1
  cases r1
  exact wpAny_truthy_bool ⟨H1, I1, q⟩
/-- an expression whose value is a bool, as a test -/
theorem pt_val {e : Expr} {t : TE} (h : PE X e t) (he : ∀ whole, isTrue e X.env whole = (do let v ← whole; standAt e.pos; holding [v] (truthy v)) := by intro _; rfl) : PT X e (tB t) := by
  intro pins s σ H Q I hw
  refine isTrue_plain (thn (h pins s σ H _ I hw) fun v s1 ⟨x, H1, I1, r1, q1⟩ => ?_) (he _)
  obtain ⟨d, rfl, q⟩ := q1
  cases r1
  exact wpAny_truthy_bool ⟨H1, I1, q⟩

/-! ### and, or, not -/
variable {tA tB' : TT} {rest : List Expr}
def tAnd (t u : TT) : TT := fun σ H Q => t σ H fun c H1 => if c = true then u σ H1 Q else Q false H1
def tOr (t u : TT) : TT := fun σ H Q => t σ H fun c H1 => if c = true then Q true H1 else u σ H1 Q
def tNot (t : TT) : TT := fun σ H Q => t σ H fun c H1 => Q (!c) H1
theorem pw_and1 (ha : PT X a tA) : PW X (.BoolOp .And [a] pos) tA := by
  intro wh pins s σ H Q I h
  refine isTrue_and (thn (ha pins s σ H Q I h) fun c s1 e => ?_)
  cases c with
  | true => exact isTrue_and_nil e
  | false => exact e
theorem pw_or1 (ha : PT X a tA) : PW X (.BoolOp .Or [a] pos) tA := by
  intro wh pins s σ H Q I h
  refine isTrue_or (thn (ha pins s σ H Q I h) fun c s1 e => ?_)
  cases c with
  | false => exact isTrue_or_nil e
  | true => exact e
theorem pw_and (ha : PT X a tA) (hb : PW X (.BoolOp .And (b :: rest) pos) tB') : PW X (.BoolOp .And (a :: b :: rest) pos) (tAnd tA tB') := by
  intro wh pins s σ H Q I h
  refine isTrue_and (thn (ha pins s σ H _ I h) fun c s1 ⟨H1, I1, q1⟩ => ?_)
  cases c with
  | true => exact hb wh pins s1 σ H1 Q I1 q1
  | false => exact ⟨H1, I1, q1⟩
theorem pw_or (ha : PT X a tA) (hb : PW X (.BoolOp .Or (b :: rest) pos) tB') : PW X (.BoolOp .Or (a :: b :: rest) pos) (tOr tA tB') := by
  intro wh pins s σ H Q I h
  refine isTrue_or (thn (ha pins s σ H _ I h) fun c s1 ⟨H1, I1, q1⟩ => ?_)
  cases c with
  | true => exact ⟨H1, I1, q1⟩
  | false => exact hb wh pins s1 σ H1 Q I1 q1
theorem pt_not (ha : PT X a tA) : PT X (.UnaryOp .Not a pos) (tNot tA) := by
  intro pins s σ H Q I h
  exact isTrue_not (ha pins s σ H (fun c H1 => Q (!c) H1) I h)
/-- .. as values (bools) -/
def tAndV (ta tb : TE) : TE := fun σ H Q => ta σ H fun x H1 => ∃ c, x = .bl c ∧ if c = true then tb σ H1 Q else Q (.bl false) H1
def tOrV (ta tb : TE) : TE := fun σ H Q => ta σ H fun x H1 => ∃ c, x = .bl c ∧ if c = true then Q (.bl true) H1 else tb σ H1 Q
def tNotV (ta : TE) : TE := fun σ H Q => ta σ H fun x H1 => ∃ c, x = .bl c ∧ Q (.bl (!c)) H1
theorem pe_one {op} {t : TE} (h : PE X a t) : PE X (.BoolOp op [a] pos) t := fun pins s σ H Q I hw => BoolOp_one (h pins s σ H Q I hw)
theorem pe_and (ha : PE X a ta) (hb : PE X (.BoolOp .And (b :: rest) pos) tb) : PE X (.BoolOp .And (a :: b :: rest) pos) (tAndV ta tb) := by
  intro pins s σ H Q I h
  refine BoolOp_and (thn (ha pins s σ H _ I h) fun v s1 ⟨x, H1, I1, r1, q1⟩ => ?_)
  obtain ⟨c, rfl, q1⟩ := q1
  cases r1
  refine wpAny_truthy_bool ?_
  cases c with
  | true => exact hb pins s1 σ H1 Q I1 q1
  | false => exact ⟨.bl false, H1, I1, rfl, q1⟩
theorem pe_or (ha : PE X a ta) (hb : PE X (.BoolOp .Or (b :: rest) pos) tb) : PE X (.BoolOp .Or (a :: b :: rest) pos) (tOrV ta tb) := by
  intro pins s σ H Q I h
  refine BoolOp_or (thn (ha pins s σ H _ I h) fun v s1 ⟨x, H1, I1, r1, q1⟩ => ?_)
  obtain ⟨c, rfl, q1⟩ := q1
  cases r1
  refine wpAny_truthy_bool ?_
  cases c with
  | false => exact hb pins s1 σ H1 Q I1 q1
  | true => exact ⟨.bl true, H1, I1, rfl, q1⟩
theorem pe_not (ha : PE X a ta) : PE X (.UnaryOp .Not a pos) (tNotV ta) := by
  intro pins s σ H Q I h
  refine UnaryOp_ (thn (ha pins s σ H _ I h) fun v s1 ⟨x, H1, I1, r1, q1⟩ => ?_)
  obtain ⟨c, rfl, q1⟩ := q1
  cases r1
  exact not_of (wpAny_truthy_bool ⟨.bl (!c), H1, I1, rfl, q1⟩)
end
end L2

namespace L2
open PySem PySem.Spec PyProof.Rows

/-! ### a list, a tuple that is read: tracked, frozen, or an object of the module -/
def SqL (K : PySem.W.Frag) (H : Hp) (a : Addr) (xs : List V) : Prop :=
  Rd H a (.lst xs) ∨
    ∃ (o : Obj) (its : Array Value) (n : Nat), K.lookup a = some o ∧ o.cls = .type "list" ∧ o.dict = none ∧ o.data = .seq its n ∧ its.size ≤ sizeLine ∧ Vals xs its.toList
def SqT (K : PySem.W.Frag) (H : Hp) (a : Addr) (xs : List V) : Prop :=
  Rd H a (.tup xs) ∨
    ∃ (o : Obj) (its : Array Value) (n : Nat), K.lookup a = some o ∧ o.cls = .type "tuple" ∧ o.data = .seq its n ∧ its.size ≤ sizeLine ∧ Vals xs its.toList
def absV : Value → Option V
  | .none => some .non
  | .bool b => some (.bl b)
  | .int i _ => some (.int i)
  | .str x _ => some (.str x)
  | .bytes b _ => some (.byt b)
  | .float b _ => some (.flt b)
  | .ref a => some (.ref a)
  | .type n => some (.ty n)
  | _ => none
theorem RelV.abs {x : V} {u : Value} (r : RelV x u) : absV u = some x := by
  cases x with
  | non => cases r; rfl
  | bl _ => cases r; rfl
  | int _ => obtain ⟨t, rfl⟩ := r; rfl
  | str _ => obtain ⟨t, rfl⟩ := r; rfl
  | byt _ => obtain ⟨t, rfl⟩ := r; rfl
  | flt _ => obtain ⟨t, rfl⟩ := r; rfl
  | ref _ => cases r; rfl
  | ty _ => cases r; rfl
theorem RelV.inj {x y : V} {u : Value} (r : RelV x u) (q : RelV y u) : x = y := Option.some.inj (r.abs.symm.trans q.abs)
theorem Vals.inj : ∀ {xs ys : List V} {us : List Value}, Vals xs us → Vals ys us → xs = ys
  | _, _, _, .nil, .nil => rfl
  | _, _, _, .cons r t, .cons r' t' => by rw [r.inj r', Vals.inj t t']
section
variable {X : Cx} {pins : List (Addr × Obj)} {σ : St} {H : Hp} {s : Shared} {a : Addr} {xs ys : List V}
theorem SqL.of {K : PySem.W.Frag} (h : H a = some (.lst xs)) : SqL K H a xs := .inl (.inl h)
theorem SqT.of {K : PySem.W.Frag} (h : H a = some (.tup xs)) : SqT K H a xs := .inl (.inl h)
theorem Inv.list (I : Inv X pins σ H s) (h : SqL X.K H a xs) : ∃ its : List Value, Vals xs its ∧ PlainL s.heap a its.toArray ∧ xs.length ≤ sizeLine := by
  rcases h with h | ⟨o, its, n, hk, hc, hd, hs, hz, r⟩
  · obtain ⟨z, its, n, r, e⟩ := h.ok I.hok
    exact ⟨its, r, ⟨_, n, e, rfl, rfl, rfl⟩, z⟩
  · refine ⟨its.toList, r, ⟨o, n, I.kIn a o hk, hc, hd, by simpa using hs⟩, ?_⟩
    have e := r.length
    simp only [Array.length_toList] at e
    omega
theorem Inv.tuple (I : Inv X pins σ H s) (h : SqT X.K H a xs) : ∃ its : List Value, Vals xs its ∧ IsTup s.heap a its.toArray ∧ xs.length ≤ sizeLine := by
  rcases h with h | ⟨o, its, n, hk, hc, hs, hz, r⟩
  · obtain ⟨z, its, r, p⟩ := h.ok I.hok
    exact ⟨its, r, p, z⟩
  · refine ⟨its.toList, r, ⟨o, I.kIn a o hk, hc, n, by simpa using hs⟩, ?_⟩
    have e := r.length
    simp only [Array.length_toList] at e
    omega
theorem Inv.list_inj (I : Inv X pins σ H s) (h : SqL X.K H a xs) (h' : SqL X.K H a ys) : xs = ys := by
  obtain ⟨its, r, ⟨o, n, e, _, _, d⟩, _⟩ := I.list h
  obtain ⟨its', r', ⟨o', n', e', _, _, d'⟩, _⟩ := I.list h'
  rw [e] at e'; cases e'
  rw [d] at d'
  injection d' with d1 _
  have : its = its' := by simpa using congrArg Array.toList d1
  subst this
  exact r.inj r'
end

/-! ### another wish about exceptions -/
abbrev Cx.wish (X : Cx) (E : Value → Shared → Prop) : Cx := { X with xe := E }
/-- no exception leaves -/
abbrev Cx.nox (X : Cx) : Cx := X.wish fun _ _ => False
theorem Cx.Ok.wish {X : Cx} (ok : X.Ok) (E : Value → Shared → Prop) : (X.wish E).Ok :=
  ⟨ok.mod, ok.kind, ok.glob, ok.blt, ok.above, ok.inj, ok.has, ok.cab, ok.hd, ok.frames, ok.stk, ok.exf, ok.bs, ok.bsz, ok.noex, ok.exfs, ok.funs, ok.frf⟩
theorem Cx.Ok.unwish {X : Cx} {E : Value → Shared → Prop} (ok : (X.wish E).Ok) : X.Ok :=
  ⟨ok.mod, ok.kind, ok.glob, ok.blt, ok.above, ok.inj, ok.has, ok.cab, ok.hd, ok.frames, ok.stk, ok.exf, ok.bs, ok.bsz, ok.noex, ok.exfs, ok.funs, ok.frf⟩
section
variable {X : Cx} {pins : List (Addr × Obj)} {σ : St} {H : Hp} {s : Shared} {E : Value → Shared → Prop}
theorem Inv.wish (I : Inv X pins σ H s) (E : Value → Shared → Prop) : Inv (X.wish E) pins σ H s := ⟨I.ok.wish E, I.os, I.bare, I.base, I.loc, I.cell, I.free, I.freeC, I.pin, I.hok, I.len⟩
theorem Inv.unwish (I : Inv (X.wish E) pins σ H s) : Inv X pins σ H s := ⟨I.ok.unwish, I.os, I.bare, I.base, I.loc, I.cell, I.free, I.freeC, I.pin, I.hok, I.len⟩
theorem SP.unwish {D : Ends} {f : Flow} {s' : Shared} (h : SP (X.wish E) pins D f s') : SP X pins D f s' := by
  cases f with
  | next => obtain ⟨σ', H', I, q⟩ := h; exact ⟨σ', H', I.unwish, q⟩
  | brk => obtain ⟨σ', H', I, q⟩ := h; exact ⟨σ', H', I.unwish, q⟩
  | cont => obtain ⟨σ', H', I, q⟩ := h; exact ⟨σ', H', I.unwish, q⟩
  | ret u => obtain ⟨v, σ', H', I, r, q⟩ := h; exact ⟨v, σ', H', I.unwish, r, q⟩
theorem PSs.nox {st : List Stmt} {t : TS} (h : PSs X.nox st t) : PSs X st t := fun pins s σ H D I hw =>
  wpAny_mono (h pins s σ H D (I.wish _) hw) (fun _ _ q => q.unwish) fun _ _ z => False.elim z
end

/-! ### blocks and small statements -/
section
variable {X : Cx} {st : Stmt} {rest : List Stmt} {t u : TS} {e : Expr} {te : TE} {pos : Pos}
def tNext : TS := fun D σ H => D.nx σ H
def tSeq (t u : TS) : TS := fun D σ H => t { D with nx := u D } σ H
theorem pss_nil : PSs X [] tNext := fun _ _ σ H _ I h => wpAny_execs_nil ⟨σ, H, I, h⟩
theorem pss_cons (h1 : PS X st t) (h2 : PSs X rest u) : PSs X (st :: rest) (tSeq t u) := by
  intro pins s σ H D I h
  refine wpAny_execs_cons (thn (h1 pins s σ H { D with nx := u D } I h) fun f s1 q => ?_)
  cases f with
  | next =>
    obtain ⟨σ', H', I', q⟩ := q
    exact h2 pins s1 σ' H' D I' q
  | ret v => exact q
  | brk => exact q
  | cont => exact q
theorem pss_one (h1 : PS X st t) : PSs X [st] t := by
  intro pins s σ H D I h
  refine wpAny_execs_cons (thn (h1 pins s σ H D I h) fun f s1 q => ?_)
  cases f with
  | next => exact wpAny_execs_nil q
  | ret v => exact q
  | brk => exact q
  | cont => exact q
/-- in a def's body nothing is shown -/
theorem Inv.quiet {pins : List (Addr × Obj)} {σ : St} {H : Hp} {s : Shared} (I : Inv X pins σ H s) : interactive X.env = false := by simp [interactive, I.ok.kind]
/-- an expression whose value is dropped -/
def tDrop (te : TE) : TS := fun D σ H => te σ H fun _ H1 => D.nx σ H1
theorem ps_expr (he : PE X e te) (hs : swapsWith e none pos.line X.env = pure false := by rfl) : PS X (.Expr e pos) (tDrop te) := by
  intro pins s σ H D I h
  exact wpAny_Expr_any (thn (he pins s σ H _ I h) fun v s1 ⟨x, H1, I1, r1, q1⟩ => ⟨σ, H1, I1, q1⟩) I.quiet hs
def tRet (te : TE) : TS := fun D σ H => te σ H D.rt
theorem ps_ret (he : PE X e te) : PS X (.Return (some e) pos) (tRet te) := by
  intro pins s σ H D I h
  exact wpAny_Return_some (thn (he pins s σ H _ I h) fun v s1 ⟨x, H1, I1, r1, q1⟩ => ⟨x, σ, H1, I1, r1, q1⟩)
def tIfS (c : TT) (t u : TS) : TS := fun D σ H => c σ H fun b H1 => if b = true then t D σ H1 else u D σ H1
theorem ps_if {c : Expr} {a b : List Stmt} {tc : TT} (hc : PT X c tc) (ha : PSs X a t) (hb : PSs X b u) : PS X (.If c a b pos) (tIfS tc t u) := by
  intro pins s σ H D I h
  refine wpAny_If (thn (hc pins s σ H _ I h) fun d s1 ⟨H1, I1, q1⟩ => ?_)
  cases d with
  | true => exact ha pins s1 σ H1 D I1 q1
  | false => exact hb pins s1 σ H1 D I1 q1
/-- code that the proof never comes to -/
def tNever : TS := fun _ _ _ => False
theorem ps_never : PS X st tNever := fun _ _ _ _ _ _ h => h.elim
end

/-! ### targets -/
abbrev TG := V → St → Hp → (St → Hp → Prop) → Prop
abbrev TGs := List V → St → Hp → (St → Hp → Prop) → Prop
def PG (X : Cx) (target : Expr) (t : TG) : Prop :=
  ∀ (pins : List (Addr × Obj)) (s : Shared) (σ : St) (H : Hp) (v : V) (u : Value) (Q : St → Hp → Prop), Inv X pins σ H s → RelV v u → t v σ H Q →
    wpAny (model X.prog X.w) X.A (assign target X.env u) (fun _ s' => ∃ σ' H', Inv X pins σ' H' s' ∧ Q σ' H') X.xe s
/-- several targets, one after another -/
def PGs (X : Cx) (ts : List Expr) (t : TGs) : Prop :=
  ∀ (pins : List (Addr × Obj)) (s : Shared) (σ : St) (H : Hp) (vs : List V) (us : List Value) (Q : St → Hp → Prop), Inv X pins σ H s → Vals vs us → t vs σ H Q →
    wpAny (model X.prog X.w) X.A (assignInOrder ((assignEach ts X.env).map (·.2)) us) (fun _ s' => ∃ σ' H', Inv X pins σ' H' s' ∧ Q σ' H') X.xe s
/-- a op= b, by values -/
abbrev TIp := V → V → Hp → VK → Prop
def PIp (X : Cx) (op : Operator) (t : TIp) : Prop :=
  ∀ (pins : List (Addr × Obj)) (s : Shared) (σ : St) (H : Hp) (x y : V) (v u : Value) (Q : VK), Inv X pins σ H s → RelV x v → RelV y u → t x y H Q →
    wpAny (model X.prog X.w) X.A (inplaceOp op v u) (EP X pins σ Q) X.xe s
section
variable {X : Cx} {pos : Pos}
def gName (i : Nat) : TG := fun v σ H Q => Q (σ.set i (some v)) H
theorem pg_name {i : Nat} {x : Str} (hN : X.N.Nodup) (hi : X.N[i]? = some x) (hx : Loc X.env.scope x) (hf : X.fn x = true ∨ X.env.scope.names.lookup x = some .local := by first | exact .inl rfl | exact .inr rfl | assumption) : PG X (.Name x pos) (gName i) := by
  intro pins s σ H v u Q I r h
  exact wpAny_assign_Name (store_ok I hN hi hx r (fun s' I' => ⟨_, H, I', h⟩) hf)
def gNil : TGs := fun vs σ H Q => vs = [] ∧ Q σ H
def gCons (t : TG) (u : TGs) : TGs := fun vs σ H Q => ∃ v r, vs = v :: r ∧ t v σ H fun σ' H' => u r σ' H' Q
theorem pgs_nil : PGs X [] gNil := by
  intro pins s σ H vs us Q I r h
  obtain ⟨e, h⟩ := h
  subst e
  cases r
  exact assignInOrder_nil ⟨σ, H, I, h⟩
theorem pgs_cons {e : Expr} {es : List Expr} {t : TG} {u : TGs} (h1 : PG X e t) (h2 : PGs X es u)
    (hs : (assignEach (e :: es) X.env).map (·.2) = assign e X.env :: (assignEach es X.env).map (·.2) := by rfl) : PGs X (e :: es) (gCons t u) := by
  intro pins s σ H vs us Q I r h
  obtain ⟨v, vr, e1, h⟩ := h
  subst e1
  cases r with
  | cons r rr =>
    rw [hs]
    refine assignInOrder_cons (thn (h1 pins s σ H _ _ _ I r h) fun _ s1 ⟨σ1, H1, I1, q1⟩ => ?_)
    exact h2 pins s1 σ1 H1 _ _ Q I1 rr q1
/-- (a, b, ..) = a tuple of that length -/
def gTup (K : PySem.W.Frag) (n : Nat) (t : TGs) : TG := fun v σ H Q => ∃ a xs, v = .ref a ∧ SqT K H a xs ∧ xs.length = n ∧ t xs σ H Q
theorem pg_tup {es : List Expr} {k : Nat} {t : TGs} {n : Nat} (hc : X.calm = true) (h : PGs X es t)
    (hn : (assignEach es X.env).length = n := by rfl) (hst : (assignEach es X.env).findIdx? (·.1) = none := by rfl) : PG X (.Tuple es k pos) (gTup X.K n t) := by
  intro pins s σ H v u Q I r hw
  obtain ⟨a, xs, e1, hq, hl, hw⟩ := hw
  subst e1
  cases r
  obtain ⟨its, rv, ht, hz⟩ := I.tuple hq
  refine assign_Tuple_tuple (I.ok.hd hc) ht (by simp [hn, ← hl, rv.length]) hst fun h' hx => ?_
  have I1 : Inv X pins σ H { s with heap := h' } := I.kept (t' := s.toks) fun b o e => hx b o (Nat.ne_of_lt (Heap.lt_size e)) e
  exact h pins _ σ H xs _ Q I1 (by simpa using rv) hw
/-- target = value -/
def tAsg (te : TE) (g : TG) : TS := fun D σ H => te σ H fun x H1 => g x σ H1 D.nx
/-- name = value -/
theorem ps_set {i : Nat} {x : Str} {e : Expr} {te : TE} {pos' : Pos} (hN : X.N.Nodup) (hi : X.N[i]? = some x) (hx : Loc X.env.scope x) (he : PE X e te) (hs : swapsWith e (some (.Name x pos')) pos.line X.env = pure false := by rfl) (hf : X.fn x = true ∨ X.env.scope.names.lookup x = some .local := by first | exact .inl rfl | exact .inr rfl | assumption) :
    PS X (.Assign [.Name x pos'] e pos) (tAsg te (gName i)) := by
  intro pins s σ H D I h
  refine wpAny_Assign_Name (thn (he pins s σ H _ I h) fun v s1 ⟨y, H1, I1, r1, q1⟩ => ?_) hs
  exact store_ok I1 hN hi hx r1 (fun s2 I2 => ⟨_, H1, I2, q1⟩) hf
/-- name op= e -/
def tAug (i : Nat) (te : TE) (ti : TIp) : TS := fun D σ H => ∃ x, σ[i]? = some (some x) ∧ te σ H fun y H1 => ti x y H1 fun z H2 => D.nx (σ.set i (some z)) H2
theorem ps_aug {i : Nat} {x : Str} {e : Expr} {te : TE} {op : Operator} {ti : TIp} {pos' : Pos} (hN : X.N.Nodup) (hi : X.N[i]? = some x) (hx : Loc X.env.scope x) (he : PE X e te) (ho : PIp X op ti) (hf : X.fn x = true ∨ X.env.scope.names.lookup x = some .local := by first | exact .inl rfl | exact .inr rfl | assumption) :
    PS X (.AugAssign (.Name x pos') op e pos) (tAug i te ti) := by
  intro pins s σ H D I h
  obtain ⟨v, e1, h⟩ := h
  obtain ⟨m, hn, hl⟩ := I.loc
  have vis : Vis X.env.scope x := by rcases hx with k | k; exact .inl k; exact .inr (.inl k)
  obtain ⟨u, r, l⟩ := hl i x v hi e1 vis
  refine wpAny_AugAssign_Name ?_
  have go : wpAny (model X.prog X.w) X.A (eval e X.env) (fun w s₂ => wpAny (model X.prog X.w) X.A (inplaceOp op u w) (fun r s₃ => wpAny (model X.prog X.w) X.A (storeName X.env x r) (fun _ => SP X pins D .next) X.xe s₃) X.xe s₂) X.xe s := by
    refine thn (he pins s σ H _ I h) fun w s1 ⟨y, H1, I1, r1, q1⟩ => ?_
    refine thn (ho pins s1 σ H1 v y u w _ I1 r r1 q1) fun z s2 ⟨zv, H2, I2, r2, q2⟩ => ?_
    exact store_ok I2 hN hi hx r2 (fun s3 I3 => ⟨_, H2, I3, q2⟩) hf
  rcases l with ⟨hk, hm⟩ | ⟨hk, c, hc, hcell⟩
  · exact wpAny_loadName_local I.ok.kind hk hn hm go
  · rcases hk with hk | hk
    · exact wpAny_loadName_cell I.ok.kind hk hc hcell go
    · rcases hx with k | k
      · have : X.env.scope.names.lookup x = some .free := hk
        rw [k] at this; cases this
      · have : X.env.scope.names.lookup x = some .free := hk
        rw [k] at this; cases this
end

/-! ### while -/
section
variable {X : Cx} {pos : Pos}
/-- the invariant W with its measure -/
def tWhile (c : TT) (tb : TS) : TS := fun D σ H => ∃ W : Nat → St → Hp → Prop, (∃ m, W m σ H) ∧ ∀ m σ H, W m σ H →
  c σ H fun b H1 => if b = true then ∃ N : St → Hp → Prop, (∀ σ' H', N σ' H' → ∃ m', m' < m ∧ W m' σ' H') ∧ tb { D with nx := N, ct := N, bk := D.nx } σ H1 else D.nx σ H1
theorem ps_while {c : Expr} {body : List Stmt} {tc : TT} {tb : TS} (hp : PassesOwn (model X.prog X.w) X.A X.env X.xe) (hc : PT X c tc) (hb : PSs X body tb) : PS X (.While c body [] pos) (tWhile tc tb) := by
  intro pins s σ H D I h
  obtain ⟨W, ⟨m0, w0⟩, turn⟩ := h
  refine wpAny_While (codeAny_whileLoop (fun n s' => ∃ σ' H', Inv X pins σ' H' s' ∧ W n σ' H') ?_ m0 ⟨σ, H, I, w0⟩)
  rintro n s1 ⟨σ1, H1, I1, w1⟩
  refine wpAny_passesOwn hp (thn (hc pins s1 σ1 H1 _ I1 (turn n σ1 H1 w1)) fun b s2 ⟨H2, I2, q2⟩ => ?_)
  cases b with
  | true =>
    obtain ⟨N, hN, q2⟩ := q2
    rw [if_pos rfl]
    refine wpAny_passesOwn hp (thn (hb pins s2 σ1 H2 _ I2 q2) fun f s3 q3 => ?_)
    cases f with
    | next =>
      obtain ⟨σ3, H3, I3, n3⟩ := q3
      obtain ⟨m', hm, w3⟩ := hN σ3 H3 n3
      exact ⟨m', hm, σ3, H3, I3, w3⟩
    | cont =>
      obtain ⟨σ3, H3, I3, n3⟩ := q3
      obtain ⟨m', hm, w3⟩ := hN σ3 H3 n3
      exact ⟨m', hm, σ3, H3, I3, w3⟩
    | brk => exact q3
    | ret v => exact q3
  | false =>
    rw [if_neg Bool.false_ne_true]
    exact wpAny_execs_nil ⟨σ1, H2, I2, q2⟩
end

/-! ### what a loop or a comprehension walks -/
/-- at turn i: it yields x (the heap may grow), or it stops -/
structure It where
  go : Nat → Hp → Prop
  yld : Nat → Hp → V → Hp → Prop
  stop : Nat → Hp → Prop
/-- the iterator's own objects may turn: they are not the frame's, not pinned, younger than the entry (or a comprehension's own) -/
def FpOk (X : Cx) (pins : List (Addr × Obj)) (H : Hp) (b : Addr) : Prop :=
  H b = none ∧ b ≠ X.env.locals ∧ b ∉ X.fs ∧ (b ∈ X.ex ∨ X.s₀.heap.objs.size ≤ b) ∧ (∀ x c, X.env.cells.lookup x = some c → c ≠ b) ∧ ∀ p ∈ X.pn ++ pins, p.1 ≠ b
theorem Inv.fpOk {X : Cx} {pins : List (Addr × Obj)} {σ : St} {H H' : Hp} {s : Shared} {b : Addr} (I : Inv X pins σ H s) (hb : s.heap.objs.size ≤ b) (hn : H' b = none) : FpOk X pins H' b := by
  refine ⟨hn, Nat.ne_of_gt (Nat.lt_of_lt_of_le I.lt hb), I.nofs hb, .inr (Nat.le_trans I.sz hb), fun x c e z => ?_, fun p hp z => ?_⟩
  · obtain ⟨v, q⟩ := I.cell x c e
    exact absurd (Nat.lt_of_lt_of_le q.lt (by rw [z]; exact hb)) (Nat.lt_irrefl _)
  · exact absurd (Nat.lt_of_lt_of_le (Heap.lt_size (I.pin p hp).1) (by rw [z]; exact hb)) (Nat.lt_irrefl _)
structure Turn (P : Program) (w : World) (K : PySem.W.Frag) (tg : Expr) (J : It) (fp : List Addr) (it : Addr) (tn : Nat → Heap → Prop) : Prop where
  mem : it ∈ fp
  obj : ∀ i h, tn i h → ∀ b ∈ fp, ∃ o, h.get? b = some o ∧ ∀ v, o.data ≠ .cell v
  keep : ∀ i h h', tn i h → (∀ b ∈ fp, ∀ o, h.get? b = some o → h'.get? b = some o) → tn i h'
  item : ∀ (X : Cx), X.prog = P → X.w = w → X.K = K → X.calm = true → ∀ (i : Nat) (pins : List (Addr × Obj)) (s : Shared) (σ : St) (H : Hp) (E : Value → Shared → Prop), Inv X pins σ H s → (∀ b ∈ fp, FpOk X pins H b) → tn i s.heap → J.go i H →
    wpAny (model P w) X.A (pyNext (.ref it)) (fun r s1 => ∃ u, r = some u ∧
      wpAny (model P w) X.A (letOwnedTupleGo tg (.ref it) u) (fun _ s2 => ∃ x H', Inv X pins σ H' s2 ∧ RelV x u ∧ J.yld i H x H' ∧ tn (i + 1) s2.heap ∧ ∀ b ∈ fp, H' b = none) E s1) E s
  done : ∀ (X : Cx), X.prog = P → X.w = w → X.K = K → X.calm = true → ∀ (i : Nat) (pins : List (Addr × Obj)) (s : Shared) (σ : St) (H : Hp) (E : Value → Shared → Prop), Inv X pins σ H s → (∀ b ∈ fp, FpOk X pins H b) → tn i s.heap → J.stop i H →
    wpAny (model P w) X.A (pyNext (.ref it)) (fun r s1 => r = none ∧ Inv X pins σ H s1) E s
  self : ∀ (A : Around) (i : Nat) (s : Shared) (Q : Value → Shared → Prop) (E : Value → Shared → Prop), tn i s.heap → Q (.ref it) s → wpAny (model P w) A (pyIter (.ref it)) Q E s
abbrev TI := St → Hp → (It → Hp → Prop) → Prop
/-- an iterator has come -/
def PIE (X : Cx) (pins : List (Addr × Obj)) (σ : St) (tg : Expr) (R : It → Hp → Prop) (itv : Value) (s2 : Shared) : Prop :=
  ∃ (it : Addr) (fp : List Addr) (tn : Nat → Heap → Prop) (J : It) (H' : Hp), itv = .ref it ∧ Inv X pins σ H' s2 ∧ Turn X.prog X.w X.K tg J fp it tn ∧ tn 0 s2.heap ∧ (∀ b ∈ fp, FpOk X pins H' b) ∧ R J H'
def PI (X : Cx) (tg iter : Expr) (wi : TI) : Prop :=
  ∀ (pins : List (Addr × Obj)) (s : Shared) (σ : St) (H : Hp) (R : It → Hp → Prop), Inv X pins σ H s → wi σ H R →
    wpAny (model X.prog X.w) X.A (eval iter X.env) (fun v s1 => wpAny (model X.prog X.w) X.A (pyIter v) (PIE X pins σ tg R) X.xe s1) X.xe s

/-- the step ahead of the store is nothing for an iterator that keeps no tuple -/
theorem go_of {M : Model} {A : Around} {E : Value → Shared → Prop} {s : Shared} {tg : Expr} {it : Addr} {u : Value} {o : Obj} {n : String} {vs : Array Value} {Q : Unit → Shared → Prop} (ho : s.heap.get? it = some o) (hc : o.cls = .type n) (hd : o.data = .fields vs)
    (hn : ["enumerate", "zip", "dict_itemiterator", "dict_reverseitemiterator", "odict_iterator", "itertools.zip_longest", "itertools.pairwise"].contains n = false) (hQ : Q () s) : wpAny M A (letOwnedTupleGo tg (.ref it) u) Q E s := by
  unfold letOwnedTupleGo
  cases tg <;> first
    | exact wpAny_pure hQ
    | (cases u <;> first
        | exact wpAny_pure hQ
        | (refine wpAny_bind (wpAny_load ho ?_)
           rw [hc, hd]
           show wpAny M A (if (["enumerate", "zip", "dict_itemiterator", "dict_reverseitemiterator", "odict_iterator", "itertools.zip_longest", "itertools.pairwise"].contains n && vs[0]? == some (rawInt _)) = true then _ else _) Q E s
           rw [if_neg (by intro h; rw [hn, Bool.false_and] at h; cases h)]
           exact wpAny_pure hQ))

/-- the list at a, as it stands at each turn (a loop may append to it) -/
def Itl (K : PySem.W.Frag) (a : Addr) : It :=
  ⟨fun i H => ∃ xs x, SqL K H a xs ∧ xs[i]? = some x, fun i H x H' => H' = H ∧ ∀ xs, SqL K H a xs → xs[i]? = some x, fun i H => ∃ xs, SqL K H a xs ∧ xs.length ≤ i⟩
/-- lo, lo + 1, .. (n of them) -/
def Itr (lo : Int) (n : Nat) : It := ⟨fun i _ => i < n, fun i H x H' => H' = H ∧ x = .int (lo + i), fun i _ => n ≤ i⟩
theorem turn_list {P : Program} {w : World} {K : PySem.W.Frag} {tg : Expr} (a it : Addr) : Turn P w K tg (Itl K a) [it] it (fun i h => h.IsListIter it a i) where
  mem := by simp
  obj := fun i h st b hb => by
    have e : b = it := by simpa using hb
    subst e
    obtain ⟨o, e, c, d⟩ := st
    exact ⟨o, e, fun v z => by rw [d] at z; cases z⟩
  keep := fun i h h' st k => st.at fun o e => k it (by simp) o e
  item := by
    intro X hP hw hK hc i pins s σ H E I hf st hg
    subst hP hw hK
    obtain ⟨xs, x, hq, hx⟩ := hg
    obtain ⟨its, rv, p, hz⟩ := I.list hq
    obtain ⟨u, hu, ru⟩ := rv.get hx
    obtain ⟨f0, f1, f2, f3, f4, f5⟩ := hf it (by simp)
    refine wpAny_pyNext_list_item st p.isList (x := u) (by simpa using hu) fun h' st' sb => ?_
    have I1 : Inv X pins σ H { s with heap := h' } := I.turned (t' := s.toks) (fun b o hb e => (sb.2 b hb).trans e) f0 f1 f3 f4 f5
    obtain ⟨o, e, c, d⟩ := id st'
    exact ⟨u, rfl, go_of (s := { s with heap := h' }) e c d (by decide) ⟨x, H, I1, ru, ⟨rfl, fun ys hy => by rw [I.list_inj hy hq]; exact hx⟩, st', fun b hb => (hf b hb).1⟩⟩
  done := by
    intro X hP hw hK hc i pins s σ H E I hf st hg
    subst hP hw hK
    obtain ⟨xs, hq, hx⟩ := hg
    obtain ⟨its, rv, p, hz⟩ := I.list hq
    obtain ⟨f0, f1, f2, f3, f4, f5⟩ := hf it (by simp)
    have hl := rv.length
    exact wpAny_pyNext_list_end (I.ok.hd hc) st p.isList (by simp; omega) fun h' eb => ⟨rfl, I.turned (t' := s.toks) (fun b o hb e => eb b o hb e) f0 f1 f3 f4 f5⟩
  self := fun _ _ _ _ _ st h => wpAny_pyIter_listiter st h
theorem turn_range {P : Program} {w : World} {K : PySem.W.Frag} {tg : Expr} (it : Addr) (lo : Int) (n : Nat) : Turn P w K tg (Itr lo n) [it] it (fun i h => IsRangeIter h it (lo + (i : Nat) * 1) ((n : Int) - (i : Nat)) 1) where
  mem := by simp
  obj := fun i h st b hb => by
    have e : b = it := by simpa using hb
    subst e
    exact ⟨_, st, fun v z => by
      have z' : Data.fields _ = Data.cell v := z
      cases z'⟩
  keep := fun i h h' st k => k it (by simp) _ st
  item := by
    intro X hP hw hK hc i pins s σ H E I hf st hg
    subst hP hw hK
    obtain ⟨f0, f1, f2, f3, f4, f5⟩ := hf it (by simp)
    have W := Walks.range (prog := X.prog) (w := X.w) (I.ok.hd hc) it lo 1 n
    refine W.item i s _ _ hg st fun v h' tk hv st' kk => ?_
    obtain ⟨t, rfl⟩ := hv
    have I1 : Inv X pins σ H { s with heap := h', toks := tk } := I.turned (fun b o hb e => kk b o (by simpa using hb) e) f0 f1 f3 f4 f5
    refine ⟨_, rfl, go_of (s := { s with heap := h', toks := tk }) (n := "range_iterator") st' rfl rfl (by decide) ⟨.int (lo + i), H, I1, ⟨t, ?_⟩, ⟨rfl, rfl⟩, st', fun b hb => (hf b hb).1⟩⟩
    rw [Int.mul_one]
  done := by
    intro X hP hw hK hc i pins s σ H E I hf st hg
    subst hP hw hK
    obtain ⟨f0, f1, f2, f3, f4, f5⟩ := hf it (by simp)
    exact wpAny_pyNext_range_end (I.ok.hd hc) st (by have : n ≤ i := hg; omega) fun h' eb => ⟨rfl, I.turned (t' := s.toks) (fun b o hb e => eb b o hb e) f0 f1 f3 f4 f5⟩
  self := fun _ _ _ _ _ st h => wpAny_pyIter_rangeiter st h
end L2

namespace L2
open PySem PySem.Spec PyProof.Rows
section
variable {X : Cx} {tg : Expr}
def iList (K : PySem.W.Frag) (tl : TE) : TI := fun σ H R => tl σ H fun x H1 => ∃ a, x = .ref a ∧ (∃ xs, SqL K H1 a xs) ∧ R (Itl K a) H1
theorem pi_list {l : Expr} {tl : TE} (hl : PE X l tl) : PI X tg l (iList X.K tl) := by
  intro pins s σ H R I h
  refine thn (hl pins s σ H _ I h) fun v s1 ⟨x, H1, I1, r1, q1⟩ => ?_
  obtain ⟨a, e, ⟨xs, hq⟩, q⟩ := q1
  subst e
  cases r1
  obtain ⟨its, rv, p, hz⟩ := I1.list hq
  refine wpAny_pyIter_list p.isList ?_
  refine ⟨s1.heap.objs.size, [s1.heap.objs.size], _, _, H1, rfl, I1.kept (t' := s1.toks) fun b o e => Heap.get?_push_of_some _ e, turn_list a _, ⟨_, Heap.get?_push_size _ rfl, rfl, rfl⟩, fun b hb => ?_, q⟩
  have e : b = s1.heap.objs.size := by simpa using hb
  subst e
  exact I1.fpOk (Nat.le_refl _) (I1.hok.fresh (Nat.le_refl _))
/-- a range object just made, walked -/
theorem range_it {pins : List (Addr × Obj)} {σ : St} {H : Hp} {s : Shared} {R : It → Hp → Prop} {E : Value → Shared → Prop} {lo hi : Int} {t u v : Tok} {tk : Nat} (I : Inv X pins σ H s) (h1 : -(2 ^ 62) ≤ lo) (h2 : lo < 2 ^ 62) (h3 : -(2 ^ 62) ≤ hi) (h4 : hi < 2 ^ 62)
    (q : R (Itr lo (hi - lo).toNat) H) : wpAny (model X.prog X.w) X.A (pyIter (.ref s.heap.objs.size)) (PIE X pins σ tg R) E { s with heap := s.heap.push { cls := .type "range", data := .fields #[.int lo t, .int hi u, .int 1 v] }, toks := tk } := by
  refine wpAny_pyIter_range (IsRange.new ..) (small_one h1 h2 h3 h4) ?_
  have I1 : Inv X pins σ H { s with heap := s.heap.push { cls := .type "range", data := .fields #[.int lo t, .int hi u, .int 1 v] }, toks := tk } := I.kept fun b o e => Heap.get?_push_of_some _ e
  refine ⟨(s.heap.push { cls := .type "range", data := .fields #[.int lo t, .int hi u, .int 1 v] }).objs.size, [(s.heap.push { cls := .type "range", data := .fields #[.int lo t, .int hi u, .int 1 v] }).objs.size], _, _, H, rfl,
    I1.kept (t' := tk) fun b o e => Heap.get?_push_of_some _ e, turn_range _ lo (hi - lo).toNat, ?_, fun b hb => ?_, q⟩
  · have e1 : lo + ((0 : Nat) : Int) * 1 = lo := by simp
    have e2 : (((hi - lo).toNat : Nat) : Int) - ((0 : Nat) : Int) = Builtin.Range.rangeSize lo hi 1 := by rw [rangeSize_one]; split <;> omega
    show IsRangeIter _ _ (lo + ((0 : Nat) : Int) * 1) ((((hi - lo).toNat : Nat) : Int) - ((0 : Nat) : Int)) 1
    rw [e1, e2]
    exact Heap.get?_push_size _ rfl
  · have e : b = (s.heap.push { cls := .type "range", data := .fields #[.int lo t, .int hi u, .int 1 v] }).objs.size := by simpa using hb
    subst e
    exact I1.fpOk (Nat.le_refl _) (I1.hok.fresh (Nat.le_refl _))
def iRng1 (ta : TA) : TI := fun σ H R => ta σ H fun vs H1 => ∃ j : Int, vs = [.int j] ∧ -(2 ^ 62) ≤ j ∧ j < 2 ^ 62 ∧ R (Itr 0 j.toNat) H1
theorem pi_range1 {a : Expr} {ta : TA} {p pos : Pos} (hg : Gl X "range") (hm : X.mg "range" = none) (ha : PA X [a] ta) (hs : starEach [a] X.env = [(false, eval a X.env)] := by rfl) : PI X tg (.Call (.Name "range" p) [a] [] pos) (iRng1 ta) := by
  intro pins s σ H R I h
  refine Call_ (ld_blt I hg hm boot_range (PyProof.Rows.callWith_type1 (thn (ha pos pins s σ H _ I h) fun us s1 ⟨vs, H1, I1, r1, q1⟩ => ?_) hs rfl))
  obtain ⟨j, e, q1, q2, q⟩ := q1
  subst e
  cases r1 with
  | cons r rr =>
    cases rr
    obtain ⟨t, rfl⟩ := r
    exact call_range_1 (range_it I1 (by omega) (by omega) q1 q2 (by simpa using q))
/-! ### for -/
/-- W: the invariant by the turn and a measure; N: what the body is to reach -/
def tFor (wi : TI) (g : TG) (tb : TS) : TS := fun D σ H => wi σ H fun J H1 => ∃ W : Nat → Nat → St → Hp → Prop, (∃ m, W 0 m σ H1) ∧ ∀ i m σ H, W i m σ H →
  (J.stop i H ∧ D.nx σ H) ∨ (J.go i H ∧ ∃ N : St → Hp → Prop, (∀ σ' H', N σ' H' → ∃ m', m' < m ∧ W (i + 1) m' σ' H') ∧ ∀ x H', J.yld i H x H' → g x σ H' fun σ2 H2 => tb { D with nx := N, ct := N, bk := D.nx } σ2 H2)
/-- the records at fp as they stand -/
def pinsAt (fp : List Addr) (h : Heap) : List (Addr × Obj) := fp.filterMap fun b => (h.get? b).map fun o => (b, o)
theorem mem_pinsAt {fp : List Addr} {h : Heap} {b : Addr} {o : Obj} (hb : b ∈ fp) (e : h.get? b = some o) : (b, o) ∈ pinsAt fp h := List.mem_filterMap.mpr ⟨b, hb, by rw [e]; rfl⟩
theorem of_pinsAt {fp : List Addr} {h : Heap} {p : Addr × Obj} (hp : p ∈ pinsAt fp h) : p.1 ∈ fp ∧ h.get? p.1 = some p.2 := by
  obtain ⟨b, hb, e⟩ := List.mem_filterMap.mp hp
  cases q : h.get? b with
  | none => rw [q] at e; cases e
  | some o =>
    rw [q] at e
    have e' : (b, o) = p := Option.some.inj e
    subst e'
    exact ⟨hb, q⟩
theorem Inv.pinned {pins : List (Addr × Obj)} {σ : St} {H : Hp} {s : Shared} {fp : List Addr} (I : Inv X pins σ H s) (hf : ∀ b ∈ fp, FpOk X pins H b) (ho : ∀ b ∈ fp, ∃ o, s.heap.get? b = some o ∧ ∀ v, o.data ≠ .cell v) : Inv X (pins ++ pinsAt fp s.heap) σ H s :=
  I.pins_of fun p hp => (List.mem_append.mp hp).elim (fun z => I.pin p (List.mem_append_right _ z)) fun z => by
    obtain ⟨hb, e⟩ := of_pinsAt z
    obtain ⟨f0, f1, f2, _⟩ := hf p.1 hb
    obtain ⟨o, e', d⟩ := ho p.1 hb
    rw [e] at e'; cases e'
    exact ⟨e, f0, f1, f2, d⟩
theorem Inv.unpinned {pins pl : List (Addr × Obj)} {σ : St} {H : Hp} {s : Shared} (I : Inv X (pins ++ pl) σ H s) : Inv X pins σ H s := I.pins_of fun p hp => I.pin p (List.mem_append_right _ (List.mem_append_left _ hp))
theorem ps_for {iter : Expr} {body : List Stmt} {wi : TI} {g : TG} {tb : TS} {pos : Pos} (hp : PassesOwn (model X.prog X.w) X.A X.env X.xe) (hc : X.calm = true) (hi : PI X tg iter wi) (hg : PG X tg g) (hb : PSs X body tb)
    (hs : ∀ x, foldedSetIterable iter X.env x = pure x := by intro _; rfl) : PS X (.For tg iter body [] pos) (tFor wi g tb) := by
  intro pins s σ H D I h
  refine wpAny_For (thn (hi pins s σ H _ I h) fun v s1 h1 => thn h1 fun itv s2 h2 => ?_) hs
  obtain ⟨it, fp, tn, J, H2, e, I2, T, st2, f2, W, ⟨m0, w0⟩, turn⟩ := h2
  subst e
  -- what stays true of the iterator's objects through the loop
  have stat : ∀ {H' : Hp}, (∀ b ∈ fp, H' b = none) → ∀ b ∈ fp, FpOk X pins H' b := fun hn b hb => ⟨hn b hb, (f2 b hb).2⟩
  refine codeAny_forLoop_any (fun n s' => ∃ i σ' H', Inv X pins σ' H' s' ∧ tn i s'.heap ∧ (∀ b ∈ fp, H' b = none) ∧ W i n σ' H') ?_ m0 ⟨0, σ, H2, I2, st2, fun b hb => (f2 b hb).1, w0⟩
  rintro n s3 ⟨i, σ3, H3, I3, st3, fr3, w3⟩
  rcases turn i n σ3 H3 w3 with ⟨stop, qn⟩ | ⟨go, N, hN, step⟩
  · refine wpAny_passesOwn hp (thn (T.done X rfl rfl rfl hc i pins s3 σ3 H3 X.xe I3 (stat fr3) st3 stop) fun r s4 ⟨hr, I4⟩ => ?_)
    subst hr
    exact wpAny_execs_nil ⟨σ3, H3, I4, qn⟩
  · refine wpAny_passesOwn hp (thn (T.item X rfl rfl rfl hc i pins s3 σ3 H3 X.xe I3 (stat fr3) st3 go) fun r s4 ⟨u, hr, h4⟩ => ?_)
    subst hr
    refine wpAny_passesOwn hp (thn h4 fun _ s5 ⟨x, H5, I5, r5, y5, st5, fr5⟩ => ?_)
    have I5' := I5.pinned (stat fr5) (T.obj _ _ st5)
    refine wpAny_passesOwn hp (thn (hg _ s5 σ3 H5 x u _ I5' r5 (step x H5 y5)) fun _ s6 ⟨σ6, H6, I6, q6⟩ => ?_)
    refine wpAny_passesOwn hp (thn (hb _ s6 σ6 H6 _ I6 q6) fun f s7 q7 => ?_)
    have again : ∀ {σ7 : St} {H7 : Hp}, Inv X (pins ++ pinsAt fp s5.heap) σ7 H7 s7 → N σ7 H7 → ∃ m, m < n ∧ ∃ i σ' H', Inv X pins σ' H' s7 ∧ tn i s7.heap ∧ (∀ b ∈ fp, H' b = none) ∧ W i m σ' H' := fun {σ7 H7} I7 n7 => by
      obtain ⟨m', hm, w7⟩ := hN σ7 H7 n7
      refine ⟨m', hm, i + 1, σ7, H7, I7.unpinned, T.keep _ _ _ st5 fun b hb o e => (I7.pin (b, o) (List.mem_append_right _ (List.mem_append_right _ (mem_pinsAt hb e)))).1, fun b hb => ?_, w7⟩
      obtain ⟨o, e, d⟩ := T.obj _ _ st5 b hb
      exact (I7.pin (b, o) (List.mem_append_right _ (List.mem_append_right _ (mem_pinsAt hb e)))).2.1
    cases f with
    | next => obtain ⟨σ7, H7, I7, n7⟩ := q7; exact again I7 n7
    | cont => obtain ⟨σ7, H7, I7, n7⟩ := q7; exact again I7 n7
    | brk => obtain ⟨σ7, H7, I7, q7⟩ := q7; exact ⟨σ7, H7, I7.unpinned, q7⟩
    | ret v => obtain ⟨x7, σ7, H7, I7, r7, q7⟩ := q7; exact ⟨x7, σ7, H7, I7.unpinned, r7, q7⟩
end

/-! ### the forms one uses -/
/-- over a list that the body leaves as it is -/
theorem for_list {K : PySem.W.Frag} {a : Addr} {xs : List V} {g : TG} {tb : TS} {D : Ends} {σ : St} {H : Hp} (Pv : Nat → St → Hp → Prop) (h0 : Pv 0 σ H) (hl : ∀ i σ H, i ≤ xs.length → Pv i σ H → SqL K H a xs)
    (hs : ∀ i x σ H, xs[i]? = some x → Pv i σ H → g x σ H fun σ2 H2 => tb { D with nx := Pv (i + 1), ct := Pv (i + 1), bk := D.nx } σ2 H2) (hd : ∀ σ H, Pv xs.length σ H → D.nx σ H) :
    ∃ W : Nat → Nat → St → Hp → Prop, (∃ m, W 0 m σ H) ∧ ∀ i m σ H, W i m σ H →
      ((Itl K a).stop i H ∧ D.nx σ H) ∨ ((Itl K a).go i H ∧ ∃ N : St → Hp → Prop, (∀ σ' H', N σ' H' → ∃ m', m' < m ∧ W (i + 1) m' σ' H') ∧ ∀ x H', (Itl K a).yld i H x H' → g x σ H' fun σ2 H2 => tb { D with nx := N, ct := N, bk := D.nx } σ2 H2) := by
  refine ⟨fun i m σ H => m = xs.length - i ∧ i ≤ xs.length ∧ Pv i σ H, ⟨xs.length, by simp, Nat.zero_le _, h0⟩, ?_⟩
  rintro i m σ H ⟨rfl, hi, p⟩
  have q := hl i σ H hi p
  by_cases hlt : i < xs.length
  · refine .inr ⟨⟨xs, xs[i], q, by simp [hlt]⟩, Pv (i + 1), fun σ' H' p' => ⟨xs.length - (i + 1), by omega, rfl, hlt, p'⟩, fun x H' y => ?_⟩
    obtain ⟨e, y⟩ := y
    subst e
    exact hs i x σ _ (y xs q) p
  · have e : i = xs.length := by omega
    subst e
    exact .inl ⟨⟨xs, q, Nat.le_refl _⟩, hd σ H p⟩
theorem for_range {lo : Int} {n : Nat} {g : TG} {tb : TS} {D : Ends} {σ : St} {H : Hp} (Pv : Nat → St → Hp → Prop) (h0 : Pv 0 σ H)
    (hs : ∀ i σ H, i < n → Pv i σ H → g (.int (lo + i)) σ H fun σ2 H2 => tb { D with nx := Pv (i + 1), ct := Pv (i + 1), bk := D.nx } σ2 H2) (hd : ∀ σ H, Pv n σ H → D.nx σ H) :
    ∃ W : Nat → Nat → St → Hp → Prop, (∃ m, W 0 m σ H) ∧ ∀ i m σ H, W i m σ H →
      ((Itr lo n).stop i H ∧ D.nx σ H) ∨ ((Itr lo n).go i H ∧ ∃ N : St → Hp → Prop, (∀ σ' H', N σ' H' → ∃ m', m' < m ∧ W (i + 1) m' σ' H') ∧ ∀ x H', (Itr lo n).yld i H x H' → g x σ H' fun σ2 H2 => tb { D with nx := N, ct := N, bk := D.nx } σ2 H2) := by
  refine ⟨fun i m σ H => m = n - i ∧ i ≤ n ∧ Pv i σ H, ⟨n, by simp, Nat.zero_le _, h0⟩, ?_⟩
  rintro i m σ H ⟨rfl, hi, p⟩
  by_cases hlt : i < n
  · refine .inr ⟨hlt, Pv (i + 1), fun σ' H' p' => ⟨n - (i + 1), by omega, rfl, hlt, p'⟩, fun x H' y => ?_⟩
    obtain ⟨e, y⟩ := y
    subst e y
    exact hs i σ _ hlt p
  · have e : i = n := by omega
    subst e
    exact .inl ⟨Nat.le_refl _, hd σ H p⟩
/-- while, by a word and a measure of the state -/
theorem while_by {c : TT} {tb : TS} {D : Ends} {σ : St} {H : Hp} (Pv : St → Hp → Prop) (μ : St → Hp → Nat) (h0 : Pv σ H)
    (hs : ∀ σ H, Pv σ H → c σ H fun b H1 => if b = true then tb { D with nx := fun σ' H' => Pv σ' H' ∧ μ σ' H' < μ σ H, ct := fun σ' H' => Pv σ' H' ∧ μ σ' H' < μ σ H, bk := D.nx } σ H1 else D.nx σ H1)
    (mono : ∀ σ H Q Q', (∀ b H1, Q b H1 → Q' b H1) → c σ H Q → c σ H Q') : tWhile c tb D σ H := by
  refine ⟨fun m σ H => m = μ σ H ∧ Pv σ H, ⟨_, rfl, h0⟩, ?_⟩
  rintro m σ H ⟨rfl, p⟩
  refine mono σ H _ _ (fun b H1 q => ?_) (hs σ H p)
  cases b with
  | true => exact ⟨_, fun σ' H' ⟨p', l⟩ => ⟨_, l, rfl, p'⟩, q⟩
  | false => exact q
end L2

namespace L2
open PySem PySem.Spec PyProof.Rows

abbrev R2 := V → V → Hp → VK → Prop
/-- a two-place operation on values: f is binaryOp op, inplaceOp op or compareOp op -/
def OpR (X : Cx) (f : Value → Value → Sem Value) (r : R2) : Prop :=
  ∀ (pins : List (Addr × Obj)) (s : Shared) (σ : St) (H : Hp) (x y : V) (v u : Value) (Q : VK), Inv X pins σ H s → RelV x v → RelV y u → r x y H Q →
    wpAny (model X.prog X.w) X.A (f v u) (EP X pins σ Q) X.xe s
/-- a one-place operation -/
def UnR (X : Cx) (f : Value → Sem Value) (r : V → Hp → VK → Prop) : Prop :=
  ∀ (pins : List (Addr × Obj)) (s : Shared) (σ : St) (H : Hp) (x : V) (v : Value) (Q : VK), Inv X pins σ H s → RelV x v → r x H Q →
    wpAny (model X.prog X.w) X.A (f v) (EP X pins σ Q) X.xe s
/-- a call of a value that is known (a builtin, a type) with values -/
def CallR (X : Cx) (f : Value) (r : List V → Hp → VK → Prop) : Prop :=
  ∀ (pins : List (Addr × Obj)) (s : Shared) (σ : St) (H : Hp) (xs : List V) (us : List Value) (Q : VK), Inv X pins σ H s → Vals xs us → r xs H Q →
    wpAny (model X.prog X.w) X.A (call f us) (EP X pins σ Q) X.xe s
/-- a value's truth -/
def TruR (X : Cx) (r : V → Hp → (Bool → Hp → Prop) → Prop) : Prop :=
  ∀ (pins : List (Addr × Obj)) (s : Shared) (σ : St) (H : Hp) (x : V) (v : Value) (Q : Bool → Hp → Prop), Inv X pins σ H s → RelV x v → r x H Q →
    wpAny (model X.prog X.w) X.A (truthy v) (TP X pins σ Q) X.xe s

def tOp (r : R2) (ta tb : TE) : TE := fun σ H Q => ta σ H fun x H1 => tb σ H1 fun y H2 => r x y H2 Q
def tUn (r : V → Hp → VK → Prop) (ta : TE) : TE := fun σ H Q => ta σ H fun x H1 => r x H1 Q
/-- ints in, under C, and a value out -/
def rI (C : Int → Int → Prop) (g : Int → Int → V) : R2 := fun x y H Q => ∃ i j, x = .int i ∧ y = .int j ∧ C i j ∧ Q (g i j) H
def rI0 (g : Int → Int → V) : R2 := fun x y H Q => ∃ i j, x = .int i ∧ y = .int j ∧ Q (g i j) H
def rU (g : Int → V) : V → Hp → VK → Prop := fun x H Q => ∃ i, x = .int i ∧ Q (g i) H

section
variable {X : Cx} {a b c : Expr} {ta tb tc : TE} {pos : Pos}

theorem binT (ha : PE X a ta) (hb : PE X b tb) {pins : List (Addr × Obj)} {s : Shared} {σ : St} {H : Hp} {R : V → V → Hp → Prop} (I : Inv X pins σ H s)
    (h : ta σ H fun x H1 => tb σ H1 fun y H2 => R x y H2) {Q : Value → Shared → Prop} {f : Value → Value → Sem Value}
    (hf : ∀ v u s2 x y H2, Inv X pins σ H2 s2 → RelV x v → RelV y u → R x y H2 → wpAny (model X.prog X.w) X.A (f v u) Q X.xe s2) :
    wpAny (model X.prog X.w) X.A (eval a X.env) (fun v s₁ => wpAny (model X.prog X.w) X.A (eval b X.env) (fun u s₂ => wpAny (model X.prog X.w) X.A (f v u) Q X.xe s₂) X.xe s₁) X.xe s := by
  refine thn (ha pins s σ H _ I h) fun v s1 ⟨x, H1, I1, r1, q1⟩ => ?_
  refine thn (hb pins s1 σ H1 _ I1 q1) fun u s2 ⟨y, H2, I2, r2, q2⟩ => ?_
  exact hf v u s2 x y H2 I2 r1 r2 q2

theorem pe_op {op : Operator} {r : R2} (ho : OpR X (binaryOp op) r) (ha : PE X a ta) (hb : PE X b tb) : PE X (.BinOp a op b pos) (tOp r ta tb) := by
  intro pins s σ H Q I h
  exact wpAny_BinOp (binT ha hb I h fun v u s2 x y H2 I2 rx ry q => ho pins s2 σ H2 x y v u Q I2 rx ry q)
theorem pe_un {op : UnaryOp} {r : V → Hp → VK → Prop} (ho : UnR X (unaryOp op) r) (ha : PE X a ta) : PE X (.UnaryOp op a pos) (tUn r ta) := by
  intro pins s σ H Q I h
  exact UnaryOp_ (thn (ha pins s σ H _ I h) fun v s1 ⟨x, H1, I1, r1, q1⟩ => ho pins s1 σ H1 x v Q I1 r1 q1)
/-! ### ints -/
theorem opI {f : Value → Value → Sem Value} {C : Int → Int → Prop} {g : Int → Int → Int}
    (rule : ∀ (i j : Int) (t u : Tok) (s : Shared) (Q : Value → Shared → Prop) (E : Value → Shared → Prop), C i j → Q (.int (g i j) s.toks) { s with toks := s.toks + 1 } → wpAny (model X.prog X.w) X.A (f (.int i t) (.int j u)) Q E s) :
    OpR X f (rI C fun i j => .int (g i j)) := by
  intro pins s σ H x y v u Q I rx ry h
  obtain ⟨i, j, rfl, rfl, hc, q⟩ := h
  obtain ⟨t, rfl⟩ := rx
  obtain ⟨t', rfl⟩ := ry
  exact rule i j t t' s _ _ hc ⟨.int (g i j), H, I.tok _, ⟨_, rfl⟩, q⟩
theorem opI0 {f : Value → Value → Sem Value} {g : Int → Int → Int}
    (rule : ∀ (i j : Int) (t u : Tok) (s : Shared) (Q : Value → Shared → Prop) (E : Value → Shared → Prop), Q (.int (g i j) s.toks) { s with toks := s.toks + 1 } → wpAny (model X.prog X.w) X.A (f (.int i t) (.int j u)) Q E s) :
    OpR X f (rI0 fun i j => .int (g i j)) := by
  intro pins s σ H x y v u Q I rx ry h
  obtain ⟨i, j, rfl, rfl, q⟩ := h
  obtain ⟨t, rfl⟩ := rx
  obtain ⟨t', rfl⟩ := ry
  exact rule i j t t' s _ _ ⟨.int (g i j), H, I.tok _, ⟨_, rfl⟩, q⟩
theorem opB0 {f : Value → Value → Sem Value} {g : Int → Int → Bool}
    (rule : ∀ (i j : Int) (t u : Tok) (s : Shared) (Q : Value → Shared → Prop) (E : Value → Shared → Prop), Q (.bool (g i j)) s → wpAny (model X.prog X.w) X.A (f (.int i t) (.int j u)) Q E s) :
    OpR X f (rI0 fun i j => .bl (g i j)) := by
  intro pins s σ H x y v u Q I rx ry h
  obtain ⟨i, j, rfl, rfl, q⟩ := h
  obtain ⟨t, rfl⟩ := rx
  obtain ⟨t', rfl⟩ := ry
  exact rule i j t t' s _ _ ⟨.bl (g i j), H, I, rfl, q⟩

def CDiv (i j : Int) : Prop := 0 < j ∧ j < 1073741824
def CMul (i j : Int) : Prop := (-(2 ^ 64) < i ∧ i < 2 ^ 64) ∨ (-(2 ^ 64) < j ∧ j < 2 ^ 64)
theorem CMul.ok {i j : Int} (h : CMul i j) : IntMulOk i j := by
  rcases h with ⟨h1, h2⟩ | ⟨h1, h2⟩
  · exact .of_left (intBits_le_64 h1 h2)
  · exact .of_right (intBits_le_64 h1 h2)
theorem two_pow_nn (k : Nat) : (0 : Int) ≤ 2 ^ k := by
  rw [two_pow_cast]
  exact Int.natCast_nonneg _

theorem op_add : OpR X (binaryOp .Add) (rI0 fun i j => .int (i + j)) := opI0 fun _ _ _ _ _ _ _ q => add_int q
theorem op_sub : OpR X (binaryOp .Sub) (rI0 fun i j => .int (i - j)) := opI0 fun _ _ _ _ _ _ _ q => sub_int q
theorem op_mul : OpR X (binaryOp .Mult) (rI CMul fun i j => .int (i * j)) := opI fun _ _ _ _ _ _ _ hc q => mul_int q hc.ok
/-- // by a positive divisor -/
theorem op_fdiv : OpR X (binaryOp .FloorDiv) (rI CDiv fun i j => .int (i / j)) := opI fun i j _ _ _ _ _ hc q => by
  have h1 : (0 : Int) < j := hc.1
  have h2 : j < 1073741824 := hc.2
  exact floordiv_int (by omega) (by rw [Int.fdiv_eq_ediv_of_nonneg i (by omega)]; exact q) (.inl (PyProof.noPylong_small (by omega)))
/-- % by a positive divisor of any size -/
theorem op_mod : OpR X (binaryOp .Mod) (rI (fun _ j => 0 < j) fun i j => .int (i % j)) := opI fun i j _ _ _ _ _ hc q => by
  have h1 : (0 : Int) < j := hc
  exact mod_int' (by omega) (by rw [Int.fmod_eq_emod_of_nonneg i (by omega)]; exact q)
theorem op_shr : OpR X (binaryOp .RShift) (rI (fun _ j => 0 ≤ j) fun i j => .int (i / 2 ^ j.toNat)) := opI fun i j _ _ _ _ _ hc q =>
  rshift_int hc (by rw [Int.fdiv_eq_ediv_of_nonneg i (two_pow_nn _)]; exact q)
theorem op_and : OpR X (binaryOp .BitAnd) (rI0 fun i j => .int (Builtin.bitAnd i j)) := opI0 fun _ _ _ _ _ _ _ q => and_int q
theorem unI {f : Value → Sem Value} {g : Int → Int}
    (rule : ∀ (i : Int) (t : Tok) (s : Shared) (Q : Value → Shared → Prop) (E : Value → Shared → Prop), Q (.int (g i) s.toks) { s with toks := s.toks + 1 } → wpAny (model X.prog X.w) X.A (f (.int i t)) Q E s) :
    UnR X f (rU fun i => .int (g i)) := by
  intro pins s σ H x v Q I rx h
  obtain ⟨i, rfl, q⟩ := h
  obtain ⟨t, rfl⟩ := rx
  exact rule i t s _ _ ⟨.int (g i), H, I.tok _, ⟨_, rfl⟩, q⟩
theorem un_neg : UnR X (unaryOp .USub) (rU fun i => .int (-i)) := unI fun _ _ _ _ _ q => neg_int q
/-! ### bools among ints: n += (a < b) -/
end

/-! ### comparisons -/
/-- the scalars that == tells apart as data does -/
def scal : V → V → Bool
  | .non, .non => true | .non, .int _ => true | .int _, .non => true | .non, .bl _ => true | .bl _, .non => true | .non, .str _ => true | .str _, .non => true
  | .int _, .int _ => true | .bl _, .bl _ => true | .str _, .str _ => true | .byt _, .byt _ => true
  | .int _, .str _ => true | .str _, .int _ => true | .bl _, .str _ => true | .str _, .bl _ => true
  | _, _ => false
def rEq : R2 := fun x y H Q => scal x y = true ∧ Q (.bl (decide (x = y))) H
def rNe : R2 := fun x y H Q => scal x y = true ∧ Q (.bl (!decide (x = y))) H

theorem dec_int {i j : Int} : decide (V.int i = V.int j) = (i == j) := by
  rw [Bool.eq_iff_iff]
  simp
theorem dec_bl {i j : Bool} : decide (V.bl i = V.bl j) = (i == j) := by
  rw [Bool.eq_iff_iff]
  simp
theorem dec_str {i j : Str} : decide (V.str i = V.str j) = (i == j) := by
  rw [Bool.eq_iff_iff]
  simp
theorem dec_byt {i j : Array UInt8} : decide (V.byt i = V.byt j) = (i.toList == j.toList) := by
  rw [Bool.eq_iff_iff]
  cases i
  cases j
  simp

section
variable {X : Cx} {a b c : Expr} {ta tb tc : TE} {pos : Pos}
theorem fin_bl {pins : List (Addr × Obj)} {σ : St} {H : Hp} {s : Shared} {Q : VK} {k k' : Bool} (I : Inv X pins σ H s) (q : Q (.bl k) H) (e : k = k') : EP X pins σ Q (.bool k') s := by
  subst e
  exact ⟨.bl k, H, I, rfl, q⟩
theorem op_eq : OpR X (compareOp .Eq) rEq := by
  intro pins s σ H x y v u Q I rx ry h
  obtain ⟨hs, q⟩ := h
  cases x with
  | non =>
    cases rx
    cases y with
    | non => cases ry; exact PySem.EqNone.eq_none_none (fin_bl I q (by simp))
    | bl j => cases ry; exact PySem.EqNone.eq_none_bool (fin_bl I q (by simp))
    | int j => obtain ⟨t', rfl⟩ := ry; exact PySem.EqNone.eq_none_int (fin_bl I q (by simp))
    | str j => obtain ⟨t', rfl⟩ := ry; exact PySem.EqNone.eq_none_str (fin_bl I q (by simp))
    | _ => exact absurd (show false = true from hs) Bool.false_ne_true
  | bl i =>
    cases rx
    cases y with
    | non => cases ry; exact PySem.EqNone.eq_bool_none (fin_bl I q (by simp))
    | bl j => cases ry; exact eq_bool (fin_bl I q dec_bl)
    | str j => obtain ⟨t', rfl⟩ := ry; exact PySem.EqMixed.eq_bool_str (fin_bl I q (by simp))
    | _ => exact absurd (show false = true from hs) Bool.false_ne_true
  | int i =>
    obtain ⟨t, rfl⟩ := rx
    cases y with
    | non => cases ry; exact PySem.EqNone.eq_int_none (fin_bl I q (by simp))
    | int j => obtain ⟨t', rfl⟩ := ry; exact eq_int (fin_bl I q dec_int)
    | str j => obtain ⟨t', rfl⟩ := ry; exact PySem.EqMixed.eq_int_str (fin_bl I q (by simp))
    | _ => exact absurd (show false = true from hs) Bool.false_ne_true
  | str i =>
    obtain ⟨t, rfl⟩ := rx
    cases y with
    | non => cases ry; exact PySem.EqNone.eq_str_none (fin_bl I q (by simp))
    | bl j => cases ry; exact PySem.EqMixed.eq_str_bool (fin_bl I q (by simp))
    | int j => obtain ⟨t', rfl⟩ := ry; exact PySem.EqMixed.eq_str_int (fin_bl I q (by simp))
    | str j => obtain ⟨t', rfl⟩ := ry; exact eq_str (fin_bl I q dec_str)
    | _ => exact absurd (show false = true from hs) Bool.false_ne_true
  | byt i =>
    obtain ⟨t, rfl⟩ := rx
    cases y with
    | byt j => obtain ⟨t', rfl⟩ := ry; exact PySem.W.eq_bytes (fin_bl I q dec_byt)
    | _ => exact absurd (show false = true from hs) Bool.false_ne_true
  | _ => cases y <;> exact absurd (show false = true from hs) Bool.false_ne_true
theorem op_ne : OpR X (compareOp .NotEq) rNe := by
  intro pins s σ H x y v u Q I rx ry h
  obtain ⟨hs, q⟩ := h
  cases x with
  | non =>
    cases rx
    cases y with
    | non => cases ry; exact PySem.EqNone.ne_none_none (fin_bl I q (by simp))
    | bl j => cases ry; exact PySem.EqNone.ne_none_bool (fin_bl I q (by simp))
    | int j => obtain ⟨t', rfl⟩ := ry; exact PySem.EqNone.ne_none_int (fin_bl I q (by simp))
    | str j => obtain ⟨t', rfl⟩ := ry; exact PySem.EqNone.ne_none_str (fin_bl I q (by simp))
    | _ => exact absurd (show false = true from hs) Bool.false_ne_true
  | bl i =>
    cases rx
    cases y with
    | non => cases ry; exact PySem.EqNone.ne_bool_none (fin_bl I q (by simp))
    | bl j => cases ry; exact ne_bool (fin_bl I q (congrArg not dec_bl))
    | str j => obtain ⟨t', rfl⟩ := ry; exact PySem.EqMixed.ne_bool_str (fin_bl I q (by simp))
    | _ => exact absurd (show false = true from hs) Bool.false_ne_true
  | int i =>
    obtain ⟨t, rfl⟩ := rx
    cases y with
    | non => cases ry; exact PySem.EqNone.ne_int_none (fin_bl I q (by simp))
    | int j => obtain ⟨t', rfl⟩ := ry; exact ne_int (fin_bl I q (congrArg not dec_int))
    | str j => obtain ⟨t', rfl⟩ := ry; exact PySem.EqMixed.ne_int_str (fin_bl I q (by simp))
    | _ => exact absurd (show false = true from hs) Bool.false_ne_true
  | str i =>
    obtain ⟨t, rfl⟩ := rx
    cases y with
    | non => cases ry; exact PySem.EqNone.ne_str_none (fin_bl I q (by simp))
    | bl j => cases ry; exact PySem.EqMixed.ne_str_bool (fin_bl I q (by simp))
    | int j => obtain ⟨t', rfl⟩ := ry; exact PySem.EqMixed.ne_str_int (fin_bl I q (by simp))
    | str j => obtain ⟨t', rfl⟩ := ry; exact ne_str (fin_bl I q (congrArg not dec_str))
    | _ => exact absurd (show false = true from hs) Bool.false_ne_true
  | byt i =>
    obtain ⟨t, rfl⟩ := rx
    cases y with
    | byt j => obtain ⟨t', rfl⟩ := ry; exact PySem.W.ne_bytes (fin_bl I q (congrArg not dec_byt))
    | _ => exact absurd (show false = true from hs) Bool.false_ne_true
  | _ => cases y <;> exact absurd (show false = true from hs) Bool.false_ne_true

theorem op_lt : OpR X (compareOp .Lt) (rI0 fun i j => .bl (decide (i < j))) := opB0 fun _ _ _ _ _ _ _ q => lt_int q
theorem op_gt : OpR X (compareOp .Gt) (rI0 fun i j => .bl (decide (j < i))) := opB0 fun _ _ _ _ _ _ _ q => gt_int q
theorem nomark (b : Expr) {op : CmpOp} (h : op ≠ .In := by decide) (h2 : op ≠ .NotIn := by decide) : behindInMarks op b = false := by
  have e1 : (op == CmpOp.In) = false := by cases op <;> first | rfl | exact absurd rfl h
  have e2 : (op == CmpOp.NotIn) = false := by cases op <;> first | rfl | exact absurd rfl h2
  cases b <;> simp [behindInMarks, e1, e2]
/-- a comparison as a value; hm: nomark b, or (for in, not in) by with_unfolding_all rfl -/
theorem pe_cmpR {op : CmpOp} {r : R2} (ho : OpR X (compareOp op) r) (ha : PE X a ta) (hb : PE X b tb) (hm : behindInMarks op b = false) : PE X (.Compare a [op] [b] pos) (tOp r ta tb) := by
  intro pins s σ H Q I h
  exact wpAny_Compare1 (binT ha hb I h fun v u s2 x y H2 I2 rx ry q => ho pins s2 σ H2 x y v u Q I2 rx ry q) hm
/-- a reading of a value as a test -/
def tTest (t : TE) : TT := fun σ H Q => t σ H fun x H' => ∃ k, x = .bl k ∧ Q k H'
theorem pt_cmpR {op : CmpOp} {r : R2} (ho : OpR X (compareOp op) r) (ha : PE X a ta) (hb : PE X b tb) (hm : behindInMarks op b = false) : PT X (.Compare a [op] [b] pos) (tTest (tOp r ta tb)) := by
  intro pins s σ H Q I h
  refine wpAny_isTrue_Compare1 (thn (ha pins s σ H _ I h) fun v s1 ⟨x, H1, I1, r1, q1⟩ => thn (hb pins s1 σ H1 _ I1 q1) fun u s2 ⟨y, H2, I2, r2, q2⟩ =>
    thn (ho pins s2 σ H2 x y v u _ I2 r1 r2 q2) fun c s3 ⟨z, H3, I3, r3, k, e, q3⟩ => ?_) hm
  subst e
  cases r3
  exact wpAny_truthy_bool ⟨H3, I3, q3⟩
/-! ### truth -/
/-- a value's truth by the abstract heap -/
def TruV (K : PySem.W.Frag) (x : V) (H : Hp) (k : Bool) : Prop :=
  match x with
  | .non => k = false
  | .bl b => k = b
  | .int i => k = (i != 0)
  | .str y => y.length ≤ sizeLine ∧ k = ((y.length : Int) != 0)
  | .byt y => y.size ≤ sizeLine ∧ k = ((y.size : Int) != 0)
  | .ref p => (∃ xs, SqL K H p xs ∧ k = !xs.isEmpty) ∨ (∃ xs, SqT K H p xs ∧ k = !xs.isEmpty) ∨ ∃ kvs, H p = some (.dK kvs) ∧ k = !kvs.isEmpty
  | _ => False
theorem isEmpty_kv {κ : Type} {kvs : List (κ × V)} {vs : List (κ × Value)} (r : KV kvs vs) : (!vs.isEmpty) = !kvs.isEmpty := by
  cases r <;> rfl
theorem isEmpty_of {xs : List V} {its : List Value} (r : Vals xs its) : (!its.toArray.isEmpty) = !xs.isEmpty := by
  cases r <;> simp
theorem line63 : (sizeLine : Nat) < 2 ^ 63 := by rw [sizeLine_eq]; decide
theorem tru_ok : TruR X (fun x H Q => ∃ k, TruV X.K x H k ∧ Q k H) := by
  intro pins s σ H x v Q I rx h
  obtain ⟨k, e, q⟩ := h
  have hl := line63
  have hs : sizeLine = 16777216 := sizeLine_eq
  cases x with
  | non =>
    cases rx
    have e' : k = false := e
    subst e'
    exact truthy_none ⟨H, I, q⟩
  | bl b =>
    cases rx
    have e' : k = b := e
    subst e'
    exact wpAny_truthy_bool ⟨H, I, q⟩
  | int i =>
    obtain ⟨t, rfl⟩ := rx
    have e' : k = (i != 0) := e
    subst e'
    exact PySem.P.truthy_int ⟨H, I, q⟩
  | str y =>
    obtain ⟨t, rfl⟩ := rx
    obtain ⟨hy, e'⟩ : y.length ≤ sizeLine ∧ k = ((y.length : Int) != 0) := e
    subst e'
    exact PySem.P.truthy_str (by omega) ⟨H, I.tok _, q⟩
  | byt y =>
    obtain ⟨t, rfl⟩ := rx
    obtain ⟨hy, e'⟩ : y.size ≤ sizeLine ∧ k = ((y.size : Int) != 0) := e
    subst e'
    exact PySem.W.truthy_bytes (by omega) ⟨H, I.tok _, q⟩
  | ref p =>
    cases rx
    have e' : (∃ xs, SqL X.K H p xs ∧ k = !xs.isEmpty) ∨ (∃ xs, SqT X.K H p xs ∧ k = !xs.isEmpty) ∨ ∃ kvs, H p = some (.dK kvs) ∧ k = !kvs.isEmpty := e
    rcases e' with ⟨xs, hx, e'⟩ | ⟨xs, hx, e'⟩ | ⟨kvs, hx, e'⟩
    · subst e'
      obtain ⟨its, r, pl, hz⟩ := I.list hx
      have hlen := r.length
      exact wpAny_truthy_list pl.isList (by simp only [List.size_toArray]; omega) ⟨H, I.tok _, by rw [isEmpty_of r]; exact q⟩
    · subst e'
      obtain ⟨its, r, pl, hz⟩ := I.tuple hx
      have hlen := r.length
      exact truthy_tuple pl (by simp only [List.size_toArray]; omega) ⟨H, I.tok _, by rw [isEmpty_of r]; exact q⟩
    · subst e'
      obtain ⟨hz, hS, vs, r, m⟩ : kvs.length ≤ sizeLine ∧ (p == sysModules) = false ∧ ∃ vs, KV kvs vs ∧ s.heap.DictOf (mixKind X.prog X.w) p vs := I.hok p _ hx
      have hlen : kvs.length = vs.length := Paired.length r
      exact wpAny_truthy_dict hS m (by omega) ⟨H, I.tok _, by rw [isEmpty_kv r]; exact q⟩
  | _ => exact (show False from e).elim
/-- any expression whose test is its value's truth (a name, a call, a subscript, a field ..: he by fun _ => rfl) -/
theorem pt_truth (ha : PE X a ta) (he : ∀ whole, isTrue a X.env whole = (do let v ← whole; standAt a.pos; holding [v] (truthy v))) :
    PT X a (fun σ H Q => ta σ H fun x H' => ∃ k, TruV X.K x H' k ∧ Q k H') := by
  intro pins s σ H Q I h
  exact isTrue_plain (thn (ha pins s σ H _ I h) fun v s1 ⟨x, H1, I1, r1, q1⟩ => tru_ok pins s1 σ H1 x v Q I1 r1 q1) (he _)

/-! ### strs and bytes -/
theorem op_add_str : OpR X (binaryOp .Add) (fun x y H Q => ∃ i j, x = .str i ∧ y = .str j ∧ i.length + j.length ≤ sizeLine ∧ Q (.str (i ++ j)) H) := by
  intro pins s σ H x y v u Q I rx ry h
  obtain ⟨i, j, rfl, rfl, hz, q⟩ := h
  obtain ⟨t, rfl⟩ := rx
  obtain ⟨t', rfl⟩ := ry
  exact add_str (fun t' tk => ⟨.str (i ++ j), H, I.tok _, ⟨_, rfl⟩, q⟩) hz
/-! ### scalar builtins, by CallR -/
theorem vals1 {x : V} {us : List Value} (r : Vals [x] us) : ∃ u, us = [u] ∧ RelV x u := by
  cases r with
  | cons r1 r2 => cases r2; exact ⟨_, rfl, r1⟩
theorem vals2 {x y : V} {us : List Value} (r : Vals [x, y] us) : ∃ u w', us = [u, w'] ∧ RelV x u ∧ RelV y w' := by
  cases r with
  | cons r1 r2 =>
    cases r2 with
    | cons r3 r4 => cases r4; exact ⟨_, _, rfl, r1, r3⟩
theorem call_max2 (hc : X.calm = true) : CallR X (.builtin "max") (fun xs H Q => ∃ i j, xs = [.int i, .int j] ∧ Q (.int (if j > i then j else i)) H) := by
  intro pins s σ H xs us Q I r h
  obtain ⟨i, j, rfl, q⟩ := h
  obtain ⟨u, w', rfl, ⟨t, rfl⟩, ⟨t', rfl⟩⟩ := vals2 r
  refine max_two_ints (I.ok.hd hc) fun h' tk k => ⟨_, H, I.kept k, ?_, q⟩
  by_cases hj : j > i
  · rw [if_pos hj, if_pos hj]; exact ⟨_, rfl⟩
  · rw [if_neg hj, if_neg hj]; exact ⟨_, rfl⟩
end
end L2

namespace L2
open PySem PySem.Spec PyProof.Rows

/-! ### an instance, its attributes a map -/
structure ObjM (h : Heap) (x dx C : Addr) (mA : Str → Option Value) : Prop where
  obj : h.get? x = some (PySem.W.instObj C dx)
  ns : h.Ns1 dx mA
  ne : dx ≠ x

theorem lookIn_ns {h : Heap} {dx : Addr} {mA : Str → Option Value} (n : h.Ns1 dx mA) : ∃ od, h.get? dx = some od ∧ ∀ name, PySem.W.lookIn name od = some (mA name) := by
  obtain ⟨o, es, ep, ho, hd, hk, _, hm⟩ := n
  refine ⟨o, ho, fun name => ?_⟩
  have e := hm name
  unfold nsFind findBy at e
  rw [← Array.find?_toList] at e
  unfold PySem.W.lookIn
  rw [hd]
  dsimp only
  split
  · rename_i y q
    rw [q] at e
    exact congrArg some e
  · rename_i q
    rw [q] at e
    have a : es.toList.any (·.refKey) = false := by
      rw [List.any_eq_false]
      intro y hy
      obtain ⟨z, t, hkey⟩ := hk y (Array.mem_toList_iff.mp hy)
      simp [DictEntry.refKey, hkey]
    have a' : ¬ es.toList.any (·.refKey) = true := by rw [a]; exact Bool.false_ne_true
    rw [if_neg a']
    exact congrArg some e

theorem ObjM.look {h : Heap} {x dx C : Addr} {mA : Str → Option Value} (I : ObjM h x dx C mA) : ∃ od, PySem.W.InstAt h x (PySem.W.instObj C dx) C (some od) ∧ ∀ name, PySem.W.lookIn name od = some (mA name) :=
  let ⟨od, ho, hl⟩ := lookIn_ns I.ns
  ⟨od, ⟨I.obj, rfl, rfl, ho⟩, hl⟩

section
variable {prog : Program} {w : World} {A : Around} {E : Value → Shared → Prop} {s : Shared} {K : PySem.W.Frag} {x dx C f : Addr} {mA : Str → Option Value} {name : Str} {v : Value}

theorem get_map {expr : Bool} {Q : Value → Shared → Prop} (X : K.In s.heap) (I : ObjM s.heap x dx C mA) (hg : PySem.W.plainGet K C name = true) (hh : PySem.W.hasDictIn K C = true)
    (ha : PySem.W.findIn K (.ref C) name = some none) (hv : mA name = some v) (hv' : PySem.W.handedIn v = true) (h : Q v { s with toks := s.toks + 1 }) :
    wpAny (model prog w) A (getAttr (.ref x) name expr) Q E s := by
  obtain ⟨od, J, hl⟩ := I.look
  exact PySem.W.get_value X J (PySem.W.plainGet_of hg).1 (PySem.W.findObj_own hh ha rfl (by rw [hl, hv])) hv' h

theorem get_meth {pl : Sem Bool} {Q : Value × List Value → Shared → Prop} (X : K.In s.heap) (I : ObjM s.heap x dx C mA) (hg : PySem.W.plainGet K C name = true)
    (hf : PySem.W.findIn K (.ref C) name = some (some (.ref f))) (ht : PySem.W.isFn K (.ref f) = true) (hv : mA name = none) (h : Q (.ref f, [.ref x]) s) :
    wpAny (model prog w) A (getMethod (.ref x) name pl) Q E s := by
  obtain ⟨od, J, hl⟩ := I.look
  exact PySem.W.method_fn X J (PySem.W.plainGet_of hg).1 (PySem.W.plainGet_of hg).2 hf (beq_iff_eq.mp ht) (by show (PySem.W.lookIn name od).map (·.isSome) = some false; rw [hl, hv]; rfl) h

theorem set_map {ns : List Str} {Q : Unit → Shared → Prop} (X : K.In s.heap) (I : ObjM s.heap x dx C mA)
    (hs : PySem.W.findIn K (.ref C) "__setattr__" = some (some (.builtin "object.__setattr__"))) (hp : PySem.W.plainOver K C = true) (ht : PySem.W.takerIn K C name = some none) (hh : PySem.W.hasDictIn K C = true)
    (hw : PySem.Within mA ns) (hsz : ns.length ≤ sizeLine)
    (h : ∀ h', ObjM h' x dx C (fun y => if y = name then some v else mA y) → Heap.SameBut dx s.heap h' → Q () { s with heap := h', toks := s.toks + 2 }) :
    wpAny (model prog w) A (setAttr (.ref x) name v) Q E s := by
  obtain ⟨od, J, hl⟩ := I.look
  refine PySem.W.set_plain X J hs (PySem.W.osa_open (s := { s with toks := s.toks + 1 }) (r := none) X J hp ht fun b => ?_)
  obtain ⟨cd, hc, hd'⟩ := PySem.W.any_some hh
  have hx : s.heap.get? x = some ⟨.ref C, some dx, .plain, #[]⟩ := I.obj
  refine wpAny_bind (wpAny_pure (wpAny_bind (wpAny_bind (wpAny_loadPart hx (wpAny_bind (PySem.W.Looks.here (s := { s with toks := s.toks + 1 }) (PySem.W.looks_clsIn X hc) ?_))))))
  rw [hd']
  refine wpAny_pure (a := some dx) (wpAny_bind (wpAny_pure (wpAny_bind ?_)))
  refine wpAny_nsSet1 (s := { s with toks := s.toks + 1 }) I.ns fun h' hn2 hs2 => ?_
  obtain ⟨oD, esD, epD, hoD, hdD, hcD⟩ := hn2.count (PySem.Within.cons name v hw)
  refine wpAny_bind (wpAny_lookBehind hoD (by rw [hdD]; exact pastItsLine_dict (Nat.le_trans hcD (by rw [List.length_cons]; omega))) ?_)
  exact wpAny_pure (h _ ⟨(hs2.2 _ (Ne.symm I.ne)).trans I.obj, hn2, I.ne⟩ hs2)

/-- C(..): the dict at the heap's end, the instance behind it; then its __init__ -/
theorem make_map {R : Result → Shared → Prop} {vs : List Value} {kw : List (Str × Value)} (X : K.In s.heap) (hm : PySem.W.makesIn K C = true)
    (hi : PySem.W.findIn K (.ref C) "__init__" = some (some (.ref f))) (hf : PySem.W.typeIn K (.ref f) = some (.type "function"))
    (h : codeAny (model prog w) (A.under (.builtin "type.__call__" ⟨.ref C :: vs, kw⟩)) (.call (.ref f) ⟨.ref (s.heap.objs.size + 1) :: vs, kw⟩) (PySem.W.InitBack (s.heap.objs.size + 1) R)
      { s with heap := (s.heap.push PySem.W.emptyDict).push (PySem.W.instObj C s.heap.objs.size) }) :
    codeAny (model prog w) A (.call (.ref C) ⟨vs, kw⟩) R s := by
  obtain ⟨hh, g, d, t, os⟩ := s
  exact PySem.W.make_core (PySem.W.makes_of X hm) (PySem.W.looks_findIn X hi) (fun self => PySem.W.bind_fn X self hf) (.inl rfl) h
end

/-! ### the attributes as a list of pairs -/
def putF (f : Str) (v : V) : List (Str × V) → List (Str × V)
  | [] => [(f, v)]
  | (g, x) :: r => if g = f then (g, v) :: r else (g, x) :: putF f v r
theorem lookup_putF (f g : Str) (v : V) : ∀ fs : List (Str × V), (putF f v fs).lookup g = if g = f then some v else fs.lookup g
  | [] => by
    show List.lookup g [(f, v)] = _
    by_cases h : g = f
    · have hb : (g == f) = true := beq_iff_eq.mpr h
      simp only [List.lookup, hb, if_pos h]
    · have hb : (g == f) = false := beq_eq_false_iff_ne.mpr h
      simp only [List.lookup, hb, if_neg h]
  | (k, x) :: r => by
    have ih := lookup_putF f g v r
    rw [show putF f v ((k, x) :: r) = (if k = f then (k, v) :: r else (k, x) :: putF f v r) from rfl]
    by_cases hk : k = f
    · rw [if_pos hk]
      by_cases h : g = k
      · have hb : (g == k) = true := beq_iff_eq.mpr h
        simp only [List.lookup, hb, if_pos (h.trans hk)]
      · have hb : (g == k) = false := beq_eq_false_iff_ne.mpr h
        simp only [List.lookup, hb, if_neg (fun e : g = f => h (e.trans hk.symm))]
    · rw [if_neg hk]
      by_cases h : g = k
      · have hb : (g == k) = true := beq_iff_eq.mpr h
        simp only [List.lookup, hb, if_neg (fun e : g = f => hk (h.symm.trans e))]
      · have hb : (g == k) = false := beq_eq_false_iff_ne.mpr h
        simp only [List.lookup, hb]
        exact ih
theorem keys_putF (f : Str) (v : V) : ∀ fs : List (Str × V), f ∈ (putF f v fs).map (·.1) ∧ ∀ g, g ∈ fs.map (·.1) → g ∈ (putF f v fs).map (·.1)
  | [] => ⟨by simp [putF], fun g h => by simp at h⟩
  | (k, x) :: r => by
    obtain ⟨i1, i2⟩ := keys_putF f v r
    rw [show putF f v ((k, x) :: r) = (if k = f then (k, v) :: r else (k, x) :: putF f v r) from rfl]
    by_cases hk : k = f
    · rw [if_pos hk]
      subst hk
      exact ⟨by simp, fun g h => by simpa using h⟩
    · rw [if_neg hk]
      refine ⟨?_, fun g h => ?_⟩
      · rw [List.map_cons]
        exact List.mem_cons_of_mem _ i1
      · rw [List.map_cons] at h ⊢
        rcases List.mem_cons.mp h with e | e
        · exact List.mem_cons.mpr (.inl e)
        · exact List.mem_cons_of_mem _ (i2 g e)
theorem length_putF (f : Str) (v : V) : ∀ fs : List (Str × V), (putF f v fs).length ≤ fs.length + 1
  | [] => by simp [putF]
  | (k, x) :: r => by
    have ih := length_putF f v r
    rw [show putF f v ((k, x) :: r) = (if k = f then (k, v) :: r else (k, x) :: putF f v r) from rfl]
    by_cases hk : k = f
    · rw [if_pos hk, List.length_cons, List.length_cons]; omega
    · rw [if_neg hk, List.length_cons, List.length_cons]; omega

theorem RelO.some_of {v : V} {o : Option Value} (r : RelO (some v) o) : ∃ u, o = some u ∧ RelV v u := by
  cases o with
  | none => exact (show False from r).elim
  | some u => exact ⟨u, rfl, r⟩
theorem RelO.none_of {o : Option Value} (r : RelO none o) : o = none := by
  cases o with
  | none => rfl
  | some u => exact (show False from r).elim
theorem handed_of {v : V} {u : Value} (r : RelV v u) : PySem.W.handedIn u = true := by
  cases v with
  | non => cases (show u = Value.none from r); rfl
  | bl b => cases (show u = Value.bool b from r); rfl
  | int i => obtain ⟨t, e⟩ := (show ∃ t, u = Value.int i t from r); cases e; rfl
  | str x => obtain ⟨t, e⟩ := (show ∃ t, u = Value.str x t from r); cases e; rfl
  | byt b => obtain ⟨t, e⟩ := (show ∃ t, u = Value.bytes b t from r); cases e; rfl
  | flt b => obtain ⟨t, e⟩ := (show ∃ t, u = Value.float b t from r); cases e; rfl
  | ref a => cases (show u = Value.ref a from r); rfl
  | ty n => cases (show u = Value.type n from r); rfl

section
variable {P : Program} {w : World} {H H' : Hp} {h h' : Heap} {a C dx : Addr} {fs fs' : List (Str × V)}
theorem ins_get (hok : HOk P w H h) (e : H a = some (.ins C dx fs)) : ∃ mA, ObjM h a dx C mA ∧ (∀ f, RelO (fs.lookup f) (mA f)) ∧ PySem.Within mA (fs.map (·.1)) ∧ fs.length ≤ 1000 ∧ H dx = some (.own a) := by
  obtain ⟨d, z, ne, ob, mA, n, r, q⟩ := (show ObjOk P w H h a (.ins C dx fs) from hok a _ e)
  exact ⟨mA, ⟨ob, n, ne⟩, r, q, z, d⟩
end

/-! ### what of the text a class must have -/
structure Cls (K : PySem.W.Frag) (C : Addr) : Prop where
  pg : PySem.W.plainGet K C Str.empty = true
  hd : PySem.W.hasDictIn K C = true
  po : PySem.W.plainOver K C = true
  sa : PySem.W.findIn K (.ref C) "__setattr__" = some (some (.builtin "object.__setattr__"))
theorem Cls.get {K : PySem.W.Frag} {C : Addr} (c : Cls K C) (f : Str) : PySem.W.plainGet K C f = true := c.pg
/-- no class of it has the name -/
def NoAttr (K : PySem.W.Frag) (C : Addr) (f : Str) : Prop := PySem.W.findIn K (.ref C) f = some none
theorem NoAttr.taker {K : PySem.W.Frag} {C : Addr} {f : Str} (n : NoAttr K C f) : PySem.W.takerIn K C f = some none := by
  unfold PySem.W.takerIn
  rw [show PySem.W.findIn K (.ref C) f = some none from n]
  rfl
/-- a method: a plain def of the class or of one above it -/
structure Meth (K : PySem.W.Frag) (C : Addr) (m : Str) (f : Addr) : Prop where
  at_ : PySem.W.findIn K (.ref C) m = some (some (.ref f))
  fn : PySem.W.isFn K (.ref f) = true
  kp : PySem.W.keepIn K (.ref f) = true

section
variable {X : Cx} {pins : List (Addr × Obj)} {σ : St} {H : Hp} {s : Shared} {a C dx : Addr} {fs : List (Str × V)} {f : Str} {v : V} {A : Around} {E : Value → Shared → Prop}

theorem getattr_ok {b : Bool} {Q : Value → Shared → Prop} (I : Inv X pins σ H s) (e : H a = some (.ins C dx fs)) (c : Cls X.K C) (n : NoAttr X.K C f) (l : fs.lookup f = some v)
    (h : ∀ u s', Inv X pins σ H s' → RelV v u → Q u s') : wpAny (model X.prog X.w) A (getAttr (.ref a) f b) Q E s := by
  obtain ⟨mA, O, r, _, _, _⟩ := ins_get I.hok e
  obtain ⟨u, hu, ru⟩ := RelO.some_of (v := v) (o := mA f) (by rw [← l]; exact r f)
  exact get_map I.kIn O (c.get f) c.hd n hu (handed_of ru) (h u _ (I.tok _) ru)

theorem getmeth_ok {m : Str} {g : Addr} {pl : Sem Bool} {Q : Value × List Value → Shared → Prop} (I : Inv X pins σ H s) (e : H a = some (.ins C dx fs)) (c : Cls X.K C) (k : Meth X.K C m g) (l : fs.lookup m = none)
    (h : Q (.ref g, [.ref a]) s) : wpAny (model X.prog X.w) A (getMethod (.ref a) m pl) Q E s := by
  obtain ⟨mA, O, r, _, _, _⟩ := ins_get I.hok e
  have hn : mA m = none := RelO.none_of (by rw [← l]; exact r m)
  exact get_meth I.kIn O (c.get m) k.at_ k.fn hn h

theorem setattr_ok {y : V} {u : Value} {Q : Unit → Shared → Prop} (I : Inv X pins σ H s) (e : H a = some (.ins C dx fs)) (c : Cls X.K C) (n : NoAttr X.K C f) (hl : fs.length < 1000) (ry : RelV y u)
    (h : ∀ s', Inv X pins σ (upd H a (.ins C dx (putF f y fs))) s' → Q () s') : wpAny (model X.prog X.w) A (setAttr (.ref a) f u) Q E s := by
  obtain ⟨mA, O, r, wi, _, ho⟩ := ins_get I.hok e
  have hz : (fs.map (·.1)).length ≤ sizeLine := by rw [List.length_map, sizeLine_eq]; omega
  refine set_map I.kIn O c.sa c.po n.taker c.hd wi hz fun h' O' sb => h _ ?_
  have hd : ∃ o, h'.get? dx = some o := let ⟨o, _, _, e', _⟩ := O'.ns; ⟨o, e'⟩
  refine I.write (x := a) (e := dx) (by rw [e]; exact True.intro) (.inr ho) (fun b q hb z => (sb.2 b hb).trans z) hd ?_
  refine ⟨by rw [upd_ne O.ne]; exact ho, ?_, O.ne, O'.obj, _, O'.ns, fun g => ?_, fun g hg => ?_⟩
  · have := length_putF f y fs; omega
  · show RelO ((putF f y fs).lookup g) (if g = f then some u else mA g)
    rw [lookup_putF]
    by_cases q : g = f
    · rw [if_pos q, if_pos q]; exact ry
    · rw [if_neg q, if_neg q]; exact r g
  · by_cases q : g = f
    · rw [q]; exact (keys_putF f y fs).1
    · refine (keys_putF f y fs).2 g (wi g fun z => hg ?_)
      show (if g = f then some u else mA g) = none
      rw [if_neg q]; exact z

/-- a new instance, tracked, without attributes -/
theorem Inv.made (I : Inv X pins σ H s) : Inv X pins σ (upd (upd H s.heap.objs.size (.own (s.heap.objs.size + 1))) (s.heap.objs.size + 1) (.ins C s.heap.objs.size []))
    { s with heap := (s.heap.push PySem.W.emptyDict).push (PySem.W.instObj C s.heap.objs.size) } := by
  have e1 : (s.heap.push PySem.W.emptyDict).get? s.heap.objs.size = some PySem.W.emptyDict := Heap.get?_push_size s.heap rfl
  have e2 : ((s.heap.push PySem.W.emptyDict).push (PySem.W.instObj C s.heap.objs.size)).get? (s.heap.objs.size + 1) = some (PySem.W.instObj C s.heap.objs.size) := by
    have := Heap.get?_push_size (s.heap.push PySem.W.emptyDict) (o := PySem.W.instObj C s.heap.objs.size) rfl
    rwa [Heap.size_push] at this
  have e3 : (s.heap.push PySem.W.emptyDict).Ns s.heap.objs.size (fun _ => none) := ⟨PySem.W.emptyDict, #[], _, e1, rfl, (fun e he => absurd he (by simp)), fun _ => rfl⟩
  have I1 := I.laid (a := s.heap.objs.size) (o := .own (s.heap.objs.size + 1)) (h' := s.heap.push PySem.W.emptyDict) (t' := s.toks) (fun b u q => Heap.get?_push_of_some _ q) (Nat.le_refl _) ⟨_, e1⟩
  refine I1.laid (a := s.heap.objs.size + 1) (o := .ins C s.heap.objs.size []) (t' := s.toks) (fun b u q => Heap.get?_push_of_some _ q) (Nat.le_of_eq (Heap.size_push _ _)) ?_
  have ne : s.heap.objs.size ≠ s.heap.objs.size + 1 := Nat.ne_of_lt (Nat.lt_succ_self _)
  refine ⟨by rw [upd_ne ne, upd_same], Nat.zero_le _, ne, e2, fun _ => none, (Heap.Ns1.of_empty e3).at fun o q => Heap.get?_push_of_some _ q, fun _ => True.intro, fun y hy => absurd rfl hy⟩

/-- e.f where nothing but the object is asked: through attributeBase (super) and the last hold -/
theorem attr_of {prog : Program} {w : World} {env : Env} {e : Expr} {f : Str} {pos : Pos} {s : Shared} {Q : Value → Shared → Prop} (hb : attributeBase e f env (eval e env) = eval e env)
    (h : wpAny (model prog w) A (eval e env) (fun o s₁ => wpAny (model prog w) A (getAttr o f true) Q E s₁) E s) : wpAny (model prog w) A (eval (.Attribute e f pos) env) Q E s :=
  Attribute_any_ h (by rw [arm_eval_Attribute, hb])
end

/-! ### readings and rules -/
/-- e.f, an attribute of the instance -/
def tFld (K : PySem.W.Frag) (ta : TE) (f : Str) : TE := fun σ H Q => ta σ H fun x H1 => ∃ a C dx fs v, x = .ref a ∧ H1 a = some (.ins C dx fs) ∧ Cls K C ∧ NoAttr K C f ∧ fs.lookup f = some v ∧ Q v H1
/-- e.f = value -/
def sFld (K : PySem.W.Frag) (ta tv : TE) (f : Str) : TS := fun D σ H => tv σ H fun y H1 => ta σ H1 fun x H2 => ∃ a C dx fs, x = .ref a ∧ H2 a = some (.ins C dx fs) ∧ Cls K C ∧ NoAttr K C f ∧ fs.length < 1000 ∧
  D.nx σ (upd H2 a (.ins C dx (putF f y fs)))
section
variable {X : Cx} {o e value : Expr} {f : Str} {pos pos' tpos : Pos} {ta tv : TE}
theorem pe_fld (he : PE X e ta) (hb : attributeBase e f X.env (eval e X.env) = eval e X.env) : PE X (.Attribute e f pos) (tFld X.K ta f) := by
  intro pins s σ H Q I h
  refine attr_of hb (thn (he pins s σ H _ I h) fun u s1 ⟨x, H1, I1, rx, a, C, dx, fs, v, ex, ea, c, n, l, q⟩ => ?_)
  subst ex
  obtain rfl : u = Value.ref a := rx
  exact getattr_ok I1 ea c n l fun u' s2 I2 ru => ⟨v, H1, I2, ru, q⟩
theorem ps_fld (ha : PE X o ta) (hv : PE X value tv) (hs : swapsWith value (some (.Attribute o f pos')) pos.line X.env = pure false) : PS X (.Assign [.Attribute o f pos'] value pos) (sFld X.K ta tv f) := by
  intro pins s σ H D I h
  refine plainObj_wpAny_Assign_Attribute (thn (hv pins s σ H _ I h) fun u s1 ⟨y, H1, I1, ry, q⟩ => thn (ha pins s1 σ H1 _ I1 q) fun ov s2 ⟨x, H2, I2, rx, a, C, dx, fs, ex, ea, c, n, l, q2⟩ => ?_) hs
  subst ex
  obtain rfl : ov = Value.ref a := rx
  exact setattr_ok I2 ea c n l ry fun s3 I3 => ⟨σ, _, I3, q2⟩
end

/-! ### isinstance -/
section
variable {X : Cx} {pins : List (Addr × Obj)} {σ : St} {H : Hp} {s : Shared} {A : Around} {E : Value → Shared → Prop} {Q : Value → Shared → Prop} {c : Value} {b : Bool}
end
end L2

namespace L2
open PySem PySem.Spec PyProof.Rows

/-! ### room -/
structure Room (k : Nat) (A : Around) : Prop where
  hd : A.handled = none
  dp : A.depth + 3 * k + 5 < recursionLimit
  un : A.units + 16 * k + 200 < cLine
theorem Room.mono {j k : Nat} {A : Around} (r : Room k A) (h : j ≤ k) : Room j A := ⟨r.hd, by have := r.dp; omega, by have := r.un; omega⟩
theorem Room.deeper {k : Nat} {A : Around} (r : Room (k + 1) A) (env : Env) : Room k (A.deeper env) :=
  ⟨r.hd, by have := r.dp; show A.depth + 1 + 3 * k + 5 < _; omega, by have := r.un; show A.units + 3 + 16 * k + 200 < _; omega⟩
theorem make_depth {A : Around} {C : Addr} {us : List Value} {kw : List (Str × Value)} : (A.under (.builtin "type.__call__" ⟨.ref C :: us, kw⟩)).depth = A.depth + 1 := by
  first | rfl | simp [Around.under, Code.weight, Code.isCreation, Code.isGuard, Code.isCaller, Code.frames, Code.isFrame, guardIds]
theorem make_units {A : Around} {C : Addr} {us : List Value} {kw : List (Str × Value)} : (A.under (.builtin "type.__call__" ⟨.ref C :: us, kw⟩)).units = A.units + 1 := by
  first | rfl | simp [Around.under, Code.cUnits, Code.frames, Code.isFrame]
theorem Room.make {k : Nat} {A : Around} (r : Room (k + 1) A) (C : Addr) (us : List Value) (kw : List (Str × Value)) : Room k (A.under (.builtin "type.__call__" ⟨.ref C :: us, kw⟩)) :=
  ⟨r.hd, by have := r.dp; rw [make_depth]; omega, by have := r.un; rw [make_units]; omega⟩
theorem Room.depth {k : Nat} {A : Around} (r : Room k A) : A.depth < recursionLimit := by have := r.dp; omega
theorem Room.units {k : Nat} {A : Around} (r : Room k A) : A.units + 64 < cLine := by have := r.un; omega
theorem Room.units0 {k : Nat} {A : Around} (r : Room k A) : A.units < cLine := by have := r.un; omega

/-! ### argument lists and displays -/
def tNil : TA := fun _ H Q => Q [] H
def tCons (ta : TE) (tr : TA) : TA := fun σ H Q => ta σ H fun x H1 => tr σ H1 fun xs H2 => Q (x :: xs) H2
section
variable {X : Cx} {e : Expr} {es : List Expr} {te : TE} {t : TA} {pos : Pos}
theorem pa_nil : PA X [] tNil := fun _ _ _ _ H Q I h => Calls.spliced_nil ⟨[], H, I, .nil, h⟩
theorem pa_cons (ha : PE X e te) (hr : PA X es t) (hs : starEach (e :: es) X.env = (false, eval e X.env) :: starEach es X.env := by rfl) : PA X (e :: es) (tCons te t) := by
  intro pos pins s σ H Q I h
  rw [hs]
  show wpAny _ _ (spliced ((false, eval e X.env) :: backTo pos (starEach es X.env))) _ _ s
  refine Calls.spliced_cons (thn (ha pins s σ H _ I h) fun u s1 ⟨x, H1, I1, r1, q1⟩ => ?_)
  exact thn (hr pos pins s1 σ H1 _ I1 q1) fun us s2 ⟨xs, H2, I2, r2, q2⟩ => ⟨x :: xs, H2, I2, .cons r1 r2, q2⟩

/-- a tuple, a list of written items -/
def tTup (t : TA) : TE := fun σ H Q => t σ H fun xs H1 => xs.length ≤ sizeLine ∧ ∀ p, H1 p = none → Q (.ref p) (upd H1 p (.tup xs))
def tLst (t : TA) : TE := fun σ H Q => t σ H fun xs H1 => xs.length ≤ sizeLine ∧ ∀ p, H1 p = none → Q (.ref p) (upd H1 p (.lst xs))
theorem pe_tup {x1} (h : PA X es t) : PE X (.Tuple es x1 pos) (tTup t) := by
  intro pins s σ H Q I hq
  refine wpAny_Tuple_spliced (thn (h pos pins s σ H _ I hq) fun us s1 ⟨xs, H1, I1, r, z, q⟩ => ⟨by rw [← r.length]; exact z, ?_⟩)
  have hf : H1 s1.heap.objs.size = none := I1.hok.fresh (Nat.le_refl _)
  refine ⟨.ref s1.heap.objs.size, upd H1 s1.heap.objs.size (.tup xs), I1.laid (t' := s1.toks) (fun b u e => Heap.get?_push_of_some _ e) (Nat.le_refl _) ?_, rfl, q _ hf⟩
  exact ⟨z, us, r, ⟨_, Heap.get?_push_size _ rfl, rfl, _, rfl⟩⟩
theorem pe_lst (h : PA X es t) : PE X (.List es pos) (tLst t) := by
  intro pins s σ H Q I hq
  refine wpAny_List_spliced (thn (h pos pins s σ H _ I hq) fun us s1 ⟨xs, H1, I1, r, z, q⟩ => ⟨by rw [← r.length]; exact z, ?_⟩)
  have hf : H1 s1.heap.objs.size = none := I1.hok.fresh (Nat.le_refl _)
  refine ⟨.ref s1.heap.objs.size, upd H1 s1.heap.objs.size (.lst xs), I1.laid (t' := s1.toks) (fun b u e => Heap.get?_push_of_some _ e) (Nat.le_refl _) ?_, rfl, q _ hf⟩
  exact ⟨z, us, 0, r, Heap.get?_push_size _ rfl⟩
end

/-! ### what a def promises -/
/-- a def's promise: the bound arguments in the parameters' order, the heap, the wanted end, the wanted exception -/
abbrev Sp := List V → Hp → VK → XK → Prop
/-- how an exception lies behind a call (file 08 gives it): the callers' frames, abstract heap and state ahead of the call, the wish, the exception, the state -/
abbrev CXT := List Env → Hp → Shared → XK → Value → Shared → Prop

/-- the state at a call -/
structure Env0 (P : Program) (w : World) (K : PySem.W.Frag) (mg : Str → Option Value) (base : Heap) (A : Around) (outer : List Env) (s : Shared) (H : Hp) : Prop where
  frames : A.frames = some outer
  mod : Mod K mg base
  bs : ∀ b o, base.get? b = some o → s.heap.get? b = some o ∧ H b = none
  bsz : base.objs.size ≤ s.heap.objs.size
  funs : s.heap.FunFrames base outer
  frf : ∀ b ∈ frs outer, H b = none
  hok : HOk P w H s.heap
  bare : AllBare s.gens
/-- a call's end -/
def CE (outer : List Env) (P : Program) (w : World) (H : Hp) (s : Shared) (Q : VK) (u : Value) (s' : Shared) : Prop :=
  ∃ v H', s'.os = s.os ∧ AllBare s'.gens ∧ Un (frs outer) [] H H' s.heap s'.heap ∧ HOk P w H' s'.heap ∧ RelV v u ∧ Q v H'
def CR (CX : CXT) (outer : List Env) (P : Program) (w : World) (H : Hp) (s : Shared) (Q : VK) (E : XK) (r : Result) (s' : Shared) : Prop :=
  match r with
  | .ok (.ret u) => CE outer P w H s Q u s'
  | .ok _ => False
  | .error e => CX outer H s E e s'
structure FnOk (P : Program) (w : World) (K : PySem.W.Frag) (mg : Str → Option Value) (base : Heap) (CX : CXT) (k : Nat) (f : Addr) (fd : FuncData) (ps : List Str) (sp : Sp) : Prop where
  len : ∀ vs H Q E, sp vs H Q E → vs.length = ps.length
  run : ∀ (A : Around) (outer : List Env) (s : Shared) (H : Hp) (args : Args) (us : List Value) (vs : List V) (Q : VK) (E : XK), Room k A → Env0 P w K mg base A outer s H → BindsTo s fd args (ps.zip us) → Vals vs us → sp vs H Q E →
    codeAny (model P w) A (.call (.ref f) args) (CR CX outer P w H s Q E) s
theorem FnOk.mono {P : Program} {w : World} {K : PySem.W.Frag} {mg : Str → Option Value} {base : Heap} {CX : CXT} {j k : Nat} {f : Addr} {fd : FuncData} {ps : List Str} {sp : Sp} (F : FnOk P w K mg base CX j f fd ps sp) (h : j ≤ k) :
    FnOk P w K mg base CX k f fd ps sp := ⟨F.len, fun A outer s H args us vs Q E hr => F.run A outer s H args us vs Q E (hr.mono h)⟩
/-- a weaker promise -/
theorem FnOk.imp {P : Program} {w : World} {K : PySem.W.Frag} {mg : Str → Option Value} {base : Heap} {CX : CXT} {k : Nat} {f : Addr} {fd : FuncData} {ps : List Str} {sp sp' : Sp} (F : FnOk P w K mg base CX k f fd ps sp)
    (h : ∀ vs H Q E, sp' vs H Q E → sp vs H Q E) : FnOk P w K mg base CX k f fd ps sp' :=
  ⟨fun vs H Q E q => F.len vs H Q E (h _ _ _ _ q), fun A outer s H args us vs Q E hr he hb hv hs => F.run A outer s H args us vs Q E hr he hb hv (h _ _ _ _ hs)⟩

theorem Env0.make {P : Program} {w : World} {K : PySem.W.Frag} {mg : Str → Option Value} {base : Heap} {A : Around} {outer : List Env} {s : Shared} {H : Hp} (e : Env0 P w K mg base A outer s H) (C : Addr) (us : List Value) (kw : List (Str × Value)) :
    Env0 P w K mg base (A.under (.builtin "type.__call__" ⟨.ref C :: us, kw⟩)) outer s H := ⟨by first | exact e.frames | (simpa [Around.under, Code.envs, Code.isFrame, pushEnvs] using e.frames), e.mod, e.bs, e.bsz, e.funs, e.frf, e.hok, e.bare⟩
section
variable {X : Cx} {pins : List (Addr × Obj)} {σ : St} {H : Hp} {s s' : Shared}
/-- from a body: what a callee wants -/
theorem Inv.env0 (I : Inv X pins σ H s) : Env0 X.prog X.w X.K X.mg X.base X.A X.stack s H :=
  ⟨I.ok.frames, I.ok.mod, I.bs, Nat.le_trans I.ok.bsz I.sz, I.stack, I.stkFree, I.hok, I.bare⟩
/-- behind a call -/
theorem Inv.after {Q : VK} {u : Value} (I : Inv X pins σ H s) (h : CE X.stack X.prog X.w H s Q u s') : EP X pins σ Q u s' := by
  obtain ⟨v, H', os, bare, un, hok, r, q⟩ := h
  obtain ⟨hh, g, d, t, os'⟩ := s'
  obtain rfl : os' = s.os := os
  exact ⟨v, H', I.call (h' := hh) (g' := g) (d' := d) (t' := t) (ch := []) un hok bare (fun b z => absurd z (by simp)), r, q⟩
end

/-! ### calls -/
/-- f(..): the written arguments, then the defaults dvs; E: what is wanted of an exception -/
def tCall (sp : Sp) (dvs : List V) (E : XK) (t : TA) : TE := fun σ H Q => t σ H fun vs H1 => sp (vs ++ dvs) H1 Q E
/-- how the parameters are bound: us the positional arguments, kw the keywords' values by name, ds the defaults that fill up -/
def Binds (K : PySem.W.Frag) (fd : FuncData) (ps : List Str) (ds : List Value) : Prop :=
  ∀ (s : Shared) (us : List Value), K.In s.heap → (us ++ ds).length = ps.length → BindsTo s fd ⟨us, []⟩ (ps.zip (us ++ ds))
/-- every parameter is given -/
theorem Binds.all {K : PySem.W.Frag} {fd : FuncData} {ps : List Str} (h : ∀ us : List Value, us.length = ps.length → bindArgs fd ⟨us, []⟩ = pure (ps.zip us)) : Binds K fd ps [] := fun s us _ hl => by
  rw [List.append_nil] at hl ⊢
  exact .of_eq (h us hl)

/-- an exception of a callee reaches what this body wants of exceptions -/
def Passes (CX : CXT) (X : Cx) (E : XK) : Prop := ∀ (pins : List (Addr × Obj)) (σ : St) (H : Hp) (s : Shared) (e : Value) (s' : Shared), Inv X pins σ H s → CX X.stack H s E e s' → X.xe e s'

section
variable {X : Cx} {CX : CXT} {k : Nat} {f C : Addr} {fd : FuncData} {ps : List Str} {sp : Sp} {dvs : List V} {ds : List Value} {E : XK} {x m : Str} {p pos apos : Pos} {e o : Expr} {es : List Expr} {ta : TE} {t : TA}

/-- the callee runs -/
theorem run_fn {pins : List (Addr × Obj)} {σ : St} {H : Hp} {s : Shared} {Q : VK} {us : List Value} {vs : List V} (F : FnOk X.prog X.w X.K X.mg X.base CX k f fd ps sp) (hr : Room k X.A) (hb : Binds X.K fd ps ds) (hd : Vals dvs ds) (hx : Passes CX X E)
    (I : Inv X pins σ H s) (r : Vals vs us) (h : sp (vs ++ dvs) H Q E) : wpAny (model X.prog X.w) X.A (call (.ref f) us) (EP X pins σ Q) X.xe s := by
  have r2 : Vals (vs ++ dvs) (us ++ ds) := r.append hd
  have hl : (us ++ ds).length = ps.length := by rw [← r2.length]; exact F.len _ _ _ _ h
  refine wpAny_call (codeAny_mono (F.run X.A X.stack s H ⟨us, []⟩ (us ++ ds) (vs ++ dvs) Q E hr I.env0 (hb s us I.kIn hl) r2 h) fun r s' hq => ?_)
  cases r with
  | error e => exact hx pins σ H s e s' I hq
  | ok fl =>
    cases fl with
    | ret u => exact I.after hq
    | next => exact False.elim hq
    | brk => exact False.elim hq
    | cont => exact False.elim hq

theorem pe_call (F : FnOk X.prog X.w X.K X.mg X.base CX k f fd ps sp) (hr : Room k X.A) (hg : Gl X x) (hm : X.mg x = some (.ref f)) (hk : PySem.W.keepIn X.K (.ref f) = true) (hb : Binds X.K fd ps ds) (hd : Vals dvs ds) (hx : Passes CX X E)
    (ha : PA X (e :: es) t) (hdb : (x == ("__debug__" : Str)) = false := by decide) (he : starEach (e :: es) X.env = (false, eval e X.env) :: starEach es X.env := by rfl) (hpl : (backTo pos (starEach es X.env)).any (·.1) = false := by rfl) :
    PE X (.Call (.Name x p) (e :: es) [] pos) (tCall sp dvs E t) := by
  intro pins s σ H Q I h
  refine wpAny_Call_Name_kw (ld_glob I hg hm ?_ hdb)
  refine PySem.W.callWith_K (h₀ := X.base) I.ok.mod.kin hk (thn (ha pos pins s σ H _ I h) fun us s1 ⟨vs, H1, I1, r, q⟩ => ⟨I1.kIn, ?_⟩) he hpl
  exact run_fn F hr hb hd hx I1 r q
/-- what a class must have to be made -/
structure Mk (K : PySem.W.Frag) (C f : Addr) : Prop where
  makes : PySem.W.makesIn K C = true
  init : PySem.W.findIn K (.ref C) "__init__" = some (some (.ref f))
  fn : PySem.W.isFn K (.ref f) = true
  kp : PySem.W.keepIn K (.ref C) = true

theorem run_make {pins : List (Addr × Obj)} {σ : St} {H : Hp} {s : Shared} {Q : VK} {us : List Value} {vs : List V} (M : Mk X.K C f) (F : FnOk X.prog X.w X.K X.mg X.base CX k f fd ps sp) (hr : Room (k + 1) X.A) (hb : Binds X.K fd ps ds) (hd : Vals dvs ds)
    (hx : Passes CX X E) (I : Inv X pins σ H s) (r : Vals vs us)
    (h : ∀ x dx, H x = none → H dx = none → dx ≠ x → sp (.ref x :: (vs ++ dvs)) (upd (upd H dx (.own x)) x (.ins C dx [])) (fun v H2 => v = .non ∧ Q (.ref x) H2) E) :
    wpAny (model X.prog X.w) X.A (call (.ref C) us) (EP X pins σ Q) X.xe s := by
  have hq := h (s.heap.objs.size + 1) s.heap.objs.size (I.hok.fresh (Nat.le_succ _)) (I.hok.fresh (Nat.le_refl _)) (Nat.ne_of_lt (Nat.lt_succ_self _))
  have I2 := Inv.made (C := C) I
  have r2 : Vals (V.ref (s.heap.objs.size + 1) :: (vs ++ dvs)) (Value.ref (s.heap.objs.size + 1) :: (us ++ ds)) := .cons rfl (r.append hd)
  have hl : (Value.ref (s.heap.objs.size + 1) :: us ++ ds).length = ps.length := by
    have e := r2.length
    rw [F.len _ _ _ _ hq] at e
    exact e.symm
  refine wpAny_call (make_map (f := f) I.kIn M.makes M.init (beq_iff_eq.mp M.fn) (codeAny_mono (F.run _ X.stack _ _ ⟨Value.ref (s.heap.objs.size + 1) :: us, []⟩ (Value.ref (s.heap.objs.size + 1) :: (us ++ ds)) _ _ E (hr.make C us [])
    (I2.env0.make C us []) (hb _ (Value.ref (s.heap.objs.size + 1) :: us) I2.kIn hl) r2 hq) fun r s' hq' => ?_))
  cases r with
  | error e => exact hx pins σ _ _ e s' I2 hq'
  | ok fl =>
    cases fl with
    | ret u =>
      obtain ⟨v, H', I3, rv, ev, q3⟩ := I2.after hq'
      subst ev
      exact ⟨rv, ⟨V.ref (s.heap.objs.size + 1), H', I3, rfl, q3⟩⟩
    | next => exact False.elim hq'
    | brk => exact False.elim hq'
    | cont => exact False.elim hq'
end

/-! ### keywords -/
section
variable {X : Cx} {CX : CXT} {k : Nat} {f C : Addr} {fd : FuncData} {ps ks : List Str} {sp : Sp} {E : XK} {x m : Str} {p pos apos kpos : Pos} {e o : Expr} {es : List Expr} {kws : List Keyword} {te ta : TE} {t tk : TA} {nm : Option Str}
variable {g : List Value → List Value → List Value} {gV : List V → List V → List V}
end

/-! ### a def's body keeps its promise -/
/-- names: the parameters first -/
structure FnScope (N P : List Str) (sc : Scope) : Prop where
  kind : sc.kind = .function
  co : sc.isCoroutine = false
  gen : sc.isGenerator = false
  nd : N.Nodup
  pre : N.take P.length = P
  par : ∀ x ∈ P, sc.names.lookup x = some .local ∨ sc.names.lookup x = some .cell
  nofree : ∀ y ∈ sc.names, y.2 ≠ .free

theorem bindL_out {kindOf : Str → Option NameKind} {x : Str} : ∀ {binds : List (Str × Value)} {m : Str → Option Value}, (∀ v, (x, v) ∉ binds) → bindL kindOf binds m x = m x
  | [], _, _ => rfl
  | (n, v) :: r, m, h => by
    unfold bindL
    rw [bindL_out fun w hw => h w (List.mem_cons_of_mem _ hw)]
    split
    · have : x ≠ n := by rintro rfl; exact h v List.mem_cons_self
      simp [this]
    · rfl
theorem bindC_out {kindOf : Str → Option NameKind} {x : Str} : ∀ {binds : List (Str × Value)} {m : Str → Option Value}, (∀ v, (x, v) ∉ binds) → bindC kindOf binds m x = m x
  | [], _, _ => rfl
  | (n, v) :: r, m, h => by
    unfold bindC
    rw [bindC_out fun w hw => h w (List.mem_cons_of_mem _ hw)]
    split
    · rfl
    · have : x ≠ n := by rintro rfl; exact h v List.mem_cons_self
      simp [this]
theorem bindL_get {kindOf : Str → Option NameKind} {x : Str} {v : Value} : ∀ {P : List Str} {vs : List Value} {i : Nat} {m : Str → Option Value}, P.Nodup → P[i]? = some x → vs[i]? = some v → kindOf x = some .local →
    bindL kindOf (P.zip vs) m x = some v
  | [], _, _, _, _, h, _, _ => by simp at h
  | _ :: _, [], _, _, _, _, h, _ => by simp at h
  | p :: P, w :: vs, 0, m, nd, h1, h2, hk => by
    simp at h1 h2; subst h1; subst h2
    show bindL kindOf ((p, w) :: P.zip vs) m p = _
    unfold bindL
    rw [bindL_out fun v hv => (List.nodup_cons.mp nd).1 (List.of_mem_zip hv).1, if_pos hk]
    simp
  | p :: P, w :: vs, i + 1, m, nd, h1, h2, hk => by
    show bindL kindOf ((p, w) :: P.zip vs) m x = _
    unfold bindL
    exact bindL_get (i := i) (List.nodup_cons.mp nd).2 (by simpa using h1) (by simpa using h2) hk
theorem bindC_get {kindOf : Str → Option NameKind} {x : Str} {v : Value} : ∀ {P : List Str} {vs : List Value} {i : Nat} {m : Str → Option Value}, P.Nodup → P[i]? = some x → vs[i]? = some v → kindOf x ≠ some .local →
    bindC kindOf (P.zip vs) m x = some v
  | [], _, _, _, _, h, _, _ => by simp at h
  | _ :: _, [], _, _, _, _, h, _ => by simp at h
  | p :: P, w :: vs, 0, m, nd, h1, h2, hk => by
    simp at h1 h2; subst h1; subst h2
    show bindC kindOf ((p, w) :: P.zip vs) m p = _
    unfold bindC
    rw [bindC_out fun v hv => (List.nodup_cons.mp nd).1 (List.of_mem_zip hv).1, if_neg hk]
    simp
  | p :: P, w :: vs, i + 1, m, nd, h1, h2, hk => by
    show bindC kindOf ((p, w) :: P.zip vs) m x = _
    unfold bindC
    exact bindC_get (i := i) (List.nodup_cons.mp nd).2 (by simpa using h1) (by simpa using h2) hk

/-- the names' values at the entry -/
def start (N : List Str) (vs : List V) : St := vs.map some ++ List.replicate (N.length - vs.length) none

/-- the context of a def's body, at its entry; an exception leaves the frame, then lies as CX says -/
def cxOf (CX : CXT) (P : Program) (w : World) (K : PySem.W.Frag) (mg : Str → Option Value) (base : Heap) (N : List Str) (qual : Str) (scope : Scope) (f : Addr) (cd : Value) (A : Around) (outer : List Env) (s : Shared) (H : Hp) (E : XK) : Cx where
  prog := P
  w := w
  K := K
  mg := mg
  base := base
  A := A.deeper (envOfC qual scope s.heap.objs.size f cd)
  N := N
  s₀ := s
  H₀ := H
  env := envOfC qual scope s.heap.objs.size f cd
  outer := outer
  stack := envOfC qual scope s.heap.objs.size f cd :: outer
  ex := []
  calm := true
  fn := fun _ => true
  pn := []
  xe := fun e s' => wpAny (model P w) (A.deeper (envOfC qual scope s.heap.objs.size f cd)) (leaving (envOfC qual scope s.heap.objs.size f cd) e) (fun _ s'' => CX outer H s E e s'') (fun e' s'' => CX outer H s E e' s'') s'

theorem cell_has {sc : Scope} {n : Nat} {x : Str} (h : sc.names.lookup x = some .cell) : ∃ c, (cellsFrom n sc.names []).lookup x = some c := by
  have q := PySem.W.cellsFrom_some sc.names n [] (.inl h)
  exact Option.isSome_iff_exists.mp q

theorem inv_start {CX : CXT} {P : Program} {w : World} {K : PySem.W.Frag} {mg : Str → Option Value} {base : Heap} {N ps : List Str} {qual : Str} {scope : Scope} {f : Addr} {cd : Value} {A : Around} {outer : List Env} {s s1 : Shared} {H : Hp} {E : XK} {us : List Value} {vs : List V}
    (S : FnScope N ps scope) (hd : A.handled = none) (e0 : Env0 P w K mg base A outer s H) (hl : vs.length = ps.length) (r : Vals vs us)
    (x : InCallC s s.heap.objs.size (bindL (envOfC qual scope s.heap.objs.size f cd).kindOf (ps.zip us) fun _ => none) (cellsFrom (s.heap.objs.size + 1) scope.names []) (bindC (envOfC qual scope s.heap.objs.size f cd).kindOf (ps.zip us) fun _ => none) s1) :
    Inv (cxOf CX P w K mg base N qual scope f cd A outer s H E) [] (start N vs) H s1 := by
  have hpl : ps.length ≤ N.length := by have := congrArg List.length S.pre; rw [List.length_take] at this; omega
  obtain ⟨h1, tk, rfl, hk⟩ := x.done
  have noA : ∀ b : Addr, b ∉ (cxOf CX P w K mg base N qual scope f cd A outer s H E).ex := fun b z => absurd (show b ∈ ([] : List Addr) from z) (by simp)
  refine ⟨⟨e0.mod, S.kind, rfl, rfl, Nat.le_refl _, fun y z c h1 h2 => ?_, fun y hy => ?_, fun y c _ h => ?_, fun _ => hd, Around.frames_deeper e0.frames, .inr ⟨rfl, rfl⟩, fun b z => absurd z (noA b), e0.bs, e0.bsz, fun b _ _ => noA b, fun b z => absurd z (noA b), e0.funs, e0.frf⟩,
    rfl, e0.bare, Un.kept hk, ⟨_, x.toInCall.ns, fun i y v h1 h2 h3 => ?_⟩, fun y c h => ⟨_, x.cell y c h⟩, e0.hok.fresh (Nat.le_refl _), fun y c h => ?_, fun p hp => absurd (show p ∈ ([] : List (Addr × Obj)) from hp) (by simp), e0.hok.kept hk, ?_⟩
  · exact name_of_addr x.apart (PySem.mem_of_lookup h1) (PySem.mem_of_lookup h2)
  · have hy : scope.names.lookup y = some .cell ∨ scope.names.lookup y = some .free := hy
    rcases hy with hy | hy
    · exact cell_has hy
    · exact absurd rfl (S.nofree _ (PySem.mem_of_lookup hy))
  · exact Nat.le_of_lt (x.above y c (PySem.mem_of_lookup h))
  · have hi : i < vs.length := by
      unfold start at h2
      by_cases hi : i < vs.length
      · exact hi
      · rw [List.getElem?_append_right (by simpa using hi)] at h2
        rw [List.getElem?_replicate] at h2
        split at h2 <;> cases h2
    have ha : vs[i]? = some v := by
      unfold start at h2
      rw [List.getElem?_append_left (by simpa using hi), List.getElem?_map] at h2
      cases e : vs[i]? with
      | none => rw [e] at h2; cases h2
      | some a => rw [e] at h2; cases h2; rfl
    obtain ⟨u, hu, rv⟩ := r.get ha
    have hp : ps[i]? = some y := by
      rw [← S.pre, List.getElem?_take_of_lt (by omega)]; exact h1
    have ndP : ps.Nodup := by rw [← S.pre]; exact S.nd.sublist (List.take_sublist _ _)
    refine ⟨u, rv, ?_⟩
    rcases S.par y (List.mem_of_getElem? hp) with k | k
    · exact .inl ⟨k, bindL_get ndP hp hu k⟩
    · obtain ⟨c, e⟩ := cell_has (n := s.heap.objs.size + 1) k
      refine .inr ⟨.inl k, c, e, ?_⟩
      have q := x.cell y c e
      rw [bindC_get ndP hp hu (by show scope.names.lookup y ≠ _; rw [k]; decide)] at q
      exact q
  · exact e0.hok.fresh (Nat.le_of_lt (x.above y c (PySem.mem_of_lookup h)))
  · unfold start
    show _ = N.length
    rw [List.length_append, List.length_map, List.length_replicate]
    omega

/-- THE RULE: a def (or a method) of the text, by its body. The body's reading t is chosen for each entry; it is run at the parameters' values -/
theorem fn_of {CX : CXT} {P : Program} {w : World} {K : PySem.W.Frag} {mg : Str → Option Value} {base : Heap} {k : Nat} {f : Addr} {name qual : Str} {params : Arguments} {body : List Stmt} {scope : Scope} {dV kV doc pm cdv ct oc : Value} {an od : Option Addr}
    {osl : Array (Option Value)} {N ps : List Str} {sp : Sp} (lk : K.lookup f = some ⟨oc, od, .func (PySem.W.fnOf name qual params body scope dV kV doc pm an cdv ct), osl⟩) (hcd : PySem.W.codeIn K cdv qual = true) (S : FnScope N ps scope)
    (len : ∀ vs H Q E, sp vs H Q E → vs.length = ps.length)
    (hbody : ∀ (A : Around) (outer : List Env) (s : Shared) (H : Hp) (vs : List V) (Q : VK) (E : XK), Room k (A.deeper (envOfC qual scope s.heap.objs.size f cdv)) → sp vs H Q E →
      ∃ t, PSs (cxOf CX P w K mg base N qual scope f cdv A outer s H E) body t ∧ t { nx := fun _ H' => Q .non H', rt := Q } (start N vs) H) :
    FnOk P w K mg base CX (k + 1) f (PySem.W.fnOf name qual params body scope dV kV doc pm an cdv ct) ps sp := by
  refine ⟨len, fun A outer s H args us vs Q E hr e0 hb r hsp => ?_⟩
  have hl := len _ _ _ _ hsp
  have KX : K.In s.heap := e0.mod.kin.keeps fun b o e => (e0.bs b o e).1
  have lim : s.heap.NoLimit := e0.mod.nolimit.keeps fun b o e => (e0.bs b o e).1
  have hkind : ∀ y ∈ ps.zip us, scope.names.lookup y.1 = some .local ∨ (scope.names.lookup y.1 = some .cell ∧ ((cellsFrom (s.heap.objs.size + 1) scope.names []).lookup y.1).isSome = true) := fun ⟨n, v⟩ hy => by
    rcases S.par n (List.of_mem_zip hy).1 with q | q
    · exact .inl q
    · exact .inr ⟨q, PySem.W.cellsFrom_some _ _ _ (.inl q)⟩
  refine codeAny_call_function hr.depth (KX _ _ lk) rfl S.co S.gen rfl (PySem.W.codeRec_of KX hcd) (hb _ _ _ _ ?_)
  refine wpAny_newFunctionEnv_cells S.kind hkind fun env he s1 x => ?_
  subst he
  refine ⟨lim.keeps x.toInCall.keep, codeAny_func ?_⟩
  obtain ⟨t, ht, hq⟩ := hbody A outer s H vs Q E (hr.deeper _) hsp
  have I : Inv (cxOf CX P w K mg base N qual scope f cdv A outer s H E) [] (start N vs) H s1 := inv_start S hr.hd e0 hl r x
  refine wpAny_mono (ht [] s1 (start N vs) H _ I hq) (fun fl s' hs => ?_) fun e s' hs => hs
  have fin : ∀ {σ' : St} {H' : Hp} {v : V} {u : Value}, Inv (cxOf CX P w K mg base N qual scope f cdv A outer s H E) [] σ' H' s' → RelV v u → Q v H' → CE outer P w H s Q u s' :=
    fun {σ' H' v u} J rv q => ⟨v, H', J.os, J.bare, J.base, J.hok, rv, q⟩
  cases fl with
  | ret u =>
    obtain ⟨v, σ', H', J, rv, q⟩ := hs
    exact fin J rv q
  | next =>
    obtain ⟨σ', H', J, q⟩ := hs
    exact fin (v := V.non) (u := Value.none) J rfl q
  | brk =>
    obtain ⟨_, _, _, q⟩ := hs
    exact False.elim q
  | cont =>
    obtain ⟨_, _, _, q⟩ := hs
    exact False.elim q
end L2

namespace L2
open PySem PySem.Spec PyProof.Rows
section
variable {X : Cx} {x : Str} {p pos : Pos} {e : Expr} {es : List Expr} {t : TA} {id T : String} {r : List V → Hp → VK → Prop}

def tCB (r : List V → Hp → VK → Prop) (t : TA) : TE := fun σ H Q => t σ H fun vs H1 => r vs H1 Q
/-- f(e, ..), f a built-in function -/
theorem pe_callB (hc : CallR X (.builtin id) r) (hg : Gl X x) (hm : X.mg x = none) (hv : bootBuiltins x = some (.builtin id)) (ha : PA X (e :: es) t) (hn : x ≠ "__name__" := by decide) (hdb : (x == ("__debug__" : Str)) = false := by decide)
    (he : starEach (e :: es) X.env = (false, eval e X.env) :: starEach es X.env := by rfl) (hpl : (backTo pos (starEach es X.env)).any (·.1) = false := by rfl) : PE X (.Call (.Name x p) (e :: es) [] pos) (tCB r t) := by
  intro pins s σ H Q I h
  refine wpAny_Call_Name_kw (ld_blt I hg hm hv ?_ hn hdb)
  exact PyProof.Rows.callWith_builtin1 (thn (ha pos pins s σ H _ I h) fun us s1 ⟨vs, H1, I1, r1, q1⟩ => hc pins s1 σ H1 vs us Q I1 r1 q1) he hpl
end
end L2

namespace HT
open PySem PyProof.Rows

section
open PySem.SeqAt
open PySem.AutoSeq1 (wpAny_loadPart')
open PySem.MeetsSeq PySem.MeetsSeq2 PySem.MeetsSeq3

end

section
variable {prog : Program} {w : World} {A : Around} {E : Value → Shared → Prop} {s : Shared}

/-! ### t[a:b], not the whole -/
/-- a slice's bound as a place among n (d where it is left out) -/
def sIx (n d : Nat) : Option Int → Nat
  | none => d
  | some v => if v < 0 then (v + (n : Int)).toNat else min v.toNat n
theorem sIx_none (n d : Nat) : sIx n d none = d := rfl
theorem sIx_le (n d : Nat) (hd : d ≤ n) (o : Option Int) : sIx n d o ≤ n := by
  cases o with
  | none => exact hd
  | some v =>
    show (if v < 0 then (v + (n : Int)).toNat else min v.toNat n) ≤ n
    by_cases hv : v < 0
    · rw [if_pos hv]; omega
    · rw [if_neg hv]; exact Nat.min_le_right _ _
end
end HT

namespace L2
open PySem PySem.Spec PyProof.Rows

/-! ### the parts of a slice -/
abbrev TO := St → Hp → (Option Int → Hp → Prop) → Prop
/-- a slice's part (left out, or an int) -/
def PO (X : Cx) (e : Option Expr) (t : TO) : Prop :=
  ∀ (pins : List (Addr × Obj)) (s : Shared) (σ : St) (H : Hp) (Q : Option Int → Hp → Prop), Inv X pins σ H s → t σ H Q →
    wpAny (model X.prog X.w) X.A (evalPart e X.env) (fun u s' => ∃ o H', Inv X pins σ H' s' ∧ IsPart u o ∧ Q o H') X.xe s
def tNoPart : TO := fun _ H Q => Q none H
def tPart (t : TE) : TO := fun σ H Q => t σ H fun x H1 => ∃ i, x = .int i ∧ Q (some i) H1

section
variable {X : Cx} {e : Expr} {te : TE} {lo hi : Option Expr} {tl th : TO} {pos p2 : Pos}

theorem po_none : PO X none tNoPart := by
  intro pins s σ H Q I h
  rw [evalPart_none]
  exact wpAny_pure ⟨none, H, I, .none, h⟩
theorem po_some (h : PE X e te) : PO X (some e) (tPart te) := by
  intro pins s σ H Q I hw
  rw [evalPart_some]
  refine thn (h pins s σ H _ I hw) fun u s1 ⟨x, H1, I1, r1, q1⟩ => ?_
  obtain ⟨i, rfl, q⟩ := q1
  obtain ⟨t, rfl⟩ := r1
  exact ⟨some i, H1, I1, .int i t, q⟩

/-- what a slice of a value is, by values: the slice object stands at sl -/
def SlR (X : Cx) (r : V → Option Int → Option Int → Hp → VK → Prop) : Prop :=
  ∀ (pins : List (Addr × Obj)) (s : Shared) (σ : St) (H : Hp) (x : V) (v vl vu : Value) (lo hi : Option Int) (sl : Addr) (Q : VK), Inv X pins σ H s → RelV x v → s.heap.IsSliceOf sl vl vu .none → IsPart vl lo → IsPart vu hi → r x lo hi H Q →
    ∃ T id, typeLookup (.type T) "__getitem__" = pure (some (.builtin id)) ∧ s.TypeIs v T ∧ wpAny (model X.prog X.w) X.A (getItem v (.ref sl)) (EP X pins σ Q) X.xe s
def tSl (r : V → Option Int → Option Int → Hp → VK → Prop) (te : TE) (tl th : TO) : TE := fun σ H Q => te σ H fun x H1 => tl σ H1 fun l H2 => th σ H2 fun u H3 => r x l u H3 Q
/-- a[lo:hi], any a -/
theorem pe_slice {r : V → Option Int → Option Int → Hp → VK → Prop} (hr : SlR X r) (he : PE X e te) (hl : PO X lo tl) (hu : PO X hi th) : PE X (.Subscript e (.Slice lo hi none p2) pos) (tSl r te tl th) := by
  intro pins s σ H Q I h
  refine Subscript_ (thn (he pins s σ H _ I h) fun v s1 ⟨x, H1, I1, r1, q1⟩ => ?_)
  refine wpAny_Slice (thn (hl pins s1 σ H1 _ I1 q1) fun vl s2 ⟨l, H2, I2, pl, q2⟩ => thn (hu pins s2 σ H2 _ I2 q2) fun vu s3 ⟨u, H3, I3, pu, q3⟩ => ?_)
  rw [evalPart_none]
  refine wpAny_pure ?_
  have I4 : Inv X pins σ H3 { s3 with heap := s3.heap.push { cls := .type "slice", data := .fields #[vl, vu, .none] } } := I3.kept (t' := s3.toks) fun b ob q => Heap.get?_push_of_some _ q
  obtain ⟨T, id, hT, ht, hg⟩ := hr pins { s3 with heap := s3.heap.push { cls := .type "slice", data := .fields #[vl, vu, .none] } } σ H3 x v vl vu l u s3.heap.objs.size Q I4 r1 (Heap.IsSliceOf.new ..) pl pu q3
  show wpAny (model X.prog X.w) X.A (subscriptTail e (.Slice lo hi none p2) v (.ref s3.heap.objs.size)) (EP X pins σ Q) X.xe { s3 with heap := s3.heap.push { cls := .type "slice", data := .fields #[vl, vu, .none] } }
  exact tail_any (ops := [.ref s3.heap.objs.size, v]) ht hT hg (by with_unfolding_all rfl)

/-- the items of xs[lo:hi] -/
def cutV (xs : List V) (lo hi : Option Int) : List V := (xs.drop (HT.sIx xs.length 0 lo)).take (HT.sIx xs.length xs.length hi - HT.sIx xs.length 0 lo)
theorem cutV_length (xs : List V) (lo hi : Option Int) : (cutV xs lo hi).length ≤ xs.length := by
  unfold cutV
  rw [List.length_take, List.length_drop]
  omega
/-! ### t < u, t + u -/
end
end L2

namespace L2
open PySem PySem.Spec PyProof.Rows

/-! ### places -/
/-- the place that an index of any sign means -/
def ixN (n : Nat) (i : Int) : Option Nat := if 0 ≤ i then (if i < n then some i.toNat else none) else if -(n : Int) ≤ i then some (i + n).toNat else none
def atI {α : Type} (xs : List α) (i : Int) : Option α := (ixN xs.length i).bind fun j => xs[j]?
theorem ixN_seq {n : Nat} {i : Int} {j : Nat} (h : ixN n i = some j) : seqIndex? i n = some j ∧ j < n ∧ -(n : Int) ≤ i ∧ i < n := by
  unfold ixN at h
  by_cases h0 : 0 ≤ i
  · rw [if_pos h0] at h
    by_cases h1 : i < n
    · rw [if_pos h1] at h
      have e : i.toNat = j := Option.some.inj h
      exact ⟨by rw [seqIndex_of h0 h1, e], by omega, by omega, h1⟩
    · rw [if_neg h1] at h; cases h
  · rw [if_neg h0] at h
    by_cases h1 : -(n : Int) ≤ i
    · rw [if_pos h1] at h
      have e : (i + n).toNat = j := Option.some.inj h
      exact ⟨by rw [seqIndex_neg (by omega) h1, e], by omega, h1, by omega⟩
    · rw [if_neg h1] at h; cases h
theorem atI_get {α : Type} {xs : List α} {i : Int} {v : α} (h : atI xs i = some v) : ∃ j, seqIndex? i xs.length = some j ∧ xs[j]? = some v ∧ j < xs.length ∧ -(xs.length : Int) ≤ i ∧ i < xs.length := by
  unfold atI at h
  cases e : ixN xs.length i with
  | none => rw [e] at h; cases h
  | some j =>
    rw [e] at h
    obtain ⟨h1, h2, h3, h4⟩ := ixN_seq e
    exact ⟨j, h1, h, h2, h3, h4⟩
theorem atI_nat {α : Type} {xs : List α} {j : Nat} {v : α} (h : xs[j]? = some v) : atI xs (j : Int) = some v := by
  have hj : j < xs.length := (List.getElem?_eq_some_iff.mp h).1
  have e : ixN xs.length (j : Int) = some j := by
    unfold ixN
    rw [if_pos (by omega), if_pos (by omega)]; simp
  unfold atI; rw [e]; exact h
theorem atI_last {α : Type} (xs : List α) (v : α) : atI (xs ++ [v]) (-1) = some v := by
  have hl : (xs ++ [v]).length = xs.length + 1 := by simp
  have e : ixN (xs ++ [v]).length (-1) = some xs.length := by
    unfold ixN
    rw [hl, if_neg (by decide), if_pos (by omega)]
    congr 1
    omega
  unfold atI
  rw [e]
  show (xs ++ [v])[xs.length]? = some v
  simp

/-! ### what may be subscripted -/
/-- what stands as an index of a plain subscript -/
def PlainIx (b : Expr) : Prop := ∀ o i, subscripted b false o i = operate [o, i] (getItem o i)
/-- a subscript by values -/
def IxR (X : Cx) (r : R2) : Prop :=
  ∀ (value slice : Expr) (pins : List (Addr × Obj)) (s : Shared) (σ : St) (H : Hp) (x y : V) (v u : Value) (Q : VK), Inv X pins σ H s → RelV x v → RelV y u → r x y H Q →
    subscripted slice false v u = operate [v, u] (getItem v u) → wpAny (model X.prog X.w) X.A (subscriptTail value slice v u) (EP X pins σ Q) X.xe s
/-- a call of a builtin's method by values: the receiver, the arguments -/
def MtR (X : Cx) (id : String) (r : V → List V → Hp → VK → Prop) : Prop :=
  ∀ (pins : List (Addr × Obj)) (s : Shared) (σ : St) (H : Hp) (x : V) (xs : List V) (v : Value) (us : List Value) (Q : VK), Inv X pins σ H s → RelV x v → Vals xs us → r x xs H Q →
    wpAny (model X.prog X.w) X.A (call (.builtin id) (v :: us)) (EP X pins σ Q) X.xe s
section
variable {X : Cx} {a b : Expr} {ta tb : TE} {pos : Pos}
/-- a[b] -/
theorem pe_ix {r : R2} (hr : IxR X r) (ha : PE X a ta) (hb : PE X b tb) (hs : PlainIx b) : PE X (.Subscript a b pos) (tOp r ta tb) := by
  intro pins s σ H Q I h
  exact Subscript_ (binT ha hb I h fun v u s2 x y H2 I2 rx ry q => hr a b pins s2 σ H2 x y v u Q I2 rx ry q (hs _ _))

def rIxL (K : PySem.W.Frag) : R2 := fun x y H Q => ∃ p xs i v, x = .ref p ∧ y = .int i ∧ SqL K H p xs ∧ atI xs i = some v ∧ Q v H
def rIxT (K : PySem.W.Frag) : R2 := fun x y H Q => ∃ p xs i v, x = .ref p ∧ y = .int i ∧ SqT K H p xs ∧ atI xs i = some v ∧ Q v H
def rIxS : R2 := fun x y H Q => ∃ z i c, x = .str z ∧ y = .int i ∧ z.length ≤ sizeLine ∧ atI z.cps.toList i = some c ∧ Q (.str ⟨#[c]⟩) H
theorem ix_list : IxR X (rIxL X.K) := by
  intro value slice pins s σ H x y v u Q I rx ry h hs
  obtain ⟨p, xs, i, z, rfl, rfl, hq, he, q⟩ := h
  cases rx
  obtain ⟨t, rfl⟩ := ry
  obtain ⟨its, r, pl, hz⟩ := I.list hq
  obtain ⟨j, h1, h2, h3, h4, h5⟩ := atI_get he
  obtain ⟨w, ew, rw'⟩ := r.get h2
  have hl := r.length
  have hn := line63
  have fin : EP X pins σ Q w s := ⟨z, H, I, rw', q⟩
  by_cases h0 : 0 ≤ i
  · have hj : i.toNat = j := by
      rw [seqIndex_of h0 h5] at h1
      exact Option.some.inj h1
    exact item_listR pl.isList h0 (by omega) (by rw [hj]; simpa using ew) fin hs
  · have hj : (i + (its.toArray.size : Int)).toNat = j := by
      rw [seqIndex_neg (by omega) h4] at h1
      rw [List.size_toArray, ← hl]
      exact Option.some.inj h1
    exact subscriptTail_builtinR (x := w) pl.isList.typeIs slot_list_getitem.lookup
      (wpAny_getItem_list_neg (Q := fun r s' => r = w ∧ EP X pins σ Q r s') pl.isList (by omega) (by rw [List.size_toArray] <;> omega) (by omega) (by rw [hj]; simpa using ew) ⟨rfl, fin⟩) hs
theorem ix_tup : IxR X (rIxT X.K) := by
  intro value slice pins s σ H x y v u Q I rx ry h hs
  obtain ⟨p, xs, i, z, rfl, rfl, hq, he, q⟩ := h
  cases rx
  obtain ⟨t, rfl⟩ := ry
  obtain ⟨its, r, pl, hz⟩ := I.tuple hq
  obtain ⟨j, h1, h2, h3, h4, h5⟩ := atI_get he
  obtain ⟨w, ew, rw'⟩ := r.get h2
  have hl := r.length
  have hn := line63
  have fin : EP X pins σ Q w s := ⟨z, H, I, rw', q⟩
  exact subscriptTail_builtinR (x := w) pl.typeIs slot_tuple_getitem.lookup
    (getItem_tuple (j := j) (Q := fun r s' => r = w ∧ EP X pins σ Q r s') pl (by omega) (by omega) (by rw [List.size_toArray, ← hl]; exact h1) (by simpa using ew) ⟨rfl, fin⟩) hs
theorem ix_str : IxR X rIxS := by
  intro value slice pins s σ H x y v u Q I rx ry h hs
  obtain ⟨z, i, c, rfl, rfl, hz, he, q⟩ := h
  obtain ⟨t, rfl⟩ := rx
  obtain ⟨t', rfl⟩ := ry
  obtain ⟨j, h1, h2, h3, h4, h5⟩ := atI_get he
  have hl : z.cps.toList.length = z.length := by simp [Str.length]
  rw [hl] at h1 h4 h5
  have hn := line63
  exact tail_any (typeIs_str s z t) slot_str_getitem.lookup (getItem_str (c := c) (by
    have e1 : decide (i < -(2 ^ 63 : Int)) = false := decide_eq_false (by omega)
    have e2 : decide (i ≥ 2 ^ 63) = false := decide_eq_false (by omega)
    rw [e1, e2, Bool.or_false]) (by rw [h1]; simpa using h2) ⟨.str ⟨#[c]⟩, H, I.tok _, ⟨_, rfl⟩, q⟩) hs
/-! ### xs[i] = v, any sign -/
/-! ### slices -/
theorem slice_bounds (lo hi : Option Int) (n : Nat) : (sliceBounds lo hi none n).1 = ((HT.sIx n 0 lo : Nat) : Int) ∧ (sliceBounds lo hi none n).2.1 = ((HT.sIx n n hi : Nat) : Int) ∧ (sliceBounds lo hi none n).2.2 = 1 := by
  refine ⟨?_, ?_, rfl⟩
  · cases lo with
    | none => simp [sliceBounds, HT.sIx]
    | some i =>
      simp only [sliceBounds, HT.sIx, Option.getD_none, show (1 : Int) > 0 by decide, if_true]
      by_cases h : i < 0
      · simp only [h, if_true] <;> omega
      · simp only [h, if_false] <;> omega
  · cases hi with
    | none => simp [sliceBounds, HT.sIx]
    | some i =>
      simp only [sliceBounds, HT.sIx, Option.getD_none, show (1 : Int) > 0 by decide, if_true]
      by_cases h : i < 0
      · simp only [h, if_true] <;> omega
      · simp only [h, if_false] <;> omega
theorem slicePick_cut (its : List Value) (lo hi : Option Int) : slicePick its.toArray lo hi none = ((its.drop (HT.sIx its.length 0 lo)).take (HT.sIx its.length its.length hi - HT.sIx its.length 0 lo)).toArray := by
  obtain ⟨h1, h2, h3⟩ := slice_bounds lo hi its.toArray.size
  unfold slicePick
  rw [h1, h2, h3]
  simp only [sliceRange_one, pick_run, List.size_toArray] <;> rfl
/-- xs[lo:hi] of a list: a new list -/
def rSlL (K : PySem.W.Frag) : V → Option Int → Option Int → Hp → VK → Prop := fun x lo hi H Q => ∃ a xs, x = .ref a ∧ SqL K H a xs ∧ ∀ p, H p = none → Q (.ref p) (upd H p (.lst (cutV xs lo hi)))
theorem sl_list : SlR X (rSlL X.K) := by
  intro pins s σ H x v vl vu lo hi sl Q I rx hs pl pu h
  obtain ⟨a, xs, rfl, hx, q⟩ := h
  cases rx
  obtain ⟨its, r, ht, hz⟩ := I.list hx
  have hlen := r.length
  refine ⟨"list", _, slot_list_getitem.lookup, ht.isList.typeIs, ?_⟩
  refine wpAny_getItem_list_slice ht.isList hs pl pu .none (by simp) ?_ (by rw [List.size_toArray] <;> omega)
  rw [slicePick_cut, ← hlen]
  refine ⟨.ref s.heap.objs.size, _, I.laid (t' := s.toks) (o := .lst (cutV xs lo hi)) (fun b ob q => Heap.get?_push_of_some _ q) (Nat.le_refl _) ?_, rfl, q _ (I.hok.fresh (Nat.le_refl _))⟩
  exact ⟨Nat.le_trans (cutV_length xs lo hi) hz, _, 0, (r.drop (HT.sIx xs.length 0 lo)).take (HT.sIx xs.length xs.length hi - HT.sIx xs.length 0 lo), Heap.get?_push_size _ rfl⟩

/-! ### in, not in: flat items -/
def flatV : V → Bool
  | .non => true
  | .bl _ => true
  | .int _ => true
  | .str _ => true
  | _ => false
/-- == of flat values -/
def eqV : V → V → Bool
  | .non, .non => true
  | .bl a, .bl b => a == b
  | .bl a, .int b => (if a then 1 else 0) == b
  | .int a, .bl b => a == (if b then 1 else 0)
  | .int a, .int b => a == b
  | .str a, .str b => a == b
  | _, _ => false
theorem eqAt_V {A : Around} {s : Shared} {y x : V} {u v : Value} (ry : RelV y u) (rx : RelV x v) (fy : flatV y = true) (fx : flatV x = true) : SeqAt.EqAt A s u v (eqV y x) := by
  cases y with
  | non =>
    cases ry
    cases x with
    | non => cases rx; exact SeqAt.EqAt.same _
    | bl b => cases rx; exact SeqAt.EqAt.none_bool b
    | int b => obtain ⟨t, rfl⟩ := rx; exact SeqAt.EqAt.none_int b t
    | str b => obtain ⟨t, rfl⟩ := rx; exact SeqAt.EqAt.none_str b t
    | _ => exact absurd (show false = true from fx) Bool.false_ne_true
  | bl a =>
    cases ry
    cases x with
    | non => cases rx; exact SeqAt.EqAt.bool_none a
    | bl b => cases rx; exact SeqAt.EqAt.bool_bool a b
    | int b => obtain ⟨t, rfl⟩ := rx; exact SeqAt.EqAt.bool_int a b t
    | str b => obtain ⟨t, rfl⟩ := rx; exact SeqAt.EqAt.bool_str a b t
    | _ => exact absurd (show false = true from fx) Bool.false_ne_true
  | int a =>
    obtain ⟨t', rfl⟩ := ry
    cases x with
    | non => cases rx; exact SeqAt.EqAt.int_none a t'
    | bl b => cases rx; exact SeqAt.EqAt.int_bool a t' b
    | int b => obtain ⟨t, rfl⟩ := rx; exact SeqAt.EqAt.int_int a t' b t
    | str b => obtain ⟨t, rfl⟩ := rx; exact SeqAt.EqAt.int_str a t' b t
    | _ => exact absurd (show false = true from fx) Bool.false_ne_true
  | str a =>
    obtain ⟨t', rfl⟩ := ry
    cases x with
    | non => cases rx; exact SeqAt.EqAt.str_none a t'
    | bl b => cases rx; exact SeqAt.EqAt.str_bool a t' b
    | int b => obtain ⟨t, rfl⟩ := rx; exact SeqAt.EqAt.str_int a t' b t
    | str b => obtain ⟨t, rfl⟩ := rx; exact SeqAt.EqAt.str_str a t' b t
    | _ => exact absurd (show false = true from fx) Bool.false_ne_true
  | _ => exact absurd (show false = true from fy) Bool.false_ne_true
/-! ### len, list(x), tuple(x) of any list or tuple that is read -/
theorem call_len_seq : CallR X (.builtin "len") (fun xs H Q => ∃ p ys, xs = [.ref p] ∧ (SqL X.K H p ys ∨ SqT X.K H p ys) ∧ Q (.int ys.length) H) := by
  intro pins s σ H xs us Q I r h
  obtain ⟨p, ys, rfl, hq, q⟩ := h
  obtain ⟨u, rfl, rx⟩ := vals1 r
  cases rx
  have hn := line63
  rcases hq with hq | hq
  · obtain ⟨its, r', pl, hz⟩ := I.list hq
    have hlen := r'.length
    exact Calls.call_len_list pl.isList (by simp only [List.size_toArray] <;> omega) ⟨.int ys.length, H, I.tok _, ⟨s.toks + 1, by rw [List.size_toArray, hlen]⟩, q⟩
  · obtain ⟨its, r', pl, hz⟩ := I.tuple hq
    have hlen := r'.length
    exact len_tuple pl (by simp only [List.size_toArray] <;> omega) ⟨.int ys.length, H, I.tok _, ⟨s.toks + 1, by rw [List.size_toArray, hlen]⟩, q⟩
theorem call_len_str : CallR X (.builtin "len") (fun xs H Q => ∃ z, xs = [.str z] ∧ z.length ≤ sizeLine ∧ Q (.int z.length) H) := by
  intro pins s σ H xs us Q I r h
  obtain ⟨z, rfl, hz, q⟩ := h
  obtain ⟨u, rfl, t, rfl⟩ := vals1 r
  have hn := line63
  exact len_str (by omega) ⟨.int z.length, H, I.tok _, ⟨_, rfl⟩, q⟩
/-! ### the call of a builtin's method: o.m(..) -/
/-- the value is of that builtin type -/
def tyV (K : PySem.W.Frag) (T : String) (x : V) (H : Hp) : Prop := match x with
  | .str _ => T = "str"
  | .int _ => T = "int"
  | .ref p => (T = "list" ∧ ∃ xs, SqL K H p xs) ∨ (T = "tuple" ∧ ∃ o, K.lookup p = some o ∧ o.cls = .type "tuple" ∧ o.dict = none) ∨
      (T = "dict" ∧ ((∃ kvs, H p = some (.dK kvs)) ∨ ∃ kvs, H p = some (.dT kvs))) ∨ (T = "set" ∧ ∃ S n, H p = some (.set S n))
  | _ => False
theorem tyV_is {pins : List (Addr × Obj)} {σ : St} {H : Hp} {s : Shared} {T : String} {x : V} {v : Value} (I : Inv X pins σ H s) (r : RelV x v) (ty : tyV X.K T x H) :
    s.TypeIs v T ∧ ∀ a, v = .ref a → ∃ ob, s.heap.get? a = some ob ∧ ob.dict = none := by
  cases x with
  | str z =>
    obtain ⟨t, rfl⟩ := r
    cases (show T = "str" from ty)
    exact ⟨typeIs_str s z t, fun _ e => nomatch e⟩
  | int i =>
    obtain ⟨t, rfl⟩ := r
    cases (show T = "int" from ty)
    exact ⟨typeIs_int s i t, fun _ e => nomatch e⟩
  | ref p =>
    cases r
    rcases ty with ⟨rfl, xs, hq⟩ | ⟨rfl, o, hk, hc, hd⟩ | ⟨rfl, hk⟩ | ⟨rfl, S, n, hk⟩
    · obtain ⟨its, _, pl, _⟩ := I.list hq
      refine ⟨pl.isList.typeIs, fun a e => ?_⟩
      cases e
      obtain ⟨o, n, e, c, hd, _⟩ := pl
      exact ⟨o, e, hd⟩
    · refine ⟨⟨o, I.kIn p o hk, hc⟩, fun a e => ?_⟩
      cases e
      exact ⟨o, I.kIn _ o hk, hd⟩
    · have z : ∃ o, s.heap.get? p = some o ∧ o.ExactDict := by
        rcases hk with ⟨kvs, hk⟩ | ⟨kvs, hk⟩
        · obtain ⟨_, _, _, _, o, _, _, e, ex, _⟩ := I.hok p _ hk
          exact ⟨o, e, ex⟩
        · obtain ⟨_, _, _, _, o, _, _, e, ex, _⟩ := I.hok p _ hk
          exact ⟨o, e, ex⟩
      obtain ⟨o, e, ex⟩ := z
      refine ⟨⟨o, e, ex.1⟩, fun a e2 => ?_⟩
      cases e2
      exact ⟨o, e, ex.2.1⟩
    · obtain ⟨o, _, _, _, e, ex, _⟩ := I.hok p _ hk
      refine ⟨⟨o, e, ex.1⟩, fun a e2 => ?_⟩
      cases e2
      exact ⟨o, e, ex.2.1⟩
  | _ => exact False.elim ty
def tBM0 (K : PySem.W.Frag) (T : String) (r : V → List V → Hp → VK → Prop) (to : TE) : TE := fun σ H Q => to σ H fun x H1 => tyV K T x H1 ∧ r x [] H1 Q
def tBM (K : PySem.W.Frag) (T : String) (r : V → List V → Hp → VK → Prop) (to : TE) (t : TA) : TE := fun σ H Q => to σ H fun x H1 => tyV K T x H1 ∧ t σ H1 fun xs H2 => r x xs H2 Q
variable {o e : Expr} {es : List Expr} {to : TE} {t : TA} {name : Str} {apos cpos : Pos} {T id : String} {r : V → List V → Hp → VK → Prop}
theorem pe_bm0 (pa : PlainAttrs T) (slot : Slot T name id) (hty : typeOf (.builtin id) = pure (.type "method_descriptor")) (hm : MtR X id r) (ho : PE X o to)
    (hbase : attributeBase o name X.env (eval o X.env) = eval o X.env := by rfl) (hline : (apos.endLine == cpos.line) = true := by rfl) : PE X (.Call (.Attribute o name apos) [] [] cpos) (tBM0 X.K T r to) := by
  intro pins s σ H Q I h
  refine wpAny_Call_method0_late hbase hline (thn (ho pins s σ H _ I h) fun v s1 ⟨x, H1, I1, r1, ty, q1⟩ => ?_)
  obtain ⟨h1, h2⟩ := tyV_is I1 r1 ty
  exact ⟨T, id, pa, slot, hty, h1, h2, Calls.callWith_builtin rfl (PySem.evalArgs_none (hm pins s1 σ H1 x [] v [] Q I1 r1 .nil q1))⟩
theorem pe_bm (pa : PlainAttrs T) (slot : Slot T name id) (hty : typeOf (.builtin id) = pure (.type "method_descriptor")) (hm : MtR X id r) (ho : PE X o to) (ha : PA X (e :: es) t)
    (hbase : attributeBase o name X.env (eval o X.env) = eval o X.env := by rfl)
    (hfew : ((backTo cpos (starEach (e :: es) X.env)).all (fun x => !x.1) && (backToKw cpos (keywordEach [] X.env)).all (fun x => x.1.isSome)
      && decide ((e :: es).length + ([] : List Keyword).length + (if ([] : List Keyword).isEmpty then 0 else 1) < 30)) = true := by rfl)
    (hline : (apos.endLine == cpos.line) = true := by rfl) (hs : starEach (e :: es) X.env = (false, eval e X.env) :: starEach es X.env := by rfl) (hplain : (backTo cpos (starEach es X.env)).any (·.1) = false := by rfl) :
    PE X (.Call (.Attribute o name apos) (e :: es) [] cpos) (tBM X.K T r to t) := by
  intro pins s σ H Q I h
  refine wpAny_Call_method_late hbase hfew hline rfl (thn (ho pins s σ H _ I h) fun v s1 ⟨x, H1, I1, r1, ty, q1⟩ => ?_)
  obtain ⟨h1, h2⟩ := tyV_is I1 r1 ty
  refine ⟨T, id, pa, slot, hty, h1, h2, ?_⟩
  have hA := ha cpos pins s1 σ H1 _ I1 q1
  rw [hs] at hA ⊢
  refine Calls.callWith_builtin (by show (false || (backTo cpos (starEach es X.env)).any (·.1)) = false; rw [hplain] <;> rfl) (Calls.evalArgs_plain ?_)
  exact thn hA fun us s2 ⟨vs, H2, I2, r2, q2⟩ => hm pins s2 σ H2 x vs v us Q I2 r1 r2 q2
/- xs.append(e), list.index on a module's tuple .. are MtR facts of 06m -/
end
end L2

namespace L2
open PySem PySem.Spec PyProof.Rows

def MtM (X : Cx) (id : String) (r : V → List V → Hp → VK → Prop) : Prop :=
  ∀ (pins : List (Addr × Obj)) (s : Shared) (σ : St) (H : Hp) (x : V) (xs : List V) (v : Value) (us : List Value) (Q : VK), Inv X pins σ H s → RelV x v → Vals xs us → r x xs H Q →
    wpAny (model X.prog X.w) X.A (call (.builtin id) (v :: us)) (EP X pins σ Q) X.xe s

/-! ### lists of values -/
theorem Vals.one : ∀ {x : V} {us : List Value}, Vals [x] us → ∃ u, us = [u] ∧ RelV x u
  | _, _, .cons r .nil => ⟨_, rfl, r⟩
theorem Vals.two : ∀ {x y : V} {us : List Value}, Vals [x, y] us → ∃ u v, us = [u, v] ∧ RelV x u ∧ RelV y v
  | _, _, _, .cons r (.cons q .nil) => ⟨_, _, rfl, r, q⟩
theorem Vals.zero : ∀ {us : List Value}, Vals [] us → us = []
  | _, .nil => rfl
theorem Vals.dropLast {xs : List V} {us : List Value} (h : Vals xs us) : Vals xs.dropLast us.dropLast := by
  induction h with
  | nil => exact .nil
  | cons r t ih =>
    cases t with
    | nil => exact .nil
    | cons q t' => exact .cons r ih
theorem erase_last {α : Type} (l : List α) : l.eraseIdx (l.length - 1) = l.dropLast := by
  induction l with
  | nil => rfl
  | cons a r ih =>
    cases r with
    | nil => rfl
    | cons b r =>
      have e : (a :: b :: r).length - 1 = ((b :: r).length - 1) + 1 := by
        have h1 : (a :: b :: r).length = r.length + 2 := rfl
        have h2 : (b :: r).length = r.length + 1 := rfl
        omega
      rw [e, List.eraseIdx_cons_succ, ih]
      all_goals rfl
section
variable {X : Cx} {pins : List (Addr × Obj)} {σ : St} {H : Hp} {s : Shared} {l b : Addr} {xs ys zs : List V}

/-! ### the two steps: a tracked list is rewritten, a new list is laid -/
theorem Inv.lset {its its' : List Value} {n : Nat} {f : Array Value → Array Value} {t' : Nat} (I : Inv X pins σ H s) (hH : H l = some (.lst xs))
    (e : s.heap.get? l = some { cls := .type "list", data := .seq its.toArray n }) (hf : f its.toArray = its'.toArray) (hv : Vals ys its') (hz : ys.length ≤ sizeLine) :
    Inv X pins σ (upd H l (.lst ys)) { s with heap := s.heap.update l (Obj.mapSeq f), toks := t' } := by
  have q := PySem.IsL.update e f
  rw [hf] at q
  refine I.write (x := l) (e := l) (by rw [hH]; exact trivial) (.inl rfl) (fun b' u hb hu => (Heap.get?_update_other s.heap (Obj.mapSeq f) (Ne.symm hb)).trans hu) ⟨_, q⟩ ?_
  exact ⟨hz, its', _, hv, q⟩
theorem Inv.lnew {its : List Value} {t' : Nat} (I : Inv X pins σ H s) (hv : Vals ys its) (hz : ys.length ≤ sizeLine) :
    Inv X pins σ (upd H s.heap.objs.size (.lst ys)) { s with heap := s.heap.push { cls := .type "list", data := .seq its.toArray }, toks := t' } :=
  I.laid (fun _ _ q => Heap.get?_push_of_some _ q) (Nat.le_refl _) ⟨hz, its, 0, hv, Heap.get?_push_size _ rfl⟩
theorem Inv.fresh (I : Inv X pins σ H s) : H s.heap.objs.size = none := I.hok.fresh (Nat.le_refl _)
theorem Inv.lstM (I : Inv X pins σ H s) (hH : H l = some (.lst xs)) : xs.length ≤ sizeLine ∧ ∃ (its : List Value) (n : Nat), Vals xs its ∧ xs.length = its.length ∧ s.heap.get? l = some { cls := .type "list", data := .seq its.toArray n } := by
  obtain ⟨z, its, n, r, e⟩ := I.hok l _ hH
  exact ⟨z, its, n, r, r.length, e⟩

theorem notLongL {n : Nat} (h : n ≤ sizeLine) : Builtin.List.listTooLong n = false := by
  unfold Builtin.List.listTooLong
  exact decide_eq_false (by omega)
end

section
variable {X : Cx}

/-! ### methods -/
def rAppend : V → List V → Hp → VK → Prop := fun x vs H Q => ∃ l xs y, x = .ref l ∧ vs = [y] ∧ H l = some (.lst xs) ∧ xs.length < sizeLine ∧ Q .non (upd H l (.lst (xs ++ [y])))
theorem mt_append : MtM X "list.append" rAppend := by
  intro pins s σ H x vs v us Q I rx rv h
  obtain ⟨l, xs, y, rfl, rfl, hH, hz, q⟩ := h
  cases rx
  obtain ⟨u, rfl, ru⟩ := rv.one
  obtain ⟨z, its, n, r, hl, e⟩ := I.lstM hH
  refine call_meets F.slot_list_append ⟨_, e, rfl⟩ F.entry_list_append (F.args_list_append_2 _ _) (PySem.list_append l its.toArray n u (by rw [List.size_toArray]; omega)) ⟨e, ?_⟩
  refine ⟨.non, _, I.lset (its' := its ++ [u]) hH e (by simp) (r.append (.cons ru .nil)) ?_, rfl, q⟩
  rw [List.length_append, List.length_singleton]
  omega

def rPop : V → List V → Hp → VK → Prop := fun x vs H Q => ∃ l xs y, x = .ref l ∧ vs = [] ∧ H l = some (.lst xs) ∧ xs[xs.length - 1]? = some y ∧ Q y (upd H l (.lst xs.dropLast))
theorem mt_pop : MtM X "list.pop" rPop := by
  intro pins s σ H x vs v us Q I rx rv h
  obtain ⟨l, xs, y, rfl, rfl, hH, hy, q⟩ := h
  cases rx
  have hus := rv.zero
  subst hus
  obtain ⟨z, its, n, r, hl, e⟩ := I.lstM hH
  obtain ⟨u, hu, ru⟩ := r.get hy
  have hy' : its.toArray[its.toArray.size - 1]? = some u := by
    show its.toArray[its.length - 1]? = some u
    rw [← Array.getElem?_toList, ← hl]
    exact hu
  refine call_meets F.slot_list_pop ⟨_, e, rfl⟩ F.entry_list_pop (F.args_list_pop_1 _) (MeetsSeq.list_pop_last l its.toArray n u hy' (by rw [List.size_toArray]; omega)) ⟨e, ?_⟩
  refine ⟨y, _, I.lset (its' := its.dropLast) hH e ?_ r.dropLast ?_, ru, q⟩
  · show its.toArray.eraseIdxIfInBounds (its.toArray.size - 1) = its.dropLast.toArray
    rw [List.size_toArray, List.eraseIdxIfInBounds_toArray, erase_last]
  · rw [List.length_dropLast]
    omega

/-! ### list + list, list += list, list * int -/
def rCat : R2 := fun x y H Q => ∃ l b xs zs, x = .ref l ∧ y = .ref b ∧ H l = some (.lst xs) ∧ H b = some (.lst zs) ∧ xs.length + zs.length ≤ sizeLine ∧ ∀ p, H p = none → Q (.ref p) (upd H p (.lst (xs ++ zs)))
theorem op_cat : OpR X (binaryOp .Add) rCat := by
  intro pins s σ H x y v u Q I rx ry h
  obtain ⟨l, b, xs, zs, rfl, rfl, hH, hB, hz, q⟩ := h
  cases rx
  cases ry
  obtain ⟨z, its, n, r, hl, e⟩ := I.lstM hH
  obtain ⟨z2, its2, n2, r2, hl2, e2⟩ := I.lstM hB
  refine PySem.P.add_list e e2 ?_ (by rw [List.size_toArray, List.size_toArray]; omega)
  have ea : its.toArray ++ its2.toArray = (its ++ its2).toArray := by simp
  rw [ea]
  exact ⟨.ref _, _, I.lnew (t' := s.toks) (r.append r2) (by rw [List.length_append]; omega), rfl, q _ I.fresh⟩
/-! ### del xs[i] -/
end

/-! ### xs[a:b] = ys -/
section
variable {prog : Program} {w : World} {A : Around} {E : Value → Shared → Prop} {s : Shared}
end

section
variable {X : Cx}
end
end L2

namespace Att
open PySem PySem.W PySem.Calls PyProof.Rows

/-! ### the script -/
theorem ints_of_wellAll {P : Params} {h : Heap} : ∀ (ns : List Int) (vs : List Value), WellAll P h vs (ns.map WData.int) → IntsAre vs ns := by
  intro ns
  induction ns with
  | nil =>
    intro vs w
    rw [List.map_nil] at w
    cases w
    exact .nil
  | cons n ns ih =>
    intro vs w
    rw [List.map_cons] at w
    cases w with
    | cons a b =>
      cases a
      exact .cons _ _ (ih _ b)

theorem script_of {l : OpenLaw} {n : Nat} (hn : l.most = some n) {P : Params} {h : Heap} {args : List WData} {vals : List Value}
    (hpre : l.row.toRowW.claim.pre args = true) (hwl : WellAll P h vals args) :
    ∃ a vs ns, vals = [Value.ref a] ∧ args = [WData.list (ns.map WData.int)] ∧ h.get? a = some { cls := .type "list", data := .seq vs.toArray } ∧ IntsAre vs ns ∧ ns.length ≤ n := by
  have hsh : WShape.hasAll [] args [.list .int] = true := (pre_splitW hpre).1
  have hc : l.pre.holds [] { args := args } = true := (pre_splitW hpre).2
  obtain ⟨d, r, rfl, h1, h2⟩ := hasAllW_cons hsh
  obtain rfl := hasAllW_nil h2
  obtain ⟨xs, rfl, h3⟩ := hasW_list h1
  obtain ⟨ns, rfl⟩ := items_int h3
  have hlen : ns.length ≤ n := by
    unfold OpenLaw.pre at hc
    have h4 : (WTm.not (.lt (.lit (.int (n : Int))) (.len (.arg 0)))).holds [] { args := [.list (ns.map .int)] } = true := by
      have h4 := (holds_andW hc).1
      rw [hn] at h4
      exact h4
    have h5 := condW_of h4 (w_not (w_lt w_lit (w_len_list (w_arg rfl))))
    rw [List.length_map] at h5
    refine Nat.le_of_not_lt fun q => ?_
    have q' : (n : Int) < ((ns.length : Nat) : Int) := by omega
    first
      | (rw [decide_eq_true q'] at h5; exact absurd h5 (by decide))
      | (simp at h5; omega)
  cases hwl with
  | cons w1 w2 =>
    cases w2
    cases w1 with
    | list ho hall => exact ⟨_, _, ns, rfl, rfl, ho, ints_of_wellAll ns _ hall, hlen⟩

theorem post_true (l : OpenLaw) (args : List WData) : l.row.toRowW.claim.post args (.bool true) args = true :=
  postW_of (r := l.row.toRowW) (X := (true == true))
    (show WShape.has [] (.bool true) .bool = true by first | rfl | decide | simp [WShape.has, WShape.arms, WShape.armsAll])
    (show (WTm.eq .res (.lit (.bool true))).value [] { args := args, res := some (.bool true), after := args } = some (.bool (true == true)) from w_eq_bool (w_res rfl) w_lit) rfl

/-! ### the attachment: holds_open's last premise (the goal 'hc' behind k_head) from a wpAny of the law's body -/
/-- the same from a codeAny of the CALL (for a layer whose function contracts speak of calls) -/
theorem attach_call {l : OpenLaw} {n : Nat} {q : Program} {loose : List Str} {XP : (Str → Option Value) → Heap → Prop} {YP : World → Heap → Prop} {d : DefRec}
    (hn : l.most = some n) (hdf : d.params.defaults = [])
    (call : ∀ (w : World) (s₀ s₁ : Shared) (mg mb : Str → Option Value) (fa : Addr) (o : Obj) (pm cd doc : Value) (a : Addr) (vs : List Value) (ns : List Int),
      Ground q loose [] XP w s₀ mg mb s₁.heap → YP w s₁.heap →
      s₁.heap.get? fa = some o → o.data = .func (docDef d.name d.params d.body d.scope pm cd doc) → s₁.heap.CodeRec cd d.name → mg d.name = some (.ref fa) →
      s₁.heap.get? a = some { cls := .type "list", data := .seq vs.toArray } → IntsAre vs ns → ns.length ≤ n → s₁.gens = #[] →
      codeAny (model l.prog w) callerA (.call (.ref fa) ⟨[.ref a], []⟩) (fun r s' => r = .ok (.ret (.bool true)) ∧ OldK s₁.heap s'.heap ∧ s'.os = s₁.os ∧ AllBare s'.gens) s₁) :
    WalkO q loose XP YP l.row.toRowW d [] (fun f vs => PySem.call f vs) := by
  intro w s₀ s₁ mg mb G Y fa o pm cd doc dV kV ho hd hcd hD hmg hg args vals as hpre hlay hrd hwl hlo
  obtain rfl : dV = .none := Dflts.none hD hdf
  obtain rfl : kV = .none := Dflts.noKw hD
  obtain ⟨a, vs, ns, rfl, rfl, hobj, hints, hlen⟩ := script_of hn hpre hwl
  refine enter_call (codeAny_mono (call w s₀ s₁ mg mb fa o pm cd doc a vs ns G Y ho (fd_plain hd) hcd hmg hobj hints hlen hg) fun r s' hq => ?_)
  obtain ⟨rfl, h2, h3, h4⟩ := hq
  exact ⟨.inl ⟨.bool true, .bool true, [], rfl, fun _ => rfl, .bool true, post_true l _, fun _ => ⟨List.Pairwise.nil, fun _ hm => (nomatch hm)⟩⟩, h2, h3, h4⟩

/-! ### rules over ANY heap (no ledger) from facts about the written part K: the library's own take a ledger (News) for what they write -/
section
variable {prog : Program} {w : World} {A : Around} {E : Value → Shared → Prop} {s : Shared} {K : Frag}

/-! the whole heap as the ledger: makes every rule that writes through a ledger a rule over any heap -/
end
end Att

namespace L2
open PySem PySem.Spec PyProof.Rows

theorem vals_ints : ∀ {vs : List Value} {ns : List Int}, IntsAre vs ns → Vals (ns.map V.int) vs
  | _, _, .nil => .nil
  | _, _, .cons n t h => .cons ⟨t, rfl⟩ (vals_ints h)

/-- nothing is tracked but the script, known to the object (or it is an object of the module) -/
def Only (H : Hp) : Prop := ∀ b, H b = none ∨ ∃ o xs, H b = some (.frz o (.lst xs))

/-- THE HEAD: the law's promise, at the heap behind the top. F, the promise of the law's def, may use that base is part of the heap (so K.In base, base.Ns mainGlobals mg stand in Mod) -/
theorem law_call {P : Program} {w : World} {K : PySem.W.Frag} {mg mb : Str → Option Value} {CX : CXT} {k : Nat} {fa a : Addr} {fd : FuncData} {x : Str} {sp : Sp} {s₁ : Shared} {vs : List Value} {ns : List Int}
    (KX : K.In s₁.heap) (hns : s₁.heap.Ns mainGlobals mg) (hb : s₁.heap.Ns builtinsNs mb) (hbb : ∀ x : Str, x ≠ "__name__" → mb x = bootBuiltins x) (hlim : s₁.heap.NoLimit) (hg : s₁.gens = #[])
    (ha : s₁.heap.get? a = some { cls := .type "list", data := .seq vs.toArray }) (hi : IntsAre vs ns) (hl : ns.length ≤ sizeLine) (hr : Room k callerA)
    (F : ∀ base : Heap, K.In base → base.Ns mainGlobals mg → FnOk P w K mg base CX k fa fd [x] sp) (hbind : ∀ (s : Shared) (u : Value), BindsTo s fd ⟨[u], []⟩ [(x, u)])
    (hsp : ∀ H : Hp, Only H → SqL K H a (ns.map V.int) → sp [.ref a] H (fun v _ => v = .bl true) fun _ _ _ => False)
    (hCX : ∀ H e s', CX [] H s₁ (fun _ _ _ => False) e s' → False) :
    codeAny (model P w) callerA (.call (.ref fa) ⟨[.ref a], []⟩) (fun r s' => r = .ok (.ret (.bool true)) ∧ OldK s₁.heap s'.heap ∧ s'.os = s₁.os ∧ AllBare s'.gens) s₁ := by
  have rv := vals_ints hi
  have lenV := hi.length
  -- from an abstract heap in which nothing but the script may be tracked
  have core : ∀ H : Hp, Only H → SqL K H a (ns.map V.int) → HOk P w H s₁.heap → (∀ b, H b ≠ none → b = a) → (H a ≠ none → K.lookup a = none) →
      codeAny (model P w) callerA (.call (.ref fa) ⟨[.ref a], []⟩) (fun r s' => r = .ok (.ret (.bool true)) ∧ OldK s₁.heap s'.heap ∧ s'.os = s₁.os ∧ AllBare s'.gens) s₁ := by
    intro H hO hS hok hA hK
    have base_of : ∀ {b : Addr} {o : Obj}, s₁.heap.get? b = some o → H b = none → (hidT s₁.heap H).get? b = some o := fun e n => hidT_get e n
    have noA : ∀ {b : Addr} {o : Obj} {es : Array DictEntry} {ep : Nat}, s₁.heap.get? b = some o → o.data = .dict es ep → H b = none := fun {b o es ep} e d => by
      cases q : H b with
      | none => rfl
      | some u =>
        have e' : b = a := hA b (by rw [q]; simp)
        subst e'
        rw [ha] at e; cases e
        have d' : Data.seq vs.toArray _ = Data.dict es ep := d
        cases d'
    have nsK : ∀ {b : Addr} {m : Str → Option Value}, s₁.heap.Ns b m → (hidT s₁.heap H).Ns b m := fun {b m} ⟨o, es, ep, e, d, r⟩ => ⟨o, es, ep, base_of e (noA e d), d, r⟩
    have hKb : K.In (hidT s₁.heap H) := fun b o e => base_of (KX b o e) (by
      cases q : H b with
      | none => rfl
      | some u =>
        have e' : b = a := hA b (by rw [q]; simp)
        subst e'
        rw [hK (by rw [q]; simp)] at e; cases e)
    have hM : Mod K mg (hidT s₁.heap H) := ⟨hKb, nsK hns, ⟨mb, nsK hb, hbb⟩, let ⟨mc, h1, h2⟩ := hlim; ⟨mc, nsK h1, h2⟩⟩
    have e0 : Env0 P w K mg (hidT s₁.heap H) callerA [] s₁ H := ⟨rfl, hM, fun b o e => of_hidT e, Nat.le_of_eq (hidT_size _ _), trivial, fun b hb => absurd (show b ∈ ([] : List Addr) from hb) (by simp), hok, .of_eq hg⟩
    refine codeAny_mono ((F _ hKb (nsK hns)).run callerA [] s₁ H ⟨[.ref a], []⟩ [.ref a] [.ref a] _ _ hr e0 (hbind s₁ (.ref a)) (.cons rfl .nil) (hsp H hO hS)) fun r s' h => ?_
    cases r with
    | error e => exact (hCX H e s' h).elim
    | ok fl =>
      cases fl with
      | next => exact False.elim h
      | brk => exact False.elim h
      | cont => exact False.elim h
      | ret u =>
        obtain ⟨v, H', os, bare, un, hok', r', q⟩ := h
        have q' : v = .bl true := q
        subst q'
        obtain rfl : u = Value.bool true := r'
        refine ⟨rfl, OldK.of_keep fun b o e => ?_, os, bare⟩
        cases q : H b with
        | none => exact un.keep b o e q (by intro z; exact absurd (show b ∈ ([] : List Addr) from z) (by simp)) (by simp)
        | some u =>
          rcases hO b with z | ⟨ob, xs, z⟩
          · rw [q] at z; cases z
          · have z2 := un.frzs b ob _ z
            obtain ⟨e1, _⟩ := hok b _ z
            obtain ⟨e2, _⟩ := hok' b _ z2
            rw [e] at e1; cases e1
            exact e2
  cases hk : K.lookup a with
  | some o =>
    -- the script is one of the module's own objects
    have e := KX a o hk
    rw [ha] at e
    cases e
    refine core (fun _ => none) (fun _ => .inl rfl) (.inr ⟨_, vs.toArray, _, hk, rfl, rfl, rfl, by rw [List.size_toArray, lenV]; exact hl, by simpa using rv⟩) (fun b u z => by have z' : (none : Option HO) = some u := z; cases z') (fun b z => absurd rfl z) fun z => absurd rfl z
  | none =>
    refine core (fun b => if b = a then some (.frz { cls := .type "list", data := .seq vs.toArray } (.lst (ns.map V.int))) else none) (fun b => ?_) (.inl (.inr ⟨{ cls := .type "list", data := .seq vs.toArray }, if_pos rfl⟩)) (fun b u z => ?_) (fun b z => ?_) fun _ => hk
    · by_cases hb : b = a
      · exact .inr ⟨_, _, if_pos hb⟩
      · exact .inl (if_neg hb)
    · by_cases hb : b = a
      · have z' := (if_pos hb).symm.trans z
        cases z'
        subst hb
        exact ⟨ha, by rw [List.length_map]; exact hl, vs, _, rv, ha⟩
      · have z' := (if_neg hb).symm.trans z
        cases z'
    · by_cases hb : b = a
      · exact hb
      · exact absurd (if_neg hb) z
end L2

namespace L2
open PySem PySem.Spec PyProof.Rows

/-- the goal that k_head leaves (case hc), from the law's promise. F gives the function object fd (K's own) once, then the promise over every base -/
theorem walk_of {l : PySem.W.OpenLaw} {n k : Nat} {q : Program} {loose : List Str} {XP : (Str → Option Value) → Heap → Prop} {YP : World → Heap → Prop} {d : DefRec} {K : Params → PySem.W.Frag} {CX : World → CXT} {sp : World → Sp} {x : Str}
    (hn : l.most = some n) (hn2 : n ≤ sizeLine) (hdf : d.params.defaults = []) (hr : Room k callerA)
    (hY : ∀ (w : World) (h : Heap), YP w h → (K w.params).In h)
    (F : ∀ (w : World) (mg : Str → Option Value) (fa : Addr) (h : Heap), (K w.params).In h → h.Ns mainGlobals mg → mg d.name = some (.ref fa) →
      ∃ fd : FuncData, (∀ (s : Shared) (u : Value), BindsTo s fd ⟨[u], []⟩ [(x, u)]) ∧
        ∀ base : Heap, (K w.params).In base → base.Ns mainGlobals mg → FnOk l.prog w (K w.params) mg base (CX w) k fa fd [x] (sp w))
    (hsp : ∀ (w : World) (H : Hp) (a : Addr) (ns : List Int), ns.length ≤ n → Only H → SqL (K w.params) H a (ns.map V.int) → sp w [.ref a] H (fun v _ => v = .bl true) fun _ _ _ => False)
    (hCX : ∀ (w : World) (H : Hp) (s : Shared) (e : Value) (s' : Shared), CX w [] H s (fun _ _ _ => False) e s' → False) :
    PySem.W.WalkO q loose XP YP l.row.toRowW d [] (fun f vs => PySem.call f vs) := by
  refine Att.attach_call hn hdf fun w s₀ s₁ mg mb fa o pm cd doc a vs ns G Y ho hd hcd hmg hobj hints hlen hg => ?_
  have KX := hY w _ Y
  obtain ⟨fd, hb, hF⟩ := F w mg fa _ KX G.T.g hmg
  exact law_call KX G.T.g G.T.b G.T.builtins G.T.nolimit hg hobj hints (Nat.le_trans hlen hn2) hr hF hb (fun H hO hS => hsp w H a ns hlen hO hS) fun H e s' => hCX w H s₁ e s'
end L2

/-! SHORT WORDS over the layer: a def of the text, its body, what a loop and a test want. -/
namespace L2
open PySem PySem.Spec PyProof.Rows

/-! ### the text by places -/
/-- the j-th statement of a class's body -/
def inClass (s : Stmt) (j : Nat) : Stmt := match s with
  | .ClassDef _ _ _ body _ _ _ _ _ _ _ => body.getD j (.Pass ⟨0, 0, 0, 0⟩)
  | _ => .Pass ⟨0, 0, 0, 0⟩
def defArgs (s : Stmt) : Arguments := match s with
  | .FunctionDef _ a _ _ _ _ _ _ _ _ => a
  | _ => { posonlyargs := [], args := [], vararg := none, kwonlyargs := [], kw_defaults := [], kwarg := none, defaults := [] }
def defBody (s : Stmt) : List Stmt := match s with
  | .FunctionDef _ _ b _ _ _ _ _ _ _ => b
  | _ => []
def defScope (s : Stmt) : Scope := match s with
  | .FunctionDef _ _ _ _ _ _ sc _ _ _ => sc
  | _ => { kind := .function, names := [], isGenerator := false, isCoroutine := false }

/-! ### no exception leaves a def -/
abbrev CX0 : CXT := fun _ _ _ _ _ _ => False
abbrev E0 : XK := fun _ _ _ => False
theorem pass0 {X : Cx} : Passes CX0 X E0 := fun _ _ _ _ _ _ _ h => h.elim

/-! ### a def (or method) of the text as it stands behind the top -/
structure Fun (K : PySem.W.Frag) (x qual : Str) (st : Stmt) (f : Addr) (fd : FuncData) : Prop where
  ex : ∃ (oc : Value) (od : Option Addr) (kV doc pm : Value) (an : Option Addr) (cdv ct : Value) (osl : Array (Option Value)),
    fd = PySem.W.fnOf x qual (defArgs st) (defBody st) (defScope st) .none kV doc pm an cdv ct ∧ K.lookup f = some ⟨oc, od, .func fd, osl⟩ ∧ PySem.W.codeIn K cdv qual = true
  kp : PySem.W.keepIn K (.ref f) = true
section
variable {P : Program} {w : World} {K : PySem.W.Frag} {mg : Str → Option Value} {base : Heap}
/-- THE RULE for a def: its body as a term of rules, and the reading of that term -/
theorem Fun.ok {x qual : Str} {st : Stmt} {f : Addr} {fd : FuncData} {N ps : List Str} {k : Nat} {sp : Sp} (F : Fun K x qual st f fd) (S : FnScope N ps (defScope st)) (len : ∀ vs H Q E, sp vs H Q E → vs.length = ps.length)
    (hbody : ∀ (cdv : Value) (A : Around) (outer : List Env) (s : Shared) (H : Hp) (vs : List V) (Q : VK) (E : XK), Room k (A.deeper (envOfC qual (defScope st) s.heap.objs.size f cdv)) → sp vs H Q E →
      ∃ t, PSs (cxOf CX0 P w K mg base N qual (defScope st) f cdv A outer s H E).nox (defBody st) t ∧ t { nx := fun _ H' => Q .non H', rt := Q } (start N vs) H) : FnOk P w K mg base CX0 (k + 1) f fd ps sp := by
  obtain ⟨oc, od, kV, doc, pm, an, cdv, ct, osl, rfl, lk, hcd⟩ := F.ex
  refine fn_of lk hcd S len fun A outer s H vs Q E hr hsp => ?_
  obtain ⟨t, h, q⟩ := hbody cdv A outer s H vs Q E hr hsp
  exact ⟨t, h.nox, q⟩
/-- how its arguments bind (no defaults): h is «fun _ _ _ _ _ _ us hl => match us, hl with | [_, _], _ => rfl», one _ a parameter -/
theorem Fun.binds {x qual : Str} {st : Stmt} {f : Addr} {fd : FuncData} {ps : List Str} (F : Fun K x qual st f fd)
    (h : ∀ (kV doc pm : Value) (an : Option Addr) (cdv ct : Value) (us : List Value), us.length = ps.length → bindArgs (PySem.W.fnOf x qual (defArgs st) (defBody st) (defScope st) .none kV doc pm an cdv ct) ⟨us, []⟩ = pure (ps.zip us)) : Binds K fd ps [] := by
  obtain ⟨oc, od, kV, doc, pm, an, cdv, ct, osl, rfl, lk, hcd⟩ := F.ex
  exact .all (h kV doc pm an cdv ct)
theorem fun_mk {x qual : Str} {st : Stmt} {f : Addr} {oc : Value} {od an : Option Addr} {osl : Array (Option Value)} {kV doc pm cdv ct : Value} (l : K.lookup f = some ⟨oc, od, .func (PySem.W.fnOf x qual (defArgs st) (defBody st) (defScope st) .none kV doc pm an cdv ct), osl⟩)
    (c : PySem.W.codeIn K cdv qual = true) (k : PySem.W.keepIn K (.ref f) = true) : Fun K x qual st f (PySem.W.fnOf x qual (defArgs st) (defBody st) (defScope st) .none kV doc pm an cdv ct) := ⟨⟨oc, od, kV, doc, pm, an, cdv, ct, osl, rfl, l, c⟩, k⟩
end
theorem hu_of {A : Around} {k : Nat} (hr : Room k A) : A.units + 1 < cLine := Nat.lt_of_le_of_lt (Nat.add_le_add_left (by decide : 1 ≤ 64) _) hr.units
/-! ### expressions in short: the name that stands in the i-th slot -/
section
variable {X : Cx}
theorem pv (i : Nat) {x : Str} {pos : Pos} (hN : X.N[i]? = some x := by rfl) (hv : Vis X.env.scope x := by first | exact Or.inl rfl | exact Or.inr (Or.inl rfl) | exact Or.inr (Or.inr rfl)) (hd : (x == ("__debug__" : Str)) = false := by decide)
    (hcd : (x == ("__classdict__" : Str)) = false := by decide) : PE X (.Name x pos) (tVar i) := pe_var hN hv hd hcd
end

/-! ### tests -/
theorem iteF {A B : Prop} (h : B) : if false = true then A else B := by
  rw [if_neg Bool.false_ne_true]
  exact h
theorem iteT {A B : Prop} (h : A) : if true = true then A else B := by
  rw [if_pos rfl]
  exact h
theorem ite2 {c A B : Prop} [Decidable c] (h1 : c → A) (h2 : ¬ c → B) : if c then A else B := by
  by_cases h : c
  · rw [if_pos h]
    exact h1 h
  · rw [if_neg h]
    exact h2 h
/-! ### heaps -/
/-- all that was tracked is as it was -/
def Same (H H' : Hp) : Prop := ∀ b o, H b = some o → H' b = some o
theorem Same.refl (H : Hp) : Same H H := fun _ _ h => h
theorem Same.trans {H H1 H2 : Hp} (a : Same H H1) (b : Same H1 H2) : Same H H2 := fun c o h => b c o (a c o h)
theorem Same.free {H H' : Hp} (e : Same H H') {l : Addr} (h : H' l = Option.none) : H l = Option.none := by
  cases q : H l with
  | none => rfl
  | some o =>
    rw [e l o q] at h
    cases h
theorem Same.seq {K : PySem.W.Frag} {H H' : Hp} {a : Addr} {xs : List V} (e : Same H H') (h : SqL K H a xs) : SqL K H' a xs := by
  rcases h with (h | ⟨o, h⟩) | h
  · exact .inl (.inl (e _ _ h))
  · exact .inl (.inr ⟨o, e _ _ h⟩)
  · exact .inr h

end L2

set_option linter.all false
set_option maxRecDepth 100000
set_option maxHeartbeats 4000000
/-! Comprehensions for the hand layer. -/
namespace L2
open PySem PySem.Spec PyProof.Rows

theorem closureFor_ok {scope : Scope} {env : Env} (h : ∀ y ∈ scope.names, y.2 = .free → ∃ c, env.cells.lookup y.1 = some c) :
    ∃ cl, closureFor scope env = pure cl ∧ (∀ y ∈ scope.names, y.2 = NameKind.free → cl.lookup y.1 = env.cells.lookup y.1) ∧ (∀ x c, cl.lookup x = some c → env.cells.lookup x = some c) := by
  have key : ∀ (names : List (Str × NameKind)) (acc : List (Str × Addr)) (f : Str × NameKind → List (Str × Addr) → Sem (ForInStep (List (Str × Addr)))),
      (∀ x cs, f x cs = if (x.2 == NameKind.free) = true then (cellOf env x.1 >>= fun a => pure (ForInStep.yield ((x.1, a) :: cs))) else pure (ForInStep.yield cs)) →
      (∀ y ∈ names, y.2 = .free → ∃ c, env.cells.lookup y.1 = some c) → (∀ x c, acc.lookup x = some c → env.cells.lookup x = some c) →
      ∃ cl, forIn names acc f = pure cl ∧ (∀ x c, acc.lookup x = some c → cl.lookup x = env.cells.lookup x) ∧ (∀ y ∈ names, y.2 = NameKind.free → cl.lookup y.1 = env.cells.lookup y.1) ∧ (∀ x c, cl.lookup x = some c → env.cells.lookup x = some c) := by
    intro names
    induction names with
    | nil =>
      intro acc f _ _ ha
      exact ⟨acc, rfl, fun x c e => by rw [e, ha x c e], fun _ h => (nomatch h), ha⟩
    | cons y r ih =>
      intro acc f hf hn ha
      obtain ⟨n, k⟩ := y
      rw [List.forIn_cons, hf]
      by_cases hk : k = .free
      · subst hk
        obtain ⟨c, hc⟩ := hn (n, .free) List.mem_cons_self rfl
        have hc' : cellOf env n = pure c := by unfold cellOf; rw [hc]
        have ha' : ∀ x d, ((n, c) :: acc).lookup x = some d → env.cells.lookup x = some d := fun x d e => by
          rw [List.lookup_cons] at e
          cases hx : x == n with
          | true =>
            rw [hx] at e
            have e' : c = d := Option.some.inj e
            have hx' : x = n := by simpa using hx
            rw [hx', hc, e']
          | false =>
            rw [hx] at e
            exact ha x d e
        obtain ⟨cl, e, h1, h2, h3⟩ := ih ((n, c) :: acc) f hf (fun y hy => hn y (List.mem_cons_of_mem _ hy)) ha'
        refine ⟨cl, ?_, fun x d ex => ?_, fun y hy hyf => ?_, h3⟩
        · rw [if_pos (by rfl)]
          show ((cellOf env n >>= fun a => pure (ForInStep.yield ((n, a) :: acc))) >>= _) = pure cl
          rw [hc', pure_bind, pure_bind]
          exact e
        · by_cases hxn : x = n
          · subst hxn
            exact h1 x c (by rw [List.lookup_cons, beq_self_eq_true])
          · refine h1 x d ?_
            rw [List.lookup_cons, beq_eq_false_iff_ne.mpr hxn]
            exact ex
        · rcases List.mem_cons.mp hy with rfl | hy
          · exact h1 _ c (by rw [List.lookup_cons, beq_self_eq_true])
          · exact h2 y hy hyf
      · have hb : (k == NameKind.free) = false := by simpa using hk
        obtain ⟨cl, e, h1, h2, h3⟩ := ih acc f hf (fun y hy => hn y (List.mem_cons_of_mem _ hy)) ha
        refine ⟨cl, ?_, h1, fun y hy hyf => ?_, h3⟩
        · show ((if (k == NameKind.free) = true then _ else pure (ForInStep.yield acc)) >>= _) = pure cl
          rw [if_neg (by rw [hb]; exact Bool.false_ne_true), pure_bind]
          exact e
        · rcases List.mem_cons.mp hy with rfl | hy
          · exact absurd hyf hk
          · exact h2 y hy hyf
  have z := key scope.names [] (fun x cs => if (x.2 == NameKind.free) = true then (cellOf env x.1 >>= fun a => pure (ForInStep.yield ((x.1, a) :: cs))) else pure (ForInStep.yield cs)) (fun _ _ => rfl) h (fun _ _ e => (nomatch e))
  obtain ⟨cl, e, _, h2, h3⟩ := z
  refine ⟨cl, ?_, h2, h3⟩
  show (forIn scope.names [] _ >>= pure) = pure cl
  exact (congrArg (· >>= pure) e).trans (pure_bind _ _)

/-- the context of a comprehension's block -/
abbrev compX (X : Cx) (scope : Scope) (N : List Str) (s₀ : Shared) (H₀ : Hp) (cl : List (Str × Addr)) (C : Addr) (ex : List Addr) : Cx :=
  { prog := X.prog, w := X.w, K := X.K, mg := X.mg, base := X.base, A := X.A, N := N, s₀ := s₀, H₀ := H₀, env := compEnvC scope cl C X.env,
    outer := X.stack, stack := X.stack, ex := ex, fn := fun _ => false, calm := X.calm, pn := [], xe := fun _ _ => False }

/-- the loop of a comprehension, an item at a time; nothing raises -/
theorem compLoop_any {prog : Program} {w : World} {A : Around} {R : Result → Shared → Prop} {s : Shared} {elt target iter : Expr} {ifs : List Expr} {scope : Scope} {pos : Pos} {it acc : Value} {env : Env} (I : Nat → Shared → Prop)
    (turn : ∀ n s, I n s → wpAny (model prog w) A (pyNext it) (fun r s₁ => match r with
      | none => R (.ok .next) s₁
      | some v => wpAny (model prog w) A (letOwnedTupleGo target it v) (fun _ s₁' => wpAny (model prog w) A (assign target env v) (fun _ s₂ =>
          wpAny (model prog w) A (forIn ifs true fun c r => if r = true then do let ok ← isTrue c env (eval c env); pure (ForInStep.yield ok) else pure (ForInStep.yield r)) (fun ok s₃ =>
            if ok = true then wpAny (model prog w) A (eval elt env) (fun x s₄ =>
              wpAny (model prog w) A (call (.builtin "list.append") [acc, x]) (fun _ s₅ => ∃ m, m < n ∧ I m s₅) (fun _ _ => False) s₄) (fun _ _ => False) s₃
            else ∃ m, m < n ∧ I m s₃) (fun _ _ => False) s₂) (fun _ _ => False) s₁') (fun _ _ => False) s₁) (fun _ _ => False) s)
    (n : Nat) (h : I n s) :
    codeAny (model prog w) A (.compLoop (.ListComp elt [⟨target, iter, ifs, 0⟩] scope pos) 0 it acc env) R s := by
  refine codeAny_loop rfl I (fun n s hI => ?_) n h
  show wpAny _ A ((compTurn (.ListComp elt [⟨target, iter, ifs, 0⟩] scope pos) 0 it acc env).onRaise (fun x => do noteFrame x env; theTreesLotGoes x)) _ _ s
  refine wpAny_noted ?_
  rw [compTurn_list]
  refine wpAny_bind (wpAny_standAt (wpAny_bind (wpAny_mono (turn n s hI) (fun r s₁ h₁ => ?_) fun _ _ z => z.elim)))
  cases r with
  | none => exact wpAny_pure h₁
  | some v =>
    refine wpAny_bind (wpAny_mono h₁ (fun _ s₁' h₁' => ?_) fun _ _ z => z.elim)
    refine wpAny_bind (wpAny_mono h₁' (fun _ s₂ h₂ => wpAny_bind (wpAny_mono h₂ (fun ok s₃ h₃ => ?_) fun _ _ z => z.elim)) fun _ _ z => z.elim)
    cases ok with
    | false => exact wpAny_pure ⟨rfl, h₃⟩
    | true =>
      exact wpAny_bind (wpAny_bind (wpAny_mono h₃ (fun x s₄ h₄ => wpAny_bind (wpAny_mono h₄ (fun _ s₅ h₅ => wpAny_pure (wpAny_pure ⟨rfl, h₅⟩)) fun _ _ z => z.elim)) fun _ _ z => z.elim))

/-- the tests of a comprehension -/
def PIfs (X : Cx) (ifs : List Expr) (t : TT) : Prop :=
  ∀ (pins : List (Addr × Obj)) (s : Shared) (σ : St) (H : Hp) (Q : Bool → Hp → Prop), Inv X pins σ H s → t σ H Q →
    wpAny (model X.prog X.w) X.A (forIn ifs true fun c r => if r = true then do let ok ← isTrue c X.env (eval c X.env); pure (ForInStep.yield ok) else pure (ForInStep.yield r)) (TP X pins σ Q) X.xe s
def tYes : TT := fun _ H Q => Q true H
theorem pifs_nil {X : Cx} : PIfs X [] tYes := fun _ _ _ H _ I h => wpAny_tests_nil ⟨H, I, h⟩
theorem pifs_one {X : Cx} {c : Expr} {t : TT} (hc : PT X c t) : PIfs X [c] t := fun pins s σ H Q I h => wpAny_tests_one (hc pins s σ H Q I h)

/-- what the loop of a comprehension is worth -/
def CompW (J : It) (H1 : Hp) (σ0 : St) (g : TG) (tc : TT) (te : TE) (Q : VK) : Prop := ∀ D, H1 D = none →
  ∃ W : Nat → Nat → St → List V → Hp → Prop, (∃ m, W 0 m σ0 [] (upd H1 D (.lst []))) ∧ ∀ i m σ1 ys H, W i m σ1 ys H →
    (J.stop i H ∧ Q (.ref D) H) ∨ (J.go i H ∧ ∀ x H', J.yld i H x H' → g x σ1 H' fun σ2 H2 => tc σ2 H2 fun b H3 =>
       if b = true then te σ2 H3 fun y H4 => H4 D = some (.lst ys) ∧ ys.length < sizeLine ∧ ∃ m', m' < m ∧ W (i + 1) m' σ2 (ys ++ [y]) (upd H4 D (.lst (ys ++ [y])))
       else ∃ m', m' < m ∧ W (i + 1) m' σ2 ys H3)
/-- what a comprehension is worth -/
def tComp (wi : TI) (sub : St → St) (g : TG) (tc : TT) (te : TE) : TE := fun σ H Q => wi σ H fun J H1 => CompW J H1 (sub σ) g tc te Q
/-- the block's slots: those that it takes over from the frame -/
def subσ (js : List (Option Nat)) (σ : St) : St := js.map fun o => o.bind fun j => (σ[j]?).join

theorem lookup_relabel_free {env : Env} : ∀ {names : List (Str × NameKind)} {x : Str}, names.lookup x = some .free →
    (names.map fun (n, k) => if (k == NameKind.free && env.scope.kind == .function && env.kindOf n == some .cell) then (n, NameKind.cell) else (n, k)).lookup x = some .cell ∨
    (names.map fun (n, k) => if (k == NameKind.free && env.scope.kind == .function && env.kindOf n == some .cell) then (n, NameKind.cell) else (n, k)).lookup x = some .free
  | [], _, h => by simp at h
  | (n, k) :: r, x, h => by
    have ih := @lookup_relabel_free env r x
    show List.lookup x ((if (k == NameKind.free && env.scope.kind == .function && env.kindOf n == some .cell) = true then (n, NameKind.cell) else (n, k)) :: _) = _ ∨ List.lookup x ((if (k == NameKind.free && env.scope.kind == .function && env.kindOf n == some .cell) = true then (n, NameKind.cell) else (n, k)) :: _) = _
    cases hx : x == n with
    | true =>
      simp only [List.lookup_cons, hx] at h
      cases h
      by_cases hc : (NameKind.free == NameKind.free && env.scope.kind == .function && env.kindOf n == some .cell) = true
      · rw [if_pos hc]; left; simp only [List.lookup_cons, hx]
      · rw [if_neg hc]; right; simp only [List.lookup_cons, hx]
    | false =>
      simp only [List.lookup_cons, hx] at h
      by_cases hc : (k == NameKind.free && env.scope.kind == .function && env.kindOf n == some .cell) = true
      · rw [if_pos hc]; simp only [List.lookup_cons, hx]; exact ih h
      · rw [if_neg hc]; simp only [List.lookup_cons, hx]; exact ih h
/-- a name of the block that is a cell or free there was free in its scope -/
theorem relabel_back {env : Env} : ∀ {names : List (Str × NameKind)} {x : Str}, (∀ y ∈ names, y.2 ≠ NameKind.cell) →
    ((names.map fun (n, k) => if (k == NameKind.free && env.scope.kind == .function && env.kindOf n == some .cell) then (n, NameKind.cell) else (n, k)).lookup x = some .cell ∨
    (names.map fun (n, k) => if (k == NameKind.free && env.scope.kind == .function && env.kindOf n == some .cell) then (n, NameKind.cell) else (n, k)).lookup x = some .free) → (x, NameKind.free) ∈ names
  | [], _, _, h => by simp at h
  | (n, k) :: r, x, hn, h => by
    have ih := @relabel_back env r x fun y hy => hn y (List.mem_cons_of_mem _ hy)
    have hk : k ≠ .cell := hn (n, k) List.mem_cons_self
    change List.lookup x ((if (k == NameKind.free && env.scope.kind == .function && env.kindOf n == some .cell) = true then (n, NameKind.cell) else (n, k)) :: _) = _ ∨ List.lookup x ((if (k == NameKind.free && env.scope.kind == .function && env.kindOf n == some .cell) = true then (n, NameKind.cell) else (n, k)) :: _) = _ at h
    cases hx : x == n with
    | true =>
      have hx' : x = n := by simpa using hx
      subst hx'
      by_cases hc : (k == NameKind.free && env.scope.kind == .function && env.kindOf x == some .cell) = true
      · have : k = .free := by
          have := (Bool.and_eq_true _ _).mp ((Bool.and_eq_true _ _).mp hc).1
          simpa using this.1
        subst this
        exact List.mem_cons_self
      · rw [if_neg hc] at h
        simp only [List.lookup_cons, beq_self_eq_true] at h
        rcases h with h | h
        · exact absurd (Option.some.inj h) hk
        · have := Option.some.inj h
          subst this
          exact List.mem_cons_self
    | false =>
      by_cases hc : (k == NameKind.free && env.scope.kind == .function && env.kindOf n == some .cell) = true
      · rw [if_pos hc] at h; simp only [List.lookup_cons, hx] at h; exact List.mem_cons_of_mem _ (ih h)
      · rw [if_neg hc] at h; simp only [List.lookup_cons, hx] at h; exact List.mem_cons_of_mem _ (ih h)

section
variable {X : Cx} {elt tg iter : Expr} {ifs : List Expr} {scope : Scope} {pos : Pos} {N : List Str} {js : List (Option Nat)} {wi : TI} {g : TG} {tc : TT} {te : TE}
/-- the scope of a comprehension in a frame of scope osc and names ON: no cells of its own; its free names are the frame's cells; the slots taken over bear their names -/
structure CompScope (osc : Scope) (ON : List Str) (scope : Scope) (N : List Str) (js : List (Option Nat)) : Prop where
  kind : scope.kind = .function
  cell : ∀ y ∈ scope.names, y.2 ≠ .cell
  names : ∀ y ∈ scope.names, y.2 = .local → scope.names.lookup y.1 = some .local
  free : ∀ y ∈ scope.names, y.2 = .free → osc.names.lookup y.1 = some .cell ∨ osc.names.lookup y.1 = some .free
  len : js.length = N.length
  slots : (js.zip N).all (fun p => match p.1 with | none => true | some j => decide (ON[j]? = some p.2) && decide (scope.names.lookup p.2 = some .free)) = true
theorem CompScope.sub {osc : Scope} {ON : List Str} {scope : Scope} {N : List Str} {js : List (Option Nat)} (cs : CompScope osc ON scope N js) : ∀ (i j : Nat), js[i]? = some (some j) → ∃ x, N[i]? = some x ∧ ON[j]? = some x ∧ scope.names.lookup x = some .free := by
  intro i j h
  have hi : i < js.length := (List.getElem?_eq_some_iff.mp h).1
  have hN : N[i]? = some (N[i]'(by rw [← cs.len]; exact hi)) := List.getElem?_eq_getElem _
  have hz : (js.zip N)[i]? = some (some j, N[i]'(by rw [← cs.len]; exact hi)) := by
    rw [List.getElem?_zip_eq_some]
    exact ⟨h, hN⟩
  have hm := List.all_eq_true.mp cs.slots _ (List.mem_of_getElem? hz)
  have hm2 := (Bool.and_eq_true _ _).mp hm
  exact ⟨_, hN, of_decide_eq_true hm2.1, of_decide_eq_true hm2.2⟩

theorem mem_of_lookup {α : Type} : ∀ {l : List (Str × α)} {x : Str} {k : α}, l.lookup x = some k → (x, k) ∈ l
  | [], _, _, h => by simp at h
  | (n, v) :: r, x, k, h => by
    rw [List.lookup_cons] at h
    cases hx : x == n with
    | true =>
      rw [hx] at h
      have hx' : x = n := by simpa using hx
      have : v = k := Option.some.inj h
      subst hx' this
      exact List.mem_cons_self
    | false =>
      rw [hx] at h
      exact List.mem_cons_of_mem _ (mem_of_lookup h)

theorem pe_comp {osc : Scope} {ON : List Str} (cs : CompScope osc ON scope N js) (ho : X.env.scope = osc) (hON : X.N = ON) (hc : X.calm = true) (hi : PI X tg iter wi)
    (hg : ∀ s₀ H₀ cl C ex, PG (compX X scope N s₀ H₀ cl C ex) tg g) (hif : ∀ s₀ H₀ cl C ex, PIfs (compX X scope N s₀ H₀ cl C ex) ifs tc) (he : ∀ s₀ H₀ cl C ex, PE (compX X scope N s₀ H₀ cl C ex) elt te)
    (hs : ∀ x, foldedSetIterable iter X.env x = pure x := by intro _; rfl) : PE X (.ListComp elt [⟨tg, iter, ifs, 0⟩] scope pos) (tComp wi (subσ js) g tc te) := by
  intro pins s σ H Q I h
  subst ho hON
  obtain ⟨cl, hcl, cl1, cl2⟩ := closureFor_ok (scope := scope) (env := X.env) fun y hy hf => I.ok.has y.1 (cs.free y hy hf)
  rw [eval_ListComp]
  refine wpAny_comprehension_free (use := none) rfl hs hcl cs.kind cs.names ?_
  refine thn (hi pins s σ H _ I h) fun v s1 h1 => thn h1 fun itv s2 h2 => ?_
  obtain ⟨it, fp, tn, J, H2, e, I2, T, st2, f2, hW⟩ := h2
  subst e
  have hD0 : H2 s2.heap.objs.size = none := I2.hok.fresh (Nat.le_refl _)
  obtain ⟨W, ⟨m0, w0⟩, turn⟩ := hW s2.heap.objs.size hD0
  have I3 := I2.lnew (t' := s2.toks) (ys := []) (its := []) .nil (Nat.zero_le _)
  refine wpAny_newObj_type (wpAny_newFunctionEnv cs.cell (by intro y hy; simp at hy) (fun h₁ hns₁ hsb₁ => ?_) cs.kind)
  dsimp only at hns₁ hsb₁ ⊢
  -- the state with the new list: s3
  obtain ⟨s3, hs3⟩ : ∃ s3 : Shared, s3 = { s2 with heap := s2.heap.push { cls := .type "list", data := .seq ([] : List Value).toArray }, toks := s2.toks } := ⟨_, rfl⟩
  rw [← hs3] at I3
  have e3 : s3.heap = s2.heap.push { cls := .type "list", dict := none, data := .seq ([] : List Value).toArray } := by rw [hs3]
  have e3o : s3.os = s2.os := by rw [hs3]
  have e3g : s3.gens = s2.gens := by rw [hs3]
  rw [← e3] at hns₁ hsb₁ ⊢
  obtain ⟨H3, hH3⟩ : ∃ H3 : Hp, H3 = upd H2 s2.heap.objs.size (.lst []) := ⟨_, rfl⟩
  rw [← hH3] at I3 w0
  have up1 : ∀ b o, s2.heap.get? b = some o → s3.heap.get? b = some o := fun b o q => by rw [e3]; exact Heap.get?_push_of_some _ q
  have up2 : ∀ b o, s3.heap.get? b = some o → h₁.get? b = some o := fun b o q => hsb₁.extBut b o (Nat.ne_of_lt (Heap.lt_size q)) (Heap.get?_push_of_some _ q)
  have fpo : ∀ b ∈ fp, ∃ o, s3.heap.get? b = some o := fun b hb => by
    obtain ⟨o, ho, _⟩ := T.obj 0 _ st2 b hb
    exact ⟨o, up1 b o ho⟩
  have fr3 : ∀ b ∈ fp, H3 b = none := fun b hb => by
    obtain ⟨o, ho, _⟩ := T.obj 0 _ st2 b hb
    rw [hH3, upd_ne (Nat.ne_of_lt (Heap.lt_size ho))]
    exact (f2 b hb).1
  have fpC : ∀ b ∈ fp, b ≠ s3.heap.objs.size := fun b hb => by
    obtain ⟨o, ho⟩ := fpo b hb
    exact Nat.ne_of_lt (Heap.lt_size ho)
  have fpS : ∀ b ∈ fp, b ∉ frs X.stack := fun b hb hs' => by
    rcases List.mem_cons.mp (I2.stkSub b hs') with z | z
    · exact (f2 b hb).2.1 z
    · exact (f2 b hb).2.2.1 z
  have ok' : (compX X scope N s3 H3 cl s3.heap.objs.size fp).Ok := by
    refine ⟨I.ok.mod, cs.kind, I.ok.glob, I.ok.blt, Nat.le_refl _, fun x y c e1 e2 => I.ok.inj x y c (cl2 x c e1) (cl2 y c e2), fun x hx => ?_, fun x c hf => (nomatch hf), I.ok.hd, I.ok.frames, .inl rfl, fun b hb => ⟨fpC b hb, fun x c e => (f2 b hb).2.2.2.2.1 x c (cl2 x c e)⟩,
      I3.bs, Nat.le_trans I.ok.bsz I3.sz, fun b o e hb => ?_, fun b hb => fpS b hb, I3.stack, I3.stkFree⟩
    · have hm : (x, NameKind.free) ∈ scope.names := relabel_back cs.cell hx
      obtain ⟨c, hc⟩ := I.ok.has x (cs.free _ hm rfl)
      exact ⟨c, (cl1 _ hm rfl).trans hc⟩
    · rcases (f2 b hb).2.2.2.1 with z | z
      · exact I.ok.noex b o e z
      · exact absurd (Nat.lt_of_lt_of_le (Heap.lt_size e) (Nat.le_trans I.ok.bsz z)) (Nat.lt_irrefl _)
  have cellK : ∀ c v, s3.heap.IsCell c v → h₁.IsCell c v := fun c v ⟨o, ho, hd⟩ => ⟨o, up2 c o ho, hd⟩
  have I4 : ∀ t : Nat, Inv (compX X scope N s3 H3 cl s3.heap.objs.size fp) [] (subσ js σ) H3 { s2 with heap := h₁, toks := t } := fun t => by
    refine ⟨ok', e3o.symm, I2.bare, Un.kept up2, ⟨_, hns₁, fun i x v hi hv hx => ?_⟩, fun x c e => ?_, I3.hok.fresh (Nat.le_refl _), fun x c e => I3.freeC x c (cl2 x c e), fun p hp => (nomatch hp), I3.hok.kept up2, ?_⟩
    · -- a slot taken over
      have hv' : ∃ j, js[i]? = some (some j) ∧ σ[j]? = some (some v) := by
        unfold subσ at hv
        rw [List.getElem?_map] at hv
        cases hj : js[i]? with
        | none => rw [hj] at hv; cases hv
        | some o =>
          rw [hj] at hv
          cases o with
          | none => cases hv
          | some j =>
            refine ⟨j, rfl, ?_⟩
            have hv2 : (σ[j]?).join = some v := Option.some.inj hv
            cases hs2 : σ[j]? with
            | none => rw [hs2] at hv2; cases hv2
            | some u => rw [hs2] at hv2; exact congrArg some hv2
      obtain ⟨j, hj, hσ⟩ := hv'
      obtain ⟨x', h1', h2', h3'⟩ := cs.sub i j hj
      have hxx : x = x' := Option.some.inj (hi.symm.trans h1')
      subst hxx
      have hm : (x, NameKind.free) ∈ scope.names := mem_of_lookup h3'
      have hk := cs.free _ hm rfl
      obtain ⟨m, hn, hl⟩ := id I3.loc
      obtain ⟨u, ru, lk⟩ := hl j x v h2' hσ (by rcases hk with z | z; exact .inr (.inl z); exact .inr (.inr z))
      refine ⟨u, ru, ?_⟩
      rcases lk with ⟨k1, _⟩ | ⟨k1, c, e1, z⟩
      · rcases hk with z | z <;> (rw [show X.env.kindOf x = _ from z] at k1; cases k1)
      · exact .inr ⟨lookup_relabel_free h3', c, (cl1 _ hm rfl).trans e1, cellK c _ z⟩
    · obtain ⟨v, z⟩ := I3.cell x c (cl2 x c e)
      exact ⟨v, cellK c v z⟩
    · unfold subσ
      rw [List.length_map]
      exact cs.len
  have hst₁ : tn 0 h₁ := T.keep 0 _ _ st2 fun b hb o q => up2 b o (up1 b o q)
  have stat : ∀ {H' : Hp}, (∀ b ∈ fp, H' b = none) → ∀ b ∈ fp, FpOk (compX X scope N s3 H3 cl s3.heap.objs.size fp) [] H' b := fun hn b hb =>
    ⟨hn b hb, fpC b hb, fpS b hb, .inl hb, fun x c e => (f2 b hb).2.2.2.2.1 x c (cl2 x c e), fun p hp => (nomatch hp)⟩
  have loop : ∀ s4 : Shared, (∃ t, s4 = { s2 with heap := h₁, toks := t }) →
      codeAny (model X.prog X.w) X.A (.compLoop (.ListComp elt [⟨tg, iter, ifs, 0⟩] scope pos) 0 (.ref it) (.ref s2.heap.objs.size) (compEnvC scope cl s3.heap.objs.size X.env))
        (compPost (model X.prog X.w) X.A X.xe none (EP X pins σ Q) (.ref s2.heap.objs.size) s3.heap.objs.size) s4 := by
    rintro s4 ⟨t, rfl⟩
    refine compLoop_any (fun n s' => ∃ i σ' ys H', Inv (compX X scope N s3 H3 cl s3.heap.objs.size fp) [] σ' H' s' ∧ tn i s'.heap ∧ (∀ b ∈ fp, H' b = none) ∧ W i n σ' ys H') ?_ m0 ⟨0, _, [], H3, I4 t, hst₁, fr3, w0⟩
    rintro n s5 ⟨i, σ5, ys, H5, I5, st5, fr5, w5⟩
    rcases turn i n σ5 ys H5 w5 with ⟨stop, qn⟩ | ⟨go, step⟩
    · refine thn (T.done (compX X scope N s3 H3 cl s3.heap.objs.size fp) rfl rfl rfl hc i [] s5 σ5 H5 _ I5 (stat fr5) st5 stop) fun r s6 ⟨hr, I6⟩ => ?_
      subst hr
      obtain ⟨m, hn, _⟩ := id I6.loc
      refine ⟨m, hn, fun h' hs' => ⟨.ref s2.heap.objs.size, H5, ?_, rfl, qn⟩⟩
      have neC : ∀ b o, s3.heap.get? b = some o → b ≠ s3.heap.objs.size := fun b o q => Nat.ne_of_lt (Heap.lt_size q)
      have un : Un (frs X.stack) fp H3 H5 s3.heap h' :=
        ⟨fun b o q n1 hb hx => (hs'.2 b (neC b o q)).trans (I6.base.keep b o q n1 hb hx),
         fun b o q n1 hb hx => by
           obtain ⟨sl, e⟩ := I6.base.slot b o q n1 hb hx
           exact ⟨sl, (hs'.2 b (neC b o q)).trans e⟩,
         fun b o q n1 hx => I6.base.free b o q n1 hx,
         fun b o q hx => by
           obtain ⟨o', e⟩ := I6.base.there b o q hx
           exact ⟨o', (hs'.2 b (neC b o q)).trans e⟩,
         I6.base.tups, I6.base.frzs, I6.base.tbls⟩
      refine I3.call' (ch := fp) (s' := { s6 with heap := h' }) I6.os un (fun b ob e => ?_) I6.bare (fun b hb => ⟨(f2 b hb).2.2.2.1, (f2 b hb).2.1, (f2 b hb).2.2.2.2.1, (f2 b hb).2.2.2.2.2⟩)
      refine (I6.hok b ob e).stay (fun c w' hc' q => (hs'.2 c ?_).trans q) (fun _ q => q) fun _ _ q => q
      rintro rfl
      have fC : H5 s3.heap.objs.size = none := I6.free
      rcases hc' with z | z
      · rw [← z, fC] at e; cases e
      · rw [fC] at z; cases z
    · refine thn (T.item (compX X scope N s3 H3 cl s3.heap.objs.size fp) rfl rfl rfl hc i [] s5 σ5 H5 _ I5 (stat fr5) st5 go) fun r s6 ⟨u, hr, h6⟩ => ?_
      subst hr
      refine thn h6 fun _ s7 ⟨x, H7, I7, r7, y7, st7, fr7⟩ => ?_
      have I7' := I7.pinned (stat fr7) (T.obj _ _ st7)
      refine thn (hg _ _ _ _ _ _ s7 σ5 H7 x u _ I7' r7 (step x H7 y7)) fun _ s8 ⟨σ8, H8, I8, q8⟩ => ?_
      refine thn (hif _ _ _ _ _ _ s8 σ8 H8 _ I8 q8) fun ok s9 ⟨H9, I9, q9⟩ => ?_
      have again : ∀ {σ' : St} {H' : Hp} {s' : Shared}, Inv (compX X scope N s3 H3 cl s3.heap.objs.size fp) ([] ++ pinsAt fp s7.heap) σ' H' s' →
          Inv (compX X scope N s3 H3 cl s3.heap.objs.size fp) [] σ' H' s' ∧ tn (i + 1) s'.heap ∧ ∀ b ∈ fp, H' b = none := fun {σ' H' s'} I' => by
        refine ⟨I'.unpinned, T.keep _ _ _ st7 fun b hb o e => (I'.pin (b, o) (List.mem_append_right _ (List.mem_append_right _ (mem_pinsAt hb e)))).1, fun b hb => ?_⟩
        obtain ⟨o, e, d⟩ := T.obj _ _ st7 b hb
        exact (I'.pin (b, o) (List.mem_append_right _ (List.mem_append_right _ (mem_pinsAt hb e)))).2.1
      cases ok with
      | false =>
        rw [if_neg Bool.false_ne_true] at q9 ⊢
        obtain ⟨m', hm, w9⟩ := q9
        obtain ⟨a1, a2, a3⟩ := again I9
        exact ⟨m', hm, i + 1, σ8, ys, H9, a1, a2, a3, w9⟩
      | true =>
        rw [if_pos rfl] at q9 ⊢
        refine thn (he _ _ _ _ _ _ s9 σ8 H9 _ I9 q9) fun yv s10 ⟨y, H10, I10, r10, q10⟩ => ?_
        obtain ⟨hD, hz, m', hm, w10⟩ := q10
        refine thn (mt_append (X := compX X scope N s3 H3 cl s3.heap.objs.size fp) _ s10 σ8 H10 (.ref s2.heap.objs.size) [y] (.ref s2.heap.objs.size) [yv] (fun v H' => H' = upd H10 s2.heap.objs.size (.lst (ys ++ [y]))) I10 rfl (.cons r10 .nil)
          ⟨s2.heap.objs.size, ys, y, rfl, rfl, hD, hz, rfl⟩) fun _ s11 ⟨v11, H11, I11, _, e11⟩ => ?_
        have e11' : H11 = upd H10 s2.heap.objs.size (.lst (ys ++ [y])) := e11
        subst e11'
        obtain ⟨a1, a2, a3⟩ := again I11
        exact ⟨m', hm, i + 1, σ8, ys ++ [y], _, a1, a2, a3, w10⟩
  exact codeAny_compStart_list (loop _ ⟨_, rfl⟩) (T.self X.A 0 _ _ _ hst₁ (loop _ ⟨_, rfl⟩))
end

/-! ### the forms one uses -/
/-- an iterator that hands out xs, in this order, whatever grows beside it -/
structure Hands (J : It) (H0 : Hp) (xs : List V) : Prop where
  go : ∀ i H, Same H0 H → i < xs.length → J.go i H
  yld : ∀ i H x H', Same H0 H → i < xs.length → J.yld i H x H' → H' = H ∧ xs[i]? = some x
  stop : ∀ H, Same H0 H → J.stop xs.length H
theorem same_new {H : Hp} {p : Addr} (h : H p = none) (o : HO) : Same H (upd H p o) := fun b u q => by rw [upd_ne (ne_of_none q h)]; exact q
theorem Same.upd {H H' : Hp} {p : Addr} {o : HO} (s : Same H H') (h : H p = none) : Same H (upd H' p o) := fun b u q => by rw [upd_ne (ne_of_none q h)]; exact s b u q

/-- [e for x in xs if c]: what is told of each item; the slot of x is k -/
theorem comp_by {J : It} {H : Hp} {xs : List V} {σ0 : St} {k : Nat} {tc : TT} {te : TE} {Q : VK} (p : V → Bool) (f : V → V) (hJ : Hands J H xs) (hx : xs.length ≤ 1000000)
    (hc : ∀ x ∈ xs, ∀ H', Same H H' → ∀ R : Bool → Hp → Prop, (∀ H'', Same H' H'' → R (p x) H'') → tc (σ0.set k (some x)) H' R)
    (he : ∀ x ∈ xs, p x = true → ∀ H', Same H H' → ∀ R : VK, (∀ H'', Same H' H'' → R (f x) H'') → te (σ0.set k (some x)) H' R)
    (hQ : ∀ D H', H D = none → Same H H' → H' D = some (.lst ((xs.filter p).map f)) → Q (.ref D) H') :
    CompW J H σ0 (gName k) tc te Q := by
  intro D hD
  refine ⟨fun i m σ1 ys H' => m = xs.length - i ∧ i ≤ xs.length ∧ (σ1 = σ0 ∨ ∃ v, σ1 = σ0.set k v) ∧ ys = ((xs.take i).filter p).map f ∧ H' D = some (.lst ys) ∧ Same H H', ⟨xs.length, by simp, Nat.zero_le _, .inl rfl, rfl, upd_same, same_new hD _⟩, ?_⟩
  rintro i m σ1 ys H' ⟨rfl, hi, hσ, rfl, hDD, hs⟩
  by_cases hlt : i < xs.length
  · refine .inr ⟨hJ.go i H' hs hlt, fun x H'' hy => ?_⟩
    obtain ⟨e1, hx1⟩ := hJ.yld i H' x H'' hs hlt hy
    subst e1
    have hm : x ∈ xs := List.mem_of_getElem? hx1
    have hset : σ1.set k (some x) = σ0.set k (some x) := by
      rcases hσ with rfl | ⟨v, rfl⟩
      · rfl
      · rw [List.set_set]
    show tc (σ1.set k (some x)) H'' _
    rw [hset]
    have tk : ((xs.take (i + 1)).filter p).map f = ((xs.take i).filter p).map f ++ (if p x = true then [f x] else []) := by
      rw [List.take_add_one, hx1, List.filter_append, List.map_append]
      cases hp : p x <;> simp [hp]
    refine hc x hm H'' hs _ fun H3 s3 => ?_
    have s03 : Same H H3 := hs.trans s3
    have lenk : (((xs.take i).filter p).map f).length < sizeLine := by
      have h1 := List.length_filter_le p (xs.take i)
      rw [List.length_take] at h1
      rw [List.length_map]
      have : (1000001 : Nat) ≤ sizeLine := by decide
      omega
    refine ite2 (fun hp => ?_) (fun hp => ?_)
    · refine he x hm hp H3 s03 _ fun H4 s4 => ⟨s4 _ _ (s3 _ _ hDD), lenk, xs.length - (i + 1), by omega, rfl, hlt, .inr ⟨_, rfl⟩, ?_, ?_, ?_⟩
      · rw [tk, if_pos hp]
      · exact upd_same
      · exact (s03.trans s4).upd hD
    · refine ⟨xs.length - (i + 1), by omega, rfl, hlt, .inr ⟨_, rfl⟩, ?_, s3 _ _ hDD, s03⟩
      rw [tk, if_neg hp, List.append_nil]
  · have e : i = xs.length := by omega
    subst e
    refine .inl ⟨hJ.stop H' hs, hQ D H' hD hs ?_⟩
    rw [hDD, List.take_length]
/-- [e for x in xs] -/
theorem comp_map {J : It} {H : Hp} {xs : List V} {σ0 : St} {k : Nat} {te : TE} {Q : VK} (f : V → V) (hJ : Hands J H xs) (hx : xs.length ≤ 1000000)
    (he : ∀ x ∈ xs, ∀ H', Same H H' → ∀ R : VK, (∀ H'', Same H' H'' → R (f x) H'') → te (σ0.set k (some x)) H' R)
    (hQ : ∀ D H', H D = none → Same H H' → H' D = some (.lst (xs.map f)) → Q (.ref D) H') :
    CompW J H σ0 (gName k) tYes te Q :=
  comp_by (fun _ => true) f hJ hx (fun x _ H' _ R hR => hR H' (Same.refl _)) (fun x hm _ => he x hm) (fun D H' h1 h2 h3 => hQ D H' h1 h2 (by rw [h3, List.filter_eq_self.mpr fun _ _ => rfl]))
end L2

set_option linter.all false
set_option maxRecDepth 100000
set_option maxHeartbeats 4000000
/-! Texts for the hand layer: signs walked, slices, join, zip of two texts, all, any, isinstance. -/
namespace L2
open PySem PySem.Spec PyProof.Rows

/-- a text by the list of its codes -/
abbrev T (l : List Nat) : V := .str ⟨l.toArray⟩
theorem T_len (l : List Nat) : (⟨l.toArray⟩ : Str).length = l.length := by simp [Str.length]
theorem T_app (a b : List Nat) : (⟨a.toArray⟩ : Str) ++ ⟨b.toArray⟩ = ⟨(a ++ b).toArray⟩ := by
  show (⟨a.toArray ++ b.toArray⟩ : Str) = _
  simp
section
variable {X : Cx}
theorem pe_txt {x : Str} {l : List Nat} {j pos} (h : x = ⟨l.toArray⟩) : PE X (.Constant (.str x) j pos) (tC (T l)) := by subst h; exact pe_str
/-- t + u -/
def rCatS : R2 := fun x y H Q => ∃ a b, x = T a ∧ y = T b ∧ a.length + b.length ≤ sizeLine ∧ Q (T (a ++ b)) H
theorem op_catS : OpR X (binaryOp .Add) rCatS := by
  intro pins s σ H x y v u Q I rx ry h
  obtain ⟨a, b, rfl, rfl, hz, q⟩ := h
  exact op_add_str pins s σ H _ _ v u Q I rx ry ⟨_, _, rfl, rfl, by rw [T_len, T_len]; exact hz, by rw [T_app]; exact q⟩
/-- t[i] -/
def rIxT' : R2 := fun x y H Q => ∃ l i c, x = T l ∧ y = .int i ∧ l.length ≤ sizeLine ∧ atI l i = some c ∧ Q (T [c]) H
theorem ix_txt : IxR X rIxT' := by
  intro value slice pins s σ H x y v u Q I rx ry h hs
  obtain ⟨l, i, c, rfl, rfl, hz, he, q⟩ := h
  exact ix_str value slice pins s σ H _ _ v u Q I rx ry ⟨_, i, c, rfl, rfl, by rw [T_len]; exact hz, by simpa using he, q⟩ hs
/-- len(t) -/
theorem call_lenS : CallR X (.builtin "len") (fun xs H Q => ∃ l, xs = [T l] ∧ l.length ≤ sizeLine ∧ Q (.int l.length) H) := by
  intro pins s σ H xs us Q I r h
  obtain ⟨l, rfl, hz, q⟩ := h
  exact call_len_str pins s σ H _ us Q I r ⟨_, rfl, by rw [T_len]; exact hz, by rw [T_len]; exact q⟩
end

/-! ### slices -/
def cutN {α : Type} (xs : List α) (lo hi : Option Int) : List α := (xs.drop (HT.sIx xs.length 0 lo)).take (HT.sIx xs.length xs.length hi - HT.sIx xs.length 0 lo)
def clipI (n : Nat) (d : Int) : Option Int → Int
  | none => d
  | some i => max 0 (min (if i < 0 then i + (n : Int) else i) (n : Int))
theorem clipI_eq (n d : Nat) (o : Option Int) : clipI n (d : Int) o = ((HT.sIx n d o : Nat) : Int) := by
  cases o with
  | none => rfl
  | some i =>
    show max 0 (min (if i < 0 then i + (n : Int) else i) (n : Int)) = (((if i < 0 then (i + (n : Int)).toNat else min i.toNat n) : Nat) : Int)
    by_cases hi : i < 0
    · rw [if_pos hi, if_pos hi]; omega
    · rw [if_neg hi, if_neg hi]; omega
theorem run_of (a b : Nat) : sliceRange (a : Int) (b : Int) 1 = (List.range (b - a)).map fun k => a + k := by
  unfold sliceRange
  simp only [show (1 : Int) > 0 by decide, if_true]
  have e1 : (if (a : Int) < (b : Int) then ((b : Int) - (a : Int) + 1 - 1) / 1 else 0).toNat = b - a := by
    split <;> simp <;> omega
  rw [e1]
  refine List.map_congr_left fun k _ => ?_
  omega
theorem strSlice_run (lo hi : Option Int) (n : Nat) : Builtin.Str.strSliceIndices lo hi 1 n = (List.range (HT.sIx n n hi - HT.sIx n 0 lo)).map fun k => HT.sIx n 0 lo + k := by
  have e : Builtin.Str.strSliceIndices lo hi 1 n = sliceRange (clipI n ((0 : Nat) : Int) lo) (clipI n ((n : Nat) : Int) hi) 1 := by
    cases lo <;> cases hi <;> rfl
  rw [e, clipI_eq, clipI_eq, run_of]
theorem pickN (l : List Nat) (i k : Nat) : ((List.range k).map fun m => i + m).filterMap (fun j => l.toArray[j]?) = (l.drop i).take k := by
  induction k generalizing i with
  | zero => simp
  | succ k ih =>
    rw [List.range_succ_eq_map, List.map_cons, List.filterMap_cons, List.map_map]
    have e : ((fun m => i + m) ∘ Nat.succ) = fun m => (i + 1) + m := by funext m; simp; omega
    rw [e, ih (i + 1)]
    by_cases h : i < l.length
    · have : l.toArray[i + 0]? = some l[i] := by simp [h]
      rw [this, List.drop_eq_getElem_cons h, List.take_succ_cons]
    · have : l.toArray[i + 0]? = none := by simp; omega
      rw [this, List.drop_eq_nil_of_le (by omega), List.drop_eq_nil_of_le (by omega)]
      simp
theorem cutN_full {α : Type} {l : List α} {lo hi : Option Int} (h : (cutN l lo hi).length = l.length) : cutN l lo hi = l := by
  unfold cutN at h ⊢
  rw [List.length_take, List.length_drop] at h
  have h2 := HT.sIx_le l.length l.length (Nat.le_refl _) hi
  by_cases h0 : l.length = 0
  · have : l = [] := List.length_eq_zero_iff.mp h0
    subst this; simp
  · have e0 : HT.sIx l.length 0 lo = 0 := by omega
    rw [e0, List.drop_zero]
    exact List.take_of_length_le (by omega)
theorem slice_txt (l : List Nat) (lo hi : Option Int) : Txt.slice ⟨l.toArray⟩ lo hi = ⟨(cutN l lo hi).toArray⟩ := by
  unfold Txt.slice
  rw [T_len, strSlice_run]
  have e := pickN l (HT.sIx l.length 0 lo) (HT.sIx l.length l.length hi - HT.sIx l.length 0 lo)
  have e2 : ((List.range (HT.sIx l.length l.length hi - HT.sIx l.length 0 lo)).map fun k => HT.sIx l.length 0 lo + k).filterMap (fun x => (⟨l.toArray⟩ : Str).cps[x]?) = cutN l lo hi := e
  by_cases h : ((1 : Int) == 1 && ((List.range (HT.sIx l.length l.length hi - HT.sIx l.length 0 lo)).map fun k => HT.sIx l.length 0 lo + k).length == l.length) = true
  · rw [if_pos h]
    have h' : HT.sIx l.length l.length hi - HT.sIx l.length 0 lo = l.length := by
      have := ((Bool.and_eq_true _ _).mp h).2
      simpa using this
    have : (cutN l lo hi).length = l.length := by
      unfold cutN
      rw [List.length_take, List.length_drop]
      have := HT.sIx_le l.length l.length (Nat.le_refl _) hi
      omega
    rw [cutN_full this]
  · rw [if_neg h, e2]
section
variable {X : Cx}
def rSlS : V → Option Int → Option Int → Hp → VK → Prop := fun x lo hi H Q => ∃ l, x = T l ∧ l.length ≤ sizeLine ∧ Q (T (cutN l lo hi)) H
theorem sl_txt : SlR X rSlS := by
  intro pins s σ H x v vl vu lo hi sl Q I rx hs pl pu h
  obtain ⟨l, rfl, hz, q⟩ := h
  obtain ⟨t, rfl⟩ := rx
  refine ⟨"str", _, F.slot_str_getitem.lookup, typeIs_str _ _ _, ?_⟩
  have fin : ∀ t' k, EP X pins σ Q (.str (Txt.slice ⟨l.toArray⟩ lo hi) t') { s with toks := k } := fun t' k => ⟨T (cutN l lo hi), H, I.tok _, ⟨t', by rw [slice_txt]⟩, q⟩
  have hlen : (Txt.slice ⟨l.toArray⟩ lo hi).length ≤ sizeLine := Nat.le_trans (Txt.slice_le _ _ _) (by rw [T_len]; exact hz)
  cases pl with
  | none =>
    cases pu with
    | none => exact wpAny_getItem_str_slice (l := none) (u := none) (st := none) hs rfl (post_val_or_str ⟨hlen, fin⟩)
    | int j uj => exact wpAny_getItem_str_slice (l := none) (u := some (j, uj)) (st := none) hs rfl (post_val_or_str ⟨hlen, fin⟩)
  | int i ui =>
    cases pu with
    | none => exact wpAny_getItem_str_slice (l := some (i, ui)) (u := none) (st := none) hs rfl (post_val_or_str ⟨hlen, fin⟩)
    | int j uj => exact wpAny_getItem_str_slice (l := some (i, ui)) (u := some (j, uj)) (st := none) hs rfl (post_val_or_str ⟨hlen, fin⟩)
end

/-! ### t[::-1] -/
/-! ### the signs of a text, one by one -/
def Its (l : List Nat) : It := ⟨fun i _ => i < l.length, fun i H x H' => H' = H ∧ ∃ c, l[i]? = some c ∧ x = T [c], fun i _ => l.length ≤ i⟩
theorem turn_txt {P : Program} {w : World} {K : PySem.W.Frag} {tg : Expr} {it : Addr} {l : List Nat} {t : Tok} {nm : String} (hn : nm = "str_ascii_iterator" ∨ nm = "str_iterator") :
    Turn P w K tg (Its l) [it] it (fun i h => h.IsStrIter it nm ⟨l.toArray⟩ t i) where
  mem := by simp
  obj := fun i h st b hb => by
    have e : b = it := by simpa using hb
    subst e
    obtain ⟨o, e, c, d⟩ := st
    exact ⟨o, e, fun v z => by rw [d] at z; cases z⟩
  keep := fun i h h' st k => by
    obtain ⟨o, e, r⟩ := st
    exact ⟨o, k it (by simp) o e, r⟩
  item := by
    intro X hP hw hK hc i pins s σ H E I hf st hg
    subst hP hw hK
    obtain ⟨f0, f1, f2, f3, f4, f5⟩ := hf it (by simp)
    have hi : i < l.length := hg
    have hx : (⟨l.toArray⟩ : Str).cps[i]? = some l[i] := by simp [hi]
    have fin : ∀ h', h'.IsStrIter it nm ⟨l.toArray⟩ t (i + 1) → Heap.SameBut it s.heap h' → ∃ u, (some (Value.str ⟨#[l[i]]⟩ s.toks) : Option Value) = some u ∧
        wpAny (model X.prog X.w) X.A (letOwnedTupleGo tg (.ref it) u) (fun _ s2 => ∃ x H', Inv X pins σ H' s2 ∧ RelV x u ∧ (Its l).yld i H x H' ∧ s2.heap.IsStrIter it nm ⟨l.toArray⟩ t (i + 1) ∧ ∀ b ∈ [it], H' b = none) E { s with heap := h', toks := s.toks + 1 } := fun h' st' sb => by
      have I1 : Inv X pins σ H { s with heap := h', toks := s.toks + 1 } := I.turned (t' := s.toks + 1) (fun b o hb e => (sb.2 b hb).trans e) f0 f1 f3 f4 f5
      obtain ⟨o, e, c, d⟩ := id st'
      refine ⟨_, rfl, go_of (s := { s with heap := h', toks := s.toks + 1 }) e c d (by rcases hn with rfl | rfl <;> decide) ⟨T [l[i]], H, I1, ⟨_, rfl⟩, ⟨rfl, l[i], by simp [hi], rfl⟩, st', fun b hb => (hf b hb).1⟩⟩
    rcases hn with rfl | rfl
    · exact wpAny_pyNext_ascii_item st hx fin
    · exact wpAny_pyNext_wide_item st hx fin
  done := by
    intro X hP hw hK hc i pins s σ H E I hf st hg
    subst hP hw hK
    obtain ⟨f0, f1, f2, f3, f4, f5⟩ := hf it (by simp)
    have hi : l.length ≤ i := hg
    have hx : (⟨l.toArray⟩ : Str).cps[i]? = none := by simp; exact hi
    have fin : ∀ h', Heap.ExtBut it s.heap h' → (none : Option Value) = none ∧ Inv X pins σ H { s with heap := h' } := fun h' eb => ⟨rfl, I.turned (t' := s.toks) (fun b o hb e => eb b o hb e) f0 f1 f3 f4 f5⟩
    rcases hn with rfl | rfl
    · exact wpAny_pyNext_ascii_end (I.ok.hd hc) st hx fin
    · exact wpAny_pyNext_wide_end (I.ok.hd hc) st hx fin
  self := fun _ _ _ _ _ st h => by
    rcases hn with rfl | rfl
    · exact wpAny_pyIter_striter_ascii st h
    · exact wpAny_pyIter_striter_wide st h
section
variable {X : Cx} {tg : Expr}
def iTxt (tl : TE) : TI := fun σ H R => tl σ H fun x H1 => ∃ l, x = T l ∧ R (Its l) H1
theorem pi_txt {e : Expr} {tl : TE} (hl : PE X e tl) : PI X tg e (iTxt tl) := by
  intro pins s σ H R I h
  refine thn (hl pins s σ H _ I h) fun v s1 ⟨x, H1, I1, r1, q1⟩ => ?_
  obtain ⟨l, e, q⟩ := q1
  subst e
  obtain ⟨t, rfl⟩ := r1
  have fin : ∀ nm : String, (nm = "str_ascii_iterator" ∨ nm = "str_iterator") → PIE X pins σ tg R (.ref s1.heap.objs.size) { s1 with heap := s1.heap.push { cls := .type nm, data := .fields #[.str ⟨l.toArray⟩ t, .int 0 0] } } := fun nm hn => by
    refine ⟨s1.heap.objs.size, [s1.heap.objs.size], _, _, H1, rfl, I1.kept (t' := s1.toks) fun b o e => Heap.get?_push_of_some _ e, turn_txt (t := t) hn, ⟨_, Heap.get?_push_size _ rfl, rfl, rfl⟩, fun b hb => ?_, q⟩
    have e : b = s1.heap.objs.size := by simpa using hb
    subst e
    exact I1.fpOk (Nat.le_refl _) (I1.hok.fresh (Nat.le_refl _))
  cases ha : (⟨l.toArray⟩ : Str).cps.all (· < 128) with
  | true => exact wpAny_pyIter_ascii ha (fin _ (.inl rfl))
  | false => exact wpAny_pyIter_wide ha (fin _ (.inr rfl))
end
theorem hands_txt {H : Hp} (l : List Nat) : Hands (Its l) H (l.map fun c => T [c]) where
  go := fun i H' s hi => by rw [List.length_map] at hi; exact hi
  yld := fun i H' x H'' s hi y => by
    obtain ⟨e, c, hc, rfl⟩ := y
    exact ⟨e, by rw [List.getElem?_map, hc]; rfl⟩
  stop := fun H' s => by rw [List.length_map]; exact Nat.le_refl _
/-- for x in text -/
theorem for_txt {l : List Nat} {g : TG} {tb : TS} {D : Ends} {σ : St} {H : Hp} (Pv : Nat → St → Hp → Prop) (h0 : Pv 0 σ H)
    (hs : ∀ i c σ H, l[i]? = some c → Pv i σ H → g (T [c]) σ H fun σ2 H2 => tb { D with nx := Pv (i + 1), ct := Pv (i + 1), bk := D.nx } σ2 H2) (hd : ∀ σ H, Pv l.length σ H → D.nx σ H) :
    ∃ W : Nat → Nat → St → Hp → Prop, (∃ m, W 0 m σ H) ∧ ∀ i m σ H, W i m σ H →
      ((Its l).stop i H ∧ D.nx σ H) ∨ ((Its l).go i H ∧ ∃ N : St → Hp → Prop, (∀ σ' H', N σ' H' → ∃ m', m' < m ∧ W (i + 1) m' σ' H') ∧ ∀ x H', (Its l).yld i H x H' → g x σ H' fun σ2 H2 => tb { D with nx := N, ct := N, bk := D.nx } σ2 H2) := by
  refine ⟨fun i m σ H => m = l.length - i ∧ i ≤ l.length ∧ Pv i σ H, ⟨l.length, by simp, Nat.zero_le _, h0⟩, ?_⟩
  rintro i m σ H ⟨rfl, hi, p⟩
  by_cases hlt : i < l.length
  · refine .inr ⟨hlt, Pv (i + 1), fun σ' H' p' => ⟨l.length - (i + 1), by omega, rfl, hlt, p'⟩, fun x H' y => ?_⟩
    obtain ⟨e, c, hc, rfl⟩ := y
    subst e
    exact hs i c σ _ hc p
  · have e : i = l.length := by omega
    subst e
    exact .inl ⟨Nat.le_refl _, hd σ H p⟩

/-! ### ''.join(list) -/
section
variable {X : Cx}
end
/-! ### all, any of a list of truths -/
theorem vals_bls {bs : List Bool} {us : List Value} (h : Vals (bs.map V.bl) us) : us = bs.map Value.bool := by
  induction bs generalizing us with
  | nil => cases h; rfl
  | cons b r ih =>
    cases h with
    | cons r1 r2 =>
      cases r1
      rw [ih r2]; rfl
theorem range_all (bs : List Bool) : (List.range bs.length).all (fun i => bs.getD i false) = bs.all id := by
  rw [Bool.eq_iff_iff, List.all_eq_true, List.all_eq_true]
  constructor
  · intro h b hb
    obtain ⟨i, hi, rfl⟩ := List.mem_iff_getElem.mp hb
    have := h i (List.mem_range.mpr hi)
    simpa [List.getD_eq_getElem?_getD, hi] using this
  · intro h i hi
    have hi := List.mem_range.mp hi
    have := h bs[i] (List.getElem_mem hi)
    simpa [List.getD_eq_getElem?_getD, hi] using this
theorem range_any (bs : List Bool) : (List.range bs.length).any (fun i => bs.getD i false) = bs.any id := by
  rw [Bool.eq_iff_iff, List.any_eq_true, List.any_eq_true]
  constructor
  · rintro ⟨i, hi, h⟩
    have hi := List.mem_range.mp hi
    refine ⟨bs[i], List.getElem_mem hi, ?_⟩
    simpa [List.getD_eq_getElem?_getD, hi] using h
  · rintro ⟨b, hb, h⟩
    obtain ⟨i, hi, rfl⟩ := List.mem_iff_getElem.mp hb
    refine ⟨i, List.mem_range.mpr hi, ?_⟩
    simpa [List.getD_eq_getElem?_getD, hi] using h
section
variable {X : Cx}
theorem truth_bls (bs : List Bool) {A : Around} : TruthOf X.prog X.w A (fun i v => (bs.map Value.bool).toArray[i]? = some v) (fun i => bs.getD i false) := fun i v s Q E hP hQ => by
  have : ∃ b, bs[i]? = some b ∧ v = .bool b := by
    have hP' : (bs.map Value.bool).toArray[i]? = some v := hP
    rw [List.getElem?_toArray, List.getElem?_map] at hP'
    cases hb : bs[i]? with
    | none => rw [hb] at hP'; cases hP'
    | some b => rw [hb] at hP'; exact ⟨b, rfl, (Option.some.inj hP').symm⟩
  obtain ⟨b, hb, rfl⟩ := this
  refine wpAny_truthy_bool ?_
  simpa [List.getD_eq_getElem?_getD, hb] using hQ
theorem call_allB (hc : X.calm = true) : CallR X (.builtin "all") (fun xs H Q => ∃ (D : Addr) (bs : List Bool), xs = [.ref D] ∧ SqL X.K H D (bs.map V.bl) ∧ Q (.bl (bs.all id)) H) := by
  intro pins s σ H xs us Q I r h
  obtain ⟨D, bs, rfl, hq, q⟩ := h
  obtain ⟨u, rfl, ru⟩ := r.one
  cases ru
  obtain ⟨its, rv, pl, _⟩ := I.list hq
  obtain rfl := vals_bls rv
  have hD : D < s.heap.objs.size := by obtain ⟨o, n, e, _⟩ := pl; exact Heap.lt_size e
  refine call_all_walk (wpAny_pyIter_list pl.isList ⟨s.heap.objs.size, _, _, _, _, _, fun i => bs.getD i false, rfl, Walks.list (A := X.A.in1) (I.ok.hd hc) _ D (Nat.ne_of_lt hD) (bs.map Value.bool).toArray,
    ⟨⟨_, Heap.get?_push_size _ rfl, rfl, rfl⟩, pl.isList.push _⟩, truth_bls bs, fun h' tk hk => ?_⟩)
  rw [List.size_toArray, List.length_map, range_all]
  exact ⟨.bl (bs.all id), H, I.kept fun b o e => hk b o (by simpa using Nat.ne_of_lt (Heap.lt_size e)) (Heap.get?_push_of_some _ e), rfl, q⟩
theorem call_anyB (hc : X.calm = true) : CallR X (.builtin "any") (fun xs H Q => ∃ (D : Addr) (bs : List Bool), xs = [.ref D] ∧ SqL X.K H D (bs.map V.bl) ∧ Q (.bl (bs.any id)) H) := by
  intro pins s σ H xs us Q I r h
  obtain ⟨D, bs, rfl, hq, q⟩ := h
  obtain ⟨u, rfl, ru⟩ := r.one
  cases ru
  obtain ⟨its, rv, pl, _⟩ := I.list hq
  obtain rfl := vals_bls rv
  have hD : D < s.heap.objs.size := by obtain ⟨o, n, e, _⟩ := pl; exact Heap.lt_size e
  refine call_any_walk (wpAny_pyIter_list pl.isList ⟨s.heap.objs.size, _, _, _, _, _, fun i => bs.getD i false, rfl, Walks.list (A := X.A.in1) (I.ok.hd hc) _ D (Nat.ne_of_lt hD) (bs.map Value.bool).toArray,
    ⟨⟨_, Heap.get?_push_size _ rfl, rfl, rfl⟩, pl.isList.push _⟩, truth_bls bs, fun h' tk hk => ?_⟩)
  rw [List.size_toArray, List.length_map, range_any]
  exact ⟨.bl (bs.any id), H, I.kept fun b o e => hk b o (by simpa using Nat.ne_of_lt (Heap.lt_size e)) (Heap.get?_push_of_some _ e), rfl, q⟩

/-! ### isinstance of plain values -/
theorem call_isBl : CallR X (.builtin "isinstance") (fun xs H Q => (∃ b, xs = [.bl b, .ty "bool"] ∧ Q (.bl true) H) ∨ (∃ i, xs = [.int i, .ty "bool"] ∧ Q (.bl false) H) ∨ (∃ i, xs = [.int i, .ty "int"] ∧ Q (.bl true) H) ∨ (∃ x, xs = [.str x, .ty "str"] ∧ Q (.bl true) H) ∨
    (∃ p ys, xs = [.ref p, .ty "list"] ∧ H p = some (.lst ys) ∧ Q (.bl true) H)) := by
  intro pins s σ H xs us Q I r h
  rcases h with ⟨b, rfl, q⟩ | ⟨i, rfl, q⟩ | ⟨i, rfl, q⟩ | ⟨x, rfl, q⟩ | ⟨p, ys, rfl, hp, q⟩
  · obtain ⟨u, v, rfl, r1, r2⟩ := r.two
    cases r1; cases r2
    exact PySem.W.kia_one PySem.W.kitx_bool I.kIn True.intro (by rfl) (fun z => nomatch z) fun tk => ⟨.bl true, H, I.tok _, rfl, q⟩
  · obtain ⟨u, v, rfl, r1, r2⟩ := r.two
    obtain ⟨t, rfl⟩ := r1; cases r2
    exact PySem.W.kia_one PySem.W.kitx_int I.kIn True.intro (by rfl) (fun z => nomatch z) fun tk => ⟨.bl false, H, I.tok _, rfl, q⟩
  · obtain ⟨u, v, rfl, r1, r2⟩ := r.two
    obtain ⟨t, rfl⟩ := r1; cases r2
    exact PySem.W.kia_one PySem.W.kitx_int I.kIn True.intro (by rfl) (fun z => nomatch z) fun tk => ⟨.bl true, H, I.tok _, rfl, q⟩
  · obtain ⟨u, v, rfl, r1, r2⟩ := r.two
    obtain ⟨t, rfl⟩ := r1; cases r2
    exact PySem.W.kia_one PySem.W.kitx_str I.kIn True.intro (by rfl) (fun z => nomatch z) fun tk => ⟨.bl true, H, I.tok _, rfl, q⟩
  · obtain ⟨u, v, rfl, r1, r2⟩ := r.two
    cases r1; cases r2
    obtain ⟨_, its, n, _, h1⟩ := I.hok p _ hp
    exact PySem.W.kia_one PySem.W.kitx_list I.kIn ⟨_, h1, rfl⟩ (by rfl) (fun z => nomatch z) fun tk => ⟨.bl true, H, I.tok _, rfl, q⟩
end
end L2

set_option linter.all false
set_option maxRecDepth 100000
set_option maxHeartbeats 4000000
/-! zip of two texts. -/
namespace L2
open PySem PySem.Spec PyProof.Rows
open Builtin Builtin.Str

section
variable {prog : Program} {w : World} {A : Around} {E : Value → Shared → Prop} {s : Shared}
structure ZipFar (z TI TO i1 i2 : Addr) : Prop where
  TIz : TI ≠ z
  TOz : TO ≠ z
  i1z : i1 ≠ z
  i2z : i2 ≠ z
  TITO : TI ≠ TO
  TIi1 : TI ≠ i1
  TIi2 : TI ≠ i2
  TOi1 : TO ≠ i1
  TOi2 : TO ≠ i2
  i12 : i1 ≠ i2

theorem zipFar_new (n : Nat) : ZipFar (n + 4) (n + 2) (n + 3) n (n + 1) :=
  ⟨Nat.ne_of_lt (by omega), Nat.ne_of_lt (by omega), Nat.ne_of_lt (by omega), Nat.ne_of_lt (by omega), Nat.ne_of_lt (by omega), Nat.ne_of_gt (by omega), Nat.ne_of_gt (by omega), Nat.ne_of_gt (by omega), Nat.ne_of_gt (by omega), Nat.ne_of_lt (by omega)⟩
theorem zipD_item {z TI TO i1 i2 : Addr} {k n1 n2 : Nat} {P1 P2 : Nat → Value → Prop} {St1 St2 : Nat → Heap → Prop} {a b : Value} {Q : Value → Shared → Prop} (F : ZipFar z TI TO i1 i2)
    (D1 : Draws prog w A i1 [i1] n1 P1 St1) (D2 : Draws prog w A i2 [i2] n2 P2 St2)
    (hz : IsZip s.heap z TI TO .none) (hTI : IsPair s.heap TI (.ref i1) (.ref i2)) (hTO : IsPair s.heap TO a b)
    (h1 : St1 k s.heap) (h2 : St2 k s.heap) (hk1 : k < n1) (hk2 : k < n2)
    (hQ : ∀ x y h' tk, P1 k x → P2 k y → IsZip h' z TI TO (rawInt s.heap.objs.size) → IsPair h' TO x y → St1 (k + 1) h' → St2 (k + 1) h' → IsPair h' s.heap.objs.size x y → h'.objs.size = s.heap.objs.size + 1 →
      (∀ c o, c ≠ z → c ≠ TO → c ≠ i1 → c ≠ i2 → s.heap.get? c = some o → h'.get? c = some o) → Q (.ref s.heap.objs.size) { s with heap := h', toks := tk }) :
    wpAny (model prog w) A (Builtin.«zip.__next__» ⟨[.ref z], []⟩) (fun fin s' => ∃ v, fin = .done (.ret v) ∧ Q v s') E s := by
  have fr1 : ∀ i h h', St1 i h → (∀ o, h.get? i1 = some o → h'.get? i1 = some o) → St1 i h' := fun i h h' st hk => D1.frame i h h' st fun b hb o e => by
    have : b = i1 := by simpa using hb
    subst this; exact hk o e
  have fr2 : ∀ i h h', St2 i h → (∀ o, h.get? i2 = some o → h'.get? i2 = some o) → St2 i h' := fun i h h' st hk => D2.frame i h h' st fun b hb o e => by
    have : b = i2 := by simpa using hb
    subst this; exact hk o e
  show wpAny _ _ (field (.ref z) 2 >>= _) _ _ _
  refine wpAny_bind (wpAny_field hz rfl (x := .bool false) rfl ?_)
  show wpAny _ _ (field (.ref z) 3 >>= _) _ _ _
  refine wpAny_bind (wpAny_field hz rfl (x := .ref TI) rfl ?_)
  refine wpAny_bind (wpAny_seqItems hTI rfl ?_)
  show wpAny _ _ (Builtin.SmallTypes.ownedTupleIsFree (.ref z) >>= _) _ _ _
  refine wpAny_bind ?_
  unfold Builtin.SmallTypes.ownedTupleIsFree
  refine wpAny_bind (wpAny_field hz rfl (x := .none) rfl (wpAny_pure ?_))
  simp only [if_true]
  refine wpAny_bind (wpAny_rule ?_)
  refine wpAny_bind (wpAny_field hz rfl (x := .ref TO) rfl ?_)
  refine wpAny_bind (wpAny_setField_rec hz (by simp) fun h₁ hz₁ hs₁ => ?_)
  replace hz₁ : IsZip h₁ z TI TO .ellipsis := hz₁
  refine wpAny_bind ?_
  simp only [List.zipIdx_cons, List.zipIdx_nil, List.forIn_cons, List.forIn_nil]
  refine wpAny_bind (wpAny_bind (wpAny_onRaise ?_))
  show wpAny _ _ (Builtin.SmallTypes.nextOf (.ref i1) >>= _) _ _ _
  refine wpAny_bind (D1.item k _ _ _ hk1 (fr1 _ _ _ h1 fun o e => hs₁.extBut _ _ F.i1z e) fun x h₂ tk₂ hx h1₂ hs₂ => wpAny_pure ?_)
  replace hs₂ : Heap.SameBut i1 h₁ h₂ := hs₂
  have hTO₂ : IsPair h₂ TO a b := hs₂.extBut _ _ F.TOi1 (hs₁.extBut _ _ F.TOz hTO)
  refine wpAny_bind (wpAny_seqItems hTO₂ rfl ?_)
  refine wpAny_bind (wpAny_updateSeq_pair hTO₂ fun h₃ hTO₃ hs₃ => ?_)
  replace hTO₃ : IsPair h₃ TO x b := hTO₃
  replace hs₃ : Heap.SameBut TO h₂ h₃ := hs₃
  refine wpAny_bind (wpAny_letGo (wpAny_pure ?_))
  refine wpAny_bind (wpAny_bind (wpAny_onRaise ?_))
  show wpAny _ _ (Builtin.SmallTypes.nextOf (.ref i2) >>= _) _ _ _
  refine wpAny_bind (D2.item k _ _ _ hk2 (fr2 _ _ _ h2 fun o e => hs₃.extBut _ _ F.TOi2.symm (hs₂.extBut _ _ F.i12.symm (hs₁.extBut _ _ F.i2z e))) fun y h₄ tk₄ hy h2₄ hs₄ => wpAny_pure ?_)
  replace hs₄ : Heap.SameBut i2 h₃ h₄ := hs₄
  have hTO₄ : IsPair h₄ TO x b := hs₄.extBut _ _ F.TOi2 hTO₃
  refine wpAny_bind (wpAny_seqItems hTO₄ rfl ?_)
  refine wpAny_bind (wpAny_updateSeq_pair hTO₄ fun h₅ hTO₅ hs₅ => ?_)
  replace hTO₅ : IsPair h₅ TO x y := hTO₅
  replace hs₅ : Heap.SameBut TO h₄ h₅ := hs₅
  refine wpAny_bind (wpAny_letGo (wpAny_pure (wpAny_pure ?_)))
  refine wpAny_bind (wpAny_seqItems hTO₅ rfl ?_)
  refine wpAny_bind (wpAny_newTuple ?_)
  have hsz : h₅.objs.size = s.heap.objs.size := by rw [hs₅.1, hs₄.1, hs₃.1, hs₂.1, hs₁.1]
  have hz₅ : IsZip h₅ z TI TO .ellipsis := hs₅.extBut _ _ F.TOz.symm (hs₄.extBut _ _ F.i2z.symm (hs₃.extBut _ _ F.TOz.symm (hs₂.extBut _ _ F.i1z.symm hz₁)))
  have hk₅ : ∀ c o, c ≠ z → c ≠ TO → c ≠ i1 → c ≠ i2 → s.heap.get? c = some o → h₅.get? c = some o := fun c o c1 c2 c3 c4 e =>
    hs₅.extBut _ _ c2 (hs₄.extBut _ _ c4 (hs₃.extBut _ _ c2 (hs₂.extBut _ _ c3 (hs₁.extBut _ _ c1 e))))
  have h1₅ : St1 (k + 1) h₅ := fr1 _ _ _ h1₂ fun o e => hs₅.extBut _ _ F.TOi1.symm (hs₄.extBut _ _ F.i12 (hs₃.extBut _ _ F.TOi1.symm e))
  have h2₅ : St2 (k + 1) h₅ := fr2 _ _ _ h2₄ fun o e => hs₅.extBut _ _ F.TOi2.symm e
  have hzlt : z < h₅.objs.size := Heap.lt_size hz₅
  show wpAny _ _ (Builtin.SmallTypes.ownedTupleHandOut (.ref z) (.ref h₅.objs.size) >>= _) _ _ _
  refine wpAny_bind ?_
  unfold Builtin.SmallTypes.ownedTupleHandOut
  have hz₆ : IsZip (h₅.push { cls := .type "tuple", data := .seq #[x, y] }) z TI TO .ellipsis := Heap.get?_push_of_some _ hz₅
  refine wpAny_bind (wpAny_setField_rec hz₆ (by simp) fun h₇ hz₇ hs₇ => ?_)
  replace hz₇ : IsZip h₇ z TI TO (rawInt h₅.objs.size) := hz₇
  replace hs₇ : Heap.SameBut z (h₅.push { cls := .type "tuple", data := .seq #[x, y] }) h₇ := hs₇
  refine wpAny_setField_rec hz₇ (by simp) fun h₈ hz₈ hs₈ => ?_
  replace hz₈ : IsZip h₈ z TI TO (rawInt h₅.objs.size) := hz₈
  replace hs₈ : Heap.SameBut z h₇ h₈ := hs₈
  have up : ∀ c o, c ≠ z → h₅.get? c = some o → h₈.get? c = some o := fun c o c1 e => hs₈.extBut _ _ c1 (hs₇.extBut _ _ c1 (Heap.get?_push_of_some _ e))
  have hT₈ : IsPair h₈ h₅.objs.size x y := hs₈.extBut _ _ (Nat.ne_of_gt hzlt) (hs₇.extBut _ _ (Nat.ne_of_gt hzlt) (Heap.get?_push_size _ rfl))
  have hz8 : h₈.objs.size = h₅.objs.size + 1 := by rw [hs₈.1, hs₇.1, Heap.size_push]
  rw [hsz] at hz₈ hT₈ hz8
  refine wpAny_pure ⟨_, rfl, ?_⟩
  show Q (.ref h₅.objs.size) _
  rw [hsz]
  exact hQ x y h₈ tk₄ hx hy hz₈ (up _ _ F.TOz hTO₅) (fr1 _ _ _ h1₅ fun o e => up _ o F.i1z e) (fr2 _ _ _ h2₅ fun o e => up _ o F.i2z e) hT₈ hz8 fun c o c1 c2 c3 c4 e => up c o c1 (hk₅ c o c1 c2 c3 c4 e)

theorem zipD_end {z TI TO i1 i2 : Addr} {k n1 n2 : Nat} {P1 P2 : Nat → Value → Prop} {St1 St2 : Nat → Heap → Prop} {a b : Value} {Q : Fin → Shared → Prop} (F : ZipFar z TI TO i1 i2)
    (D1 : Draws prog w A i1 [i1] n1 P1 St1) (D2 : Draws prog w A i2 [i2] n2 P2 St2)
    (hz : IsZip s.heap z TI TO .none) (hTI : IsPair s.heap TI (.ref i1) (.ref i2)) (hTO : IsPair s.heap TO a b)
    (h1 : St1 k s.heap) (h2 : St2 k s.heap) (hend : k = n1 ∨ (k < n1 ∧ k = n2))
    (hE : ∀ h' tk e, (∀ c o, c ≠ z → c ≠ TO → c ≠ i1 → c ≠ i2 → s.heap.get? c = some o → h'.get? c = some o) → (∃ o, h'.get? e = some o ∧ o.cls = .type "StopIteration") → E (.ref e) { s with heap := h', toks := tk }) :
    wpAny (model prog w) A (Builtin.«zip.__next__» ⟨[.ref z], []⟩) Q E s := by
  have fr1 : ∀ i h h', St1 i h → (∀ o, h.get? i1 = some o → h'.get? i1 = some o) → St1 i h' := fun i h h' st hk => D1.frame i h h' st fun b hb o e => by
    have : b = i1 := by simpa using hb
    subst this; exact hk o e
  have fr2 : ∀ i h h', St2 i h → (∀ o, h.get? i2 = some o → h'.get? i2 = some o) → St2 i h' := fun i h h' st hk => D2.frame i h h' st fun b hb o e => by
    have : b = i2 := by simpa using hb
    subst this; exact hk o e
  show wpAny _ _ (field (.ref z) 2 >>= _) _ _ _
  refine wpAny_bind (wpAny_field hz rfl (x := .bool false) rfl ?_)
  show wpAny _ _ (field (.ref z) 3 >>= _) _ _ _
  refine wpAny_bind (wpAny_field hz rfl (x := .ref TI) rfl ?_)
  refine wpAny_bind (wpAny_seqItems hTI rfl ?_)
  show wpAny _ _ (Builtin.SmallTypes.ownedTupleIsFree (.ref z) >>= _) _ _ _
  refine wpAny_bind ?_
  unfold Builtin.SmallTypes.ownedTupleIsFree
  refine wpAny_bind (wpAny_field hz rfl (x := .none) rfl (wpAny_pure ?_))
  simp only [if_true]
  refine wpAny_bind (wpAny_rule ?_)
  refine wpAny_bind (wpAny_field hz rfl (x := .ref TO) rfl ?_)
  refine wpAny_bind (wpAny_setField_rec hz (by simp) fun h₁ hz₁ hs₁ => ?_)
  replace hz₁ : IsZip h₁ z TI TO .ellipsis := hz₁
  refine wpAny_bind ?_
  simp only [List.zipIdx_cons, List.zipIdx_nil, List.forIn_cons, List.forIn_nil]
  refine wpAny_bind (wpAny_bind (wpAny_onRaise ?_))
  show wpAny _ _ (Builtin.SmallTypes.nextOf (.ref i1) >>= _) _ _ _
  rcases hend with hk | ⟨hk1, hk⟩
  · subst hk
    refine wpAny_bind (D1.done _ _ _ (fr1 _ _ _ h1 fun o e => hs₁.extBut _ _ F.i1z e) fun h₂ e hs₂ he => ?_)
    obtain ⟨oe, hoe, hce⟩ := he
    replace hs₂ : Heap.ExtBut i1 h₁ h₂ := hs₂
    have hz₂ : IsZip h₂ z TI TO .ellipsis := hs₂ _ _ F.i1z.symm hz₁
    have hez : e ≠ z := fun x => by subst x; rw [hz₂] at hoe; cases hoe; simp at hce
    exact wpAny_setField_rec hz₂ (by simp) fun h₃ _ hs₃ => hE h₃ _ e (fun c o c1 _ c3 _ x => hs₃.extBut _ _ c1 (hs₂ _ _ c3 (hs₁.extBut _ _ c1 x))) ⟨oe, hs₃.extBut _ _ hez hoe, hce⟩
  · subst hk
    refine wpAny_bind (D1.item k _ _ _ hk1 (fr1 _ _ _ h1 fun o e => hs₁.extBut _ _ F.i1z e) fun x h₂ tk₂ hx h1₂ hs₂ => wpAny_pure ?_)
    replace hs₂ : Heap.SameBut i1 h₁ h₂ := hs₂
    have hTO₂ : IsPair h₂ TO a b := hs₂.extBut _ _ F.TOi1 (hs₁.extBut _ _ F.TOz hTO)
    refine wpAny_bind (wpAny_seqItems hTO₂ rfl ?_)
    refine wpAny_bind (wpAny_updateSeq_pair hTO₂ fun h₃ hTO₃ hs₃ => ?_)
    replace hs₃ : Heap.SameBut TO h₂ h₃ := hs₃
    refine wpAny_bind (wpAny_letGo (wpAny_pure ?_))
    refine wpAny_bind (wpAny_bind (wpAny_onRaise ?_))
    show wpAny _ _ (Builtin.SmallTypes.nextOf (.ref i2) >>= _) _ _ _
    refine wpAny_bind (D2.done _ _ _ (fr2 _ _ _ h2 fun o e => hs₃.extBut _ _ F.TOi2.symm (hs₂.extBut _ _ F.i12.symm (hs₁.extBut _ _ F.i2z e))) fun h₄ e hs₄ he => ?_)
    obtain ⟨oe, hoe, hce⟩ := he
    replace hs₄ : Heap.ExtBut i2 h₃ h₄ := hs₄
    have hz₄ : IsZip h₄ z TI TO .ellipsis := hs₄ _ _ F.i2z.symm (hs₃.extBut _ _ F.TOz.symm (hs₂.extBut _ _ F.i1z.symm hz₁))
    have hez : e ≠ z := fun x => by subst x; rw [hz₄] at hoe; cases hoe; simp at hce
    exact wpAny_setField_rec hz₄ (by simp) fun h₅ _ hs₅ => hE h₅ _ e (fun c o c1 c2 c3 c4 x => hs₅.extBut _ _ c1 (hs₄ _ _ c4 (hs₃.extBut _ _ c2 (hs₂.extBut _ _ c3 (hs₁.extBut _ _ c1 x))))) ⟨oe, hs₅.extBut _ _ hez hoe, hce⟩

theorem drawsTxt {it : Addr} {l : List Nat} {t : Tok} {nm : String} (hh : A.handled = none) (hn : nm = "str_ascii_iterator" ∨ nm = "str_iterator") :
    Draws prog w A it [it] l.length (fun i v => ∃ c u, l[i]? = some c ∧ v = .str ⟨#[c]⟩ u) (fun i h => h.IsStrIter it nm ⟨l.toArray⟩ t i) := by
  rcases hn with rfl | rfl
  · have D := Draws.strAscii (prog := prog) (w := w) hh it ⟨l.toArray⟩ t
    simpa using D
  · have D := Draws.strWide (prog := prog) (w := w) hh it ⟨l.toArray⟩ t
    simpa using D
end

/-- untracked records of ours (an iterator's) have turned -/
theorem Inv.turnedN {X : Cx} {pins : List (Addr × Obj)} {σ : St} {H : Hp} {s : Shared} {h' : Heap} {t' : Nat} {ch : List Addr} (I : Inv X pins σ H s) (k : ∀ b o, b ∉ ch → s.heap.get? b = some o → h'.get? b = some o) (hf : ∀ b ∈ ch, FpOk X pins H b) :
    Inv X pins σ H { s with heap := h', toks := t' } := by
  have nch : ∀ b u, H b = some u → b ∉ ch := fun b u e z => by rw [(hf b z).1] at e; cases e
  refine I.step (g' := s.gens) (d' := s.drawn) (ch := ch) (fun b hb => ?_) (fun b o _ _ hc e _ => k b o hc e) (fun b o _ _ hc e _ => ⟨o.slots, k b o hc e⟩) (fun _ _ _ _ n => n)
    (fun b o hc e => ⟨o, k b o hc e⟩) (fun _ _ e => e) (fun _ _ _ e => e) (fun b ps e => ⟨#[], by rw [e]; simp⟩) (fun m hm => ?_) (fun b u e => ?_) I.bare
  · obtain ⟨f0, f1, f2, f3, f4, f5⟩ := hf b hb
    exact ⟨f3, f1, f4, f5⟩
  · obtain ⟨o, es, ep, ho, r⟩ := hm
    exact ⟨o, es, ep, k _ o (fun z => (hf _ z).2.1 rfl) ho, r⟩
  · refine (I.hok b u e).stay (fun c v hc q => k c v ?_ q) (fun _ q => q) fun _ _ q => q
    rcases hc with z | z
    · rw [z]; exact nch b u e
    · exact nch c _ z

/-- pairs of signs: a new tuple each -/
def Itz (l1 l2 : List Nat) : It :=
  ⟨fun i _ => i < l1.length ∧ i < l2.length, fun i H x H' => ∃ p c d, H p = none ∧ l1[i]? = some c ∧ l2[i]? = some d ∧ x = .ref p ∧ H' = upd H p (.tup [T [c], T [d]]), fun i _ => i = l1.length ∨ (i < l1.length ∧ i = l2.length)⟩
theorem turn_zipT {P : Program} {w : World} {K : PySem.W.Frag} {es : List Expr} {k : Nat} {pos : Pos} {z TI TO i1 i2 : Addr} {l1 l2 : List Nat} {t1 t2 : Tok} {n1 n2 : String} (F : ZipFar z TI TO i1 i2)
    (hn1 : n1 = "str_ascii_iterator" ∨ n1 = "str_iterator") (hn2 : n2 = "str_ascii_iterator" ∨ n2 = "str_iterator") :
    Turn P w K (.Tuple es k pos) (Itz l1 l2) [z, TI, TO, i1, i2] z (fun i h => IsZip h z TI TO .none ∧ IsPair h TI (.ref i1) (.ref i2) ∧ (∃ a b, IsPair h TO a b) ∧ h.IsStrIter i1 n1 ⟨l1.toArray⟩ t1 i ∧ h.IsStrIter i2 n2 ⟨l2.toArray⟩ t2 i) where
  mem := by simp
  obj := fun i h st b hb => by
    obtain ⟨hz, hTI, ⟨a, b', hTO⟩, ⟨o1, e1, c1, d1⟩, o2, e2, c2, d2⟩ := st
    simp only [List.mem_cons, List.not_mem_nil, or_false] at hb
    rcases hb with rfl | rfl | rfl | rfl | rfl
    · exact ⟨_, hz, fun v q => by cases q⟩
    · exact ⟨_, hTI, fun v q => by cases q⟩
    · exact ⟨_, hTO, fun v q => by cases q⟩
    · exact ⟨o1, e1, fun v q => by rw [d1] at q; cases q⟩
    · exact ⟨o2, e2, fun v q => by rw [d2] at q; cases q⟩
  keep := fun i h h' st kk => by
    obtain ⟨hz, hTI, ⟨a, b', hTO⟩, ⟨o1, e1, r1⟩, o2, e2, r2⟩ := st
    exact ⟨kk z (by simp) _ hz, kk TI (by simp) _ hTI, ⟨a, b', kk TO (by simp) _ hTO⟩, ⟨o1, kk i1 (by simp) _ e1, r1⟩, o2, kk i2 (by simp) _ e2, r2⟩
  item := by
    intro X hP hw hK hc i pins s σ H E I hf st hg
    subst hP hw hK
    obtain ⟨hz, hTI, ⟨a, b, hTO⟩, h1, h2⟩ := st
    have hh : X.A.in1.handled = none := I.ok.hd hc
    have hT : s.TypeIs (.ref z) "zip" := ⟨_, hz, rfl⟩
    have D1 := drawsTxt (prog := X.prog) (w := X.w) (it := i1) (l := l1) (t := t1) hh hn1
    have D2 := drawsTxt (prog := X.prog) (w := X.w) (it := i2) (l := l2) (t := t2) hh hn2
    unfold pyNext
    refine wpAny_bind (wpAny_attempt (wpAny_callSpecial?_slot (name := Str.ofString "__next__") hT PySem.F.slot_zip_next (wpAny_call_entry PySem.F.slot_zip_next hT PySem.F.entry_zip_next
      (zipD_item F D1 D2 hz hTI hTO h1 h2 hg.1 hg.2 fun x y h' tk hx hy a1 a2 a3 a4 a5 a6 kp => wpAny_pure ?_) (PySem.F.args_zip_next_1 _))))
    obtain ⟨c, u, hc1, rfl⟩ := hx
    obtain ⟨d, v, hd1, rfl⟩ := hy
    refine ⟨_, rfl, ?_⟩
    refine wpAny_letOwnedTupleGo_zip (s := { s with heap := h', toks := tk }) a1 fun h2' hz' hs' => ?_
    replace hs' : Heap.SameBut z h' h2' := hs'
    have zlt : z < s.heap.objs.size := Heap.lt_size hz
    have far : ∀ q ∈ [z, TI, TO, i1, i2], q < s.heap.objs.size := by
      intro q hq
      obtain ⟨o1, e1, _⟩ := h1
      obtain ⟨o2, e2, _⟩ := h2
      simp only [List.mem_cons, List.not_mem_nil, or_false] at hq
      rcases hq with rfl | rfl | rfl | rfl | rfl
      · exact zlt
      · exact Heap.lt_size hTI
      · exact Heap.lt_size hTO
      · exact Heap.lt_size e1
      · exact Heap.lt_size e2
    have fz := hf z (by simp)
    have fTO := hf TO (by simp)
    have f1 := hf i1 (by simp)
    have f2 := hf i2 (by simp)
    -- the four records turn, then the tuple is laid
    have I1 : Inv X pins σ H { s with heap := s.heap.push { cls := .type "tuple", data := .seq #[.str ⟨#[c]⟩ u, .str ⟨#[d]⟩ v] }, toks := tk } := I.kept fun b o e => Heap.get?_push_of_some _ e
    have keepAll : ∀ b o, b ≠ z → b ≠ TO → b ≠ i1 → b ≠ i2 → s.heap.get? b = some o → h2'.get? b = some o := fun b o b1 b2 b3 b4 e => hs'.extBut _ _ b1 (kp b o b1 b2 b3 b4 e)
    have hnew : H s.heap.objs.size = none := I.hok.fresh (Nat.le_refl _)
    have Tz : s.heap.objs.size ≠ z := Nat.ne_of_gt zlt
    have ht2 : h2'.get? s.heap.objs.size = some { cls := .type "tuple", data := .seq #[.str ⟨#[c]⟩ u, .str ⟨#[d]⟩ v] } := hs'.extBut _ _ Tz a5
    have I2 : Inv X pins σ (upd H s.heap.objs.size (.tup [T [c], T [d]])) { s with heap := h2', toks := tk } := by
      have there : ∀ q ∈ [z, TO, i1, i2], ∃ o', h2'.get? q = some o' := by
        intro q hq
        obtain ⟨o1, e1, _⟩ := a3
        obtain ⟨o2, e2, _⟩ := a4
        simp only [List.mem_cons, List.not_mem_nil, or_false] at hq
        rcases hq with rfl | rfl | rfl | rfl
        · exact ⟨_, hz'⟩
        · exact ⟨_, hs'.extBut _ _ F.TOz a2⟩
        · exact ⟨_, hs'.extBut _ _ F.i1z e1⟩
        · exact ⟨_, hs'.extBut _ _ F.i2z e2⟩
      have nch : ∀ b, b ∉ [z, TO, i1, i2] → b ≠ z ∧ b ≠ TO ∧ b ≠ i1 ∧ b ≠ i2 := fun b hb => by
        simp only [List.mem_cons, List.not_mem_nil, or_false, not_or] at hb
        exact hb
      have trk : ∀ b u', H b = some u' → b ≠ z ∧ b ≠ TO ∧ b ≠ i1 ∧ b ≠ i2 := fun b u' e =>
        ⟨fun q => (by rw [q, fz.1] at e; cases e), fun q => (by rw [q, fTO.1] at e; cases e), fun q => (by rw [q, f1.1] at e; cases e), fun q => (by rw [q, f2.1] at e; cases e)⟩
      have okH : HOk X.prog X.w (upd H s.heap.objs.size (.tup [T [c], T [d]])) h2' := fun b u' e => by
        by_cases hb : b = s.heap.objs.size
        · subst hb
          rw [upd_same] at e
          cases e
          exact ⟨(show 2 ≤ sizeLine by decide), [.str ⟨#[c]⟩ u, .str ⟨#[d]⟩ v], .cons ⟨u, rfl⟩ (.cons ⟨v, rfl⟩ .nil), ⟨_, ht2, rfl, _, rfl⟩⟩
        · rw [upd_ne hb] at e
          have hx := I.hok b u' e
          refine hx.stay (fun q o hq e2 => ?_) (fun q e2 => ?_) (fun q xs e2 => ?_)
          · rcases hq with rfl | hq
            · obtain ⟨b1, b2, b3, b4⟩ := trk q _ e
              exact keepAll q o b1 b2 b3 b4 e2
            · obtain ⟨b1, b2, b3, b4⟩ := trk q _ hq
              exact keepAll q o b1 b2 b3 b4 e2
          · rw [upd_ne (ne_of_none e2 hnew)]; exact e2
          · rw [upd_ne (ne_of_none e2 hnew)]; exact e2
      refine I.step (g' := s.gens) (d' := s.drawn) (ch := [z, TO, i1, i2]) (fun b hb => ?_) (fun b o _ _ hcb e n => ?_) (fun b o _ _ hcb e n => ?_) (fun b o hcb e n => ?_) (fun b o hcb e => ?_) (fun b xs e => ?_) (fun b o u' e => ?_) (fun b ps e => ?_) (fun m hm => ?_) okH I.bare
      · simp only [List.mem_cons, List.not_mem_nil, or_false] at hb
        rcases hb with rfl | rfl | rfl | rfl
        · exact ⟨fz.2.2.2.1, fz.2.1, fz.2.2.2.2.1, fz.2.2.2.2.2⟩
        · exact ⟨fTO.2.2.2.1, fTO.2.1, fTO.2.2.2.2.1, fTO.2.2.2.2.2⟩
        · exact ⟨f1.2.2.2.1, f1.2.1, f1.2.2.2.2.1, f1.2.2.2.2.2⟩
        · exact ⟨f2.2.2.2.1, f2.2.1, f2.2.2.2.2.1, f2.2.2.2.2.2⟩
      · obtain ⟨b1, b2, b3, b4⟩ := nch b hcb
        exact keepAll b o b1 b2 b3 b4 e
      · obtain ⟨b1, b2, b3, b4⟩ := nch b hcb
        exact ⟨o.slots, keepAll b o b1 b2 b3 b4 e⟩
      · rw [upd_ne (Nat.ne_of_lt (Heap.lt_size e))]; exact n
      · obtain ⟨b1, b2, b3, b4⟩ := nch b hcb
        exact ⟨o, keepAll b o b1 b2 b3 b4 e⟩
      · rw [upd_ne (ne_of_none e hnew)]; exact e
      · rw [upd_ne (ne_of_none e hnew)]; exact e
      · exact ⟨#[], by rw [upd_ne (ne_of_none e hnew), e]; simp⟩
      · obtain ⟨o, es', ep, ho, r⟩ := hm
        exact ⟨o, es', ep, keepAll _ o fz.2.1.symm fTO.2.1.symm f1.2.1.symm f2.2.1.symm ho, r⟩
    refine ⟨.ref s.heap.objs.size, _, I2, rfl, ⟨_, c, d, hnew, hc1, hd1, rfl, rfl⟩, ⟨hz', hs'.extBut _ _ F.TIz (kp _ _ F.TIz F.TITO F.TIi1 F.TIi2 hTI), ⟨_, _, hs'.extBut _ _ F.TOz a2⟩, ?_, ?_⟩, fun b hb => ?_⟩
    · obtain ⟨o, e, r⟩ := a3; exact ⟨o, hs'.extBut _ _ F.i1z e, r⟩
    · obtain ⟨o, e, r⟩ := a4; exact ⟨o, hs'.extBut _ _ F.i2z e, r⟩
    · rw [upd_ne (Nat.ne_of_lt (far b hb))]; exact (hf b hb).1
  done := by
    intro X hP hw hK hc i pins s σ H E I hf st hg
    subst hP hw hK
    obtain ⟨hz, hTI, ⟨a, b, hTO⟩, h1, h2⟩ := st
    have hh : X.A.in1.handled = none := I.ok.hd hc
    have hT : s.TypeIs (.ref z) "zip" := ⟨_, hz, rfl⟩
    have D1 := drawsTxt (prog := X.prog) (w := X.w) (it := i1) (l := l1) (t := t1) hh hn1
    have D2 := drawsTxt (prog := X.prog) (w := X.w) (it := i2) (l := l2) (t := t2) hh hn2
    unfold pyNext
    refine wpAny_bind (wpAny_attempt (wpAny_callSpecial?_slot (name := Str.ofString "__next__") hT PySem.F.slot_zip_next (wpAny_call_entry PySem.F.slot_zip_next hT PySem.F.entry_zip_next
      (zipD_end F D1 D2 hz hTI hTO h1 h2 hg fun h' tk e kp he => ?_) (PySem.F.args_zip_next_1 _))))
    obtain ⟨o, ho, hc'⟩ := he
    refine wpAny_bind (wpAny_isInstance (T := "StopIteration") (b := true) ⟨o, ho, hc'⟩ isSubtype_stop ?_)
    refine wpAny_pure ⟨rfl, ?_⟩
    refine I.turnedN (ch := [z, TO, i1, i2]) (fun b o hb q => ?_) fun b hb => hf b ?_
    · simp only [List.mem_cons, List.not_mem_nil, or_false, not_or] at hb
      exact kp b o hb.1 hb.2.1 hb.2.2.1 hb.2.2.2 q
    · simp only [List.mem_cons, List.not_mem_nil, or_false] at hb ⊢
      rcases hb with q | q | q | q
      · exact .inl q
      · exact .inr (.inr (.inl q))
      · exact .inr (.inr (.inr (.inl q)))
      · exact .inr (.inr (.inr (.inr q)))
  self := fun _ _ _ _ _ st h => wpAny_pyIter_zip st.1 h

/-! ### zip(t, u) is made -/
/-- the name of a text's iterator -/
def itName (l : List Nat) : String := if (⟨l.toArray⟩ : Str).cps.all (· < 128) = true then "str_ascii_iterator" else "str_iterator"
theorem itName_or (l : List Nat) : itName l = "str_ascii_iterator" ∨ itName l = "str_iterator" := by
  unfold itName; split
  · exact .inl rfl
  · exact .inr rfl
theorem iter_txt {prog : Program} {w : World} {A : Around} {E : Value → Shared → Prop} {hp : Heap} {g : Array GenState} {d : Drawn} {tk : Nat} {os : OsState} {l : List Nat} {t : Tok} {Q : Value → Shared → Prop}
    (h : Q (.ref hp.objs.size) ⟨hp.push { cls := .type (itName l), data := .fields #[.str ⟨l.toArray⟩ t, .int 0 0] }, g, d, tk, os⟩) : wpAny (model prog w) A (pyIter (.str ⟨l.toArray⟩ t)) Q E ⟨hp, g, d, tk, os⟩ := by
  cases ha : (⟨l.toArray⟩ : Str).cps.all (· < 128) with
  | true =>
    have e : itName l = "str_ascii_iterator" := by unfold itName; rw [if_pos ha]
    rw [e] at h
    exact wpAny_pyIter_ascii (s := ⟨hp, g, d, tk, os⟩) ha h
  | false =>
    have e : itName l = "str_iterator" := by unfold itName; rw [if_neg (by rw [ha]; exact Bool.false_ne_true)]
    rw [e] at h
    exact wpAny_pyIter_wide (s := ⟨hp, g, d, tk, os⟩) ha h
abbrev zipT1 (h : Heap) (l1 : List Nat) (t1 : Tok) : Heap := h.push { cls := .type (itName l1), data := .fields #[.str ⟨l1.toArray⟩ t1, .int 0 0] }
abbrev zipT2 (h : Heap) (l1 l2 : List Nat) (t1 t2 : Tok) : Heap := (zipT1 h l1 t1).push { cls := .type (itName l2), data := .fields #[.str ⟨l2.toArray⟩ t2, .int 0 0] }
abbrev zipT3 (h : Heap) (l1 l2 : List Nat) (t1 t2 : Tok) : Heap := (zipT2 h l1 l2 t1 t2).push { cls := .type "tuple", data := .seq #[.ref h.objs.size, .ref (zipT1 h l1 t1).objs.size] }
abbrev zipT4 (h : Heap) (l1 l2 : List Nat) (t1 t2 : Tok) : Heap := (zipT3 h l1 l2 t1 t2).push { cls := .type "tuple", data := .seq #[.none, .none] }
abbrev zipT5 (h : Heap) (l1 l2 : List Nat) (t1 t2 : Tok) : Heap := (zipT4 h l1 l2 t1 t2).push { cls := .type "zip", data := .fields #[.none, .bool false, .bool false, .ref (zipT2 h l1 l2 t1 t2).objs.size, .ref (zipT3 h l1 l2 t1 t2).objs.size] }
theorem meets_zipT (l1 l2 : List Nat) (t1 t2 : Tok) :
    Meets (Builtin.«zip.__new__» ⟨[.type "zip", .str ⟨l1.toArray⟩ t1, .str ⟨l2.toArray⟩ t2], []⟩) (fun _ R s => R (.ok (.ret (.ref (zipT4 s.heap l1 l2 t1 t2).objs.size))) { s with heap := zipT5 s.heap l1 l2 t1 t2 }) :=
  .of_wp fun prog w A R s h => by
    obtain ⟨hp, g, d, tk, os⟩ := s
    have hsub := sub_zip
    wp_walk using iter_txt (l := l1) (t := t1), iter_txt (l := l2) (t := t2)
    exact ⟨_, rfl, h⟩
theorem call_zipT {prog : Program} {w : World} {A : Around} {E : Value → Shared → Prop} {s : Shared} {l1 l2 : List Nat} {t1 t2 : Tok} {Q : Value → Shared → Prop}
    (h : ∀ h', IsZip h' (s.heap.objs.size + 4) (s.heap.objs.size + 2) (s.heap.objs.size + 3) .none → IsPair h' (s.heap.objs.size + 2) (.ref s.heap.objs.size) (.ref (s.heap.objs.size + 1)) →
      IsPair h' (s.heap.objs.size + 3) .none .none → h'.IsStrIter s.heap.objs.size (itName l1) ⟨l1.toArray⟩ t1 0 → h'.IsStrIter (s.heap.objs.size + 1) (itName l2) ⟨l2.toArray⟩ t2 0 →
      (∀ c o, s.heap.get? c = some o → h'.get? c = some o) → Q (.ref (s.heap.objs.size + 4)) { s with heap := h' }) :
    wpAny (model prog w) A (call (.type "zip") [.str ⟨l1.toArray⟩ t1, .str ⟨l2.toArray⟩ t2]) Q E s := by
  refine callType_new F.called_zip (by decide) (F.typeCall_zip_2 _ _) (F.newCall_zip_2 _ _) (fun obj => F.args_object_init_3 obj _ _) F.entry_zip_new (meets_zipT l1 l2 t1 t2) ?_
  have z1 : (zipT1 s.heap l1 t1).objs.size = s.heap.objs.size + 1 := Heap.size_push ..
  have z2 : (zipT2 s.heap l1 l2 t1 t2).objs.size = s.heap.objs.size + 2 := by rw [Heap.size_push, z1]
  have z3 : (zipT3 s.heap l1 l2 t1 t2).objs.size = s.heap.objs.size + 3 := by rw [Heap.size_push, z2]
  have z4 : (zipT4 s.heap l1 l2 t1 t2).objs.size = s.heap.objs.size + 4 := by rw [Heap.size_push, z3]
  have g5 : (zipT5 s.heap l1 l2 t1 t2).get? (zipT4 s.heap l1 l2 t1 t2).objs.size = some _ := Heap.get?_push_size _ rfl
  have g4 : (zipT5 s.heap l1 l2 t1 t2).get? (zipT3 s.heap l1 l2 t1 t2).objs.size = some _ := Heap.get?_push_of_some _ (Heap.get?_push_size _ rfl)
  have g3 : (zipT5 s.heap l1 l2 t1 t2).get? (zipT2 s.heap l1 l2 t1 t2).objs.size = some _ := Heap.get?_push_of_some _ (Heap.get?_push_of_some _ (Heap.get?_push_size _ rfl))
  have g2 : (zipT5 s.heap l1 l2 t1 t2).get? (zipT1 s.heap l1 t1).objs.size = some _ := Heap.get?_push_of_some _ (Heap.get?_push_of_some _ (Heap.get?_push_of_some _ (Heap.get?_push_size _ rfl)))
  have g1 : (zipT5 s.heap l1 l2 t1 t2).get? s.heap.objs.size = some _ := Heap.get?_push_of_some _ (Heap.get?_push_of_some _ (Heap.get?_push_of_some _ (Heap.get?_push_of_some _ (Heap.get?_push_size _ rfl))))
  show _ ∧ _
  rw [z2, z3, z4] at g5
  rw [z1, z2] at g3
  rw [z3] at g4
  rw [z1] at g2
  rw [z4]
  exact ⟨⟨_, g5, rfl⟩, h _ g5 g3 g4 ⟨_, g1, rfl, rfl⟩ ⟨_, g2, rfl, rfl⟩ fun c o x =>
    Heap.get?_push_of_some _ (Heap.get?_push_of_some _ (Heap.get?_push_of_some _ (Heap.get?_push_of_some _ (Heap.get?_push_of_some _ x))))⟩
section
variable {X : Cx} {es : List Expr} {k : Nat} {tpos : Pos}
def iZipT (ta : TA) : TI := fun σ H R => ta σ H fun vs H1 => ∃ l1 l2, vs = [T l1, T l2] ∧ R (Itz l1 l2) H1
theorem pi_zipT {a b : Expr} {ta : TA} {p pos : Pos} (hg : Gl X "zip") (hm : X.mg "zip" = none) (ha : PA X [a, b] ta) (hv : bootBuiltins "zip" = some (.type "zip") := by decide +kernel) (hs : starEach [a, b] X.env = [(false, eval a X.env), (false, eval b X.env)] := by rfl) (hs2 : starEach [b] X.env = [(false, eval b X.env)] := by rfl) :
    PI X (.Tuple es k tpos) (.Call (.Name "zip" p) [a, b] [] pos) (iZipT ta) := by
  intro pins s σ H R I h
  refine Call_ (ld_blt I hg hm hv (PyProof.Rows.callWith_type1 (thn (ha pos pins s σ H _ I h) fun us s1 ⟨vs, H1, I1, r1, q1⟩ => ?_) (by rw [hs, hs2]) (by rw [hs2]; rfl)))
  obtain ⟨l1, l2, e, q⟩ := q1
  subst e
  obtain ⟨u, v, rfl, ru, rv⟩ := r1.two
  obtain ⟨t1, rfl⟩ := ru
  obtain ⟨t2, rfl⟩ := rv
  refine call_zipT fun h' a1 a2 a3 a4 a5 kp => ?_
  have far : ZipFar (s1.heap.objs.size + 4) (s1.heap.objs.size + 2) (s1.heap.objs.size + 3) s1.heap.objs.size (s1.heap.objs.size + 1) := zipFar_new _
  have I2 : Inv X pins σ H1 { s1 with heap := h' } := I1.kept (t' := s1.toks) kp
  refine wpAny_pyIter_zip a1 ⟨s1.heap.objs.size + 4, [s1.heap.objs.size + 4, s1.heap.objs.size + 2, s1.heap.objs.size + 3, s1.heap.objs.size, s1.heap.objs.size + 1], _, _, H1, rfl, I2, turn_zipT (t1 := t1) (t2 := t2) far (itName_or l1) (itName_or l2), ⟨a1, a2, ⟨_, _, a3⟩, a4, a5⟩, fun b hb => ?_, q⟩
  have hb' : s1.heap.objs.size ≤ b := by
    simp only [List.mem_cons, List.not_mem_nil, or_false] at hb
    rcases hb with rfl | rfl | rfl | rfl | rfl
    · exact Nat.le_add_right _ _
    · exact Nat.le_add_right _ _
    · exact Nat.le_add_right _ _
    · exact Nat.le_refl _
    · exact Nat.le_add_right _ _
  exact I1.fpOk hb' (I1.hok.fresh hb')
end
end L2

set_option linter.all false
set_option maxRecDepth 100000
set_option maxHeartbeats 4000000
/-! a comprehension over zip. -/
namespace L2
open PySem PySem.Spec PyProof.Rows
/-- [e for c, d in zip(t, u)] -/
theorem comp_zipT {K : PySem.W.Frag} {H : Hp} {l1 l2 : List Nat} {rest : St} {te : TE} {Q : VK} (f : Nat → Nat → V) (hx : l1.length ≤ 1000000)
    (he : ∀ c d H', Same H H' → ∀ R : VK, (∀ H'', Same H' H'' → R (f c d) H'') → te (some (T [c]) :: some (T [d]) :: rest) H' R)
    (hQ : ∀ D H', H D = none → Same H H' → H' D = some (.lst ((l1.zip l2).map fun p => f p.1 p.2)) → Q (.ref D) H') :
    CompW (Itz l1 l2) H (none :: none :: rest) (gTup K 2 (gCons (gName 0) (gCons (gName 1) gNil))) tYes te Q := by
  intro D hD
  refine ⟨fun i m σ1 ys H' => m = l1.length - i ∧ i ≤ l1.length ∧ i ≤ l2.length ∧ (∃ a b, σ1 = a :: b :: rest) ∧ ys = ((l1.zip l2).take i).map (fun p => f p.1 p.2) ∧ H' D = some (.lst ys) ∧ Same H H', ⟨l1.length, by simp, Nat.zero_le _, Nat.zero_le _, ⟨_, _, rfl⟩, rfl, upd_same, same_new hD _⟩, ?_⟩
  rintro i m σ1 ys H' ⟨rfl, hi1, hi2, ⟨a, b, rfl⟩, rfl, hDD, hs⟩
  by_cases hlt : i < l1.length ∧ i < l2.length
  · refine .inr ⟨hlt, fun x H'' hy => ?_⟩
    obtain ⟨p, c, d, hp, hc, hd, rfl, rfl⟩ := hy
    refine ⟨p, [T [c], T [d]], rfl, SqT.of upd_same, rfl, T [c], [T [d]], rfl, T [d], [], rfl, rfl, ?_⟩
    unfold tYes
    dsimp only
    refine iteT ?_
    have pD : D ≠ p := fun z => by subst z; rw [hp] at hDD; cases hDD
    have s1 : Same H (upd H' p (.tup [T [c], T [d]])) := hs.trans (same_new hp _)
    have hz : (l1.zip l2)[i]? = some (c, d) := by rw [List.getElem?_zip_eq_some]; exact ⟨hc, hd⟩
    refine he c d _ s1 _ fun H4 s4 => ⟨s4 _ _ (by rw [upd_ne pD]; exact hDD), ?_, l1.length - (i + 1), by omega, rfl, hlt.1, hlt.2, ⟨_, _, rfl⟩, ?_, upd_same, (s1.trans s4).upd hD⟩
    · rw [List.length_map, List.length_take]
      have : (1000001 : Nat) ≤ sizeLine := by decide
      omega
    · rw [List.take_add_one, hz, List.map_append]
      rfl
  · have e : i = l1.length ∨ (i < l1.length ∧ i = l2.length) := by omega
    refine .inl ⟨e, hQ D H' hD hs ?_⟩
    rw [hDD, List.take_of_length_le]
    rw [List.length_zip]
    omega
end L2

set_option linter.all false
set_option maxRecDepth 100000
set_option maxHeartbeats 4000000
/-! Bundles: a def, a method, a class of the text with its promise. -/
namespace L2
open PySem PySem.Spec PyProof.Rows

/-- a def of the module as the top has made it -/
def GF (K : PySem.W.Frag) (mg : Str → Option Value) (x : Str) (st : Stmt) : Prop := ∃ f fd, Fun K x x st f fd ∧ mg x = some (.ref f)
/-- .. with its promise -/
def FnG (P : Program) (w : World) (K : PySem.W.Frag) (mg : Str → Option Value) (base : Heap) (x : Str) (k : Nat) (ps : List Str) (sp : Sp) : Prop :=
  ∃ f fd, FnOk P w K mg base CX0 k f fd ps sp ∧ mg x = some (.ref f) ∧ PySem.W.keepIn K (.ref f) = true ∧ Binds K fd ps []
/-- a method of the class at C -/
def MF (K : PySem.W.Frag) (C : Addr) (m qual : Str) (st : Stmt) : Prop := ∃ f fd, Fun K m qual st f fd ∧ Meth K C m f
def MtG (P : Program) (w : World) (K : PySem.W.Frag) (mg : Str → Option Value) (base : Heap) (C : Addr) (m : Str) (k : Nat) (ps : List Str) (sp : Sp) : Prop :=
  ∃ f fd, FnOk P w K mg base CX0 k f fd ps sp ∧ Cls K C ∧ Meth K C m f ∧ Binds K fd ps []
/-- a class that is made by its __init__ -/
structure CF (K : PySem.W.Frag) (mg : Str → Option Value) (x : Str) (C : Addr) : Prop where
  cl : Cls K C
  mg : mg x = some (.ref C)
  makes : PySem.W.makesIn K C = true
  kp : PySem.W.keepIn K (.ref C) = true
def MkG (P : Program) (w : World) (K : PySem.W.Frag) (mg : Str → Option Value) (base : Heap) (C : Addr) (x : Str) (k : Nat) (ps : List Str) (sp : Sp) : Prop :=
  ∃ f fd, FnOk P w K mg base CX0 k f fd ps sp ∧ Mk K C f ∧ mg x = some (.ref C) ∧ Binds K fd ps []

section
variable {P : Program} {w : World} {K : PySem.W.Frag} {mg : Str → Option Value} {base : Heap}
theorem MtG.mono {C : Addr} {m : Str} {j k : Nat} {ps : List Str} {sp : Sp} (G : MtG P w K mg base C m j ps sp) (h : j ≤ k) : MtG P w K mg base C m k ps sp := by
  obtain ⟨f, fd, a, b⟩ := G
  exact ⟨f, fd, a.mono h, b⟩
theorem MtG.imp {C : Addr} {m : Str} {k : Nat} {ps : List Str} {sp sp' : Sp} (G : MtG P w K mg base C m k ps sp) (h : ∀ vs H Q E, sp' vs H Q E → sp vs H Q E) : MtG P w K mg base C m k ps sp' := by
  obtain ⟨f, fd, a, b⟩ := G
  exact ⟨f, fd, a.imp h, b⟩
theorem GF.g {x : Str} {st : Stmt} {N ps : List Str} {k : Nat} {sp : Sp} (F : GF K mg x st) (S : FnScope N ps (defScope st))
    (bnd : ∀ (kV doc pm : Value) (an : Option Addr) (cdv ct : Value) (us : List Value), us.length = ps.length → bindArgs (PySem.W.fnOf x x (defArgs st) (defBody st) (defScope st) .none kV doc pm an cdv ct) ⟨us, []⟩ = pure (ps.zip us))
    (len : ∀ vs H Q E, sp vs H Q E → vs.length = ps.length)
    (hbody : ∀ (f : Addr) (cdv : Value) (A : Around) (outer : List Env) (s : Shared) (H : Hp) (vs : List V) (Q : VK) (E : XK), Room k (A.deeper (envOfC x (defScope st) s.heap.objs.size f cdv)) → sp vs H Q E →
      ∃ t, PSs (cxOf CX0 P w K mg base N x (defScope st) f cdv A outer s H E).nox (defBody st) t ∧ t { nx := fun _ H' => Q .non H', rt := Q } (start N vs) H) : FnG P w K mg base x (k + 1) ps sp := by
  obtain ⟨f, fd, F, m⟩ := F
  exact ⟨f, fd, F.ok S len fun cdv A outer s H vs Q E hr h => hbody f cdv A outer s H vs Q E hr h, m, F.kp, F.binds bnd⟩
theorem MF.g {C : Addr} {m qual : Str} {st : Stmt} {N ps : List Str} {k : Nat} {sp : Sp} (F : MF K C m qual st) (cl : Cls K C) (S : FnScope N ps (defScope st))
    (bnd : ∀ (kV doc pm : Value) (an : Option Addr) (cdv ct : Value) (us : List Value), us.length = ps.length → bindArgs (PySem.W.fnOf m qual (defArgs st) (defBody st) (defScope st) .none kV doc pm an cdv ct) ⟨us, []⟩ = pure (ps.zip us))
    (len : ∀ vs H Q E, sp vs H Q E → vs.length = ps.length)
    (hbody : ∀ (f : Addr) (cdv : Value) (A : Around) (outer : List Env) (s : Shared) (H : Hp) (vs : List V) (Q : VK) (E : XK), Room k (A.deeper (envOfC qual (defScope st) s.heap.objs.size f cdv)) → sp vs H Q E →
      ∃ t, PSs (cxOf CX0 P w K mg base N qual (defScope st) f cdv A outer s H E).nox (defBody st) t ∧ t { nx := fun _ H' => Q .non H', rt := Q } (start N vs) H) : MtG P w K mg base C m (k + 1) ps sp := by
  obtain ⟨f, fd, F, m⟩ := F
  exact ⟨f, fd, F.ok S len fun cdv A outer s H vs Q E hr h => hbody f cdv A outer s H vs Q E hr h, cl, m, F.binds bnd⟩
theorem CF.g {C : Addr} {x : Str} {k : Nat} {ps : List Str} {sp : Sp} (c : CF K mg x C) (G : MtG P w K mg base C "__init__" k ps sp) : MkG P w K mg base C x k ps sp := by
  obtain ⟨f, fd, a, _, m, b⟩ := G
  exact ⟨f, fd, a, ⟨c.makes, m.at_, m.fn, c.kp⟩, c.mg, b⟩
end

section
variable {X : Cx} {x m : Str} {k : Nat} {ps : List Str} {sp : Sp} {C : Addr} {p pos apos : Pos} {e o : Expr} {es : List Expr} {t : TA} {to : TE}
/-- f(e, ..) -/
theorem pe_fn (G : FnG X.prog X.w X.K X.mg X.base x k ps sp) (hr : Room k X.A) (ha : PA X (e :: es) t) (hg : Gl X x := by rfl) (hdb : (x == ("__debug__" : Str)) = false := by decide)
    (he : starEach (e :: es) X.env = (false, eval e X.env) :: starEach es X.env := by rfl) (hpl : (backTo pos (starEach es X.env)).any (·.1) = false := by rfl) : PE X (.Call (.Name x p) (e :: es) [] pos) (tCall sp [] E0 t) := by
  obtain ⟨f, fd, a, b, c, d⟩ := G
  exact pe_call a hr hg b c d .nil pass0 ha hdb he hpl
/-- o.m(e, ..), the class of o known at the call -/
def tMethD (P : Program) (w : World) (K : PySem.W.Frag) (mg : Str → Option Value) (base : Heap) (n : Nat) (m : Str) (ta : TE) (t : TA) : TE := fun σ H Q => ta σ H fun x H1 => ∃ a C dx fs k ps sp, x = .ref a ∧ H1 a = some (.ins C dx fs) ∧ fs.lookup m = none ∧
  MtG P w K mg base C m k ps sp ∧ k ≤ n ∧ t σ H1 fun vs H2 => sp (x :: vs) H2 Q E0
theorem pe_mtD {P : Program} {w : World} {K : PySem.W.Frag} {mg : Str → Option Value} {base : Heap} {n : Nat} {pl : Sem Bool} (hr : Room n X.A) (ho : PE X o to) (ha : PA X (e :: es) t) (hP : X.prog = P) (hw : X.w = w) (hK : X.K = K) (hmg : X.mg = mg) (hbs : X.base = base)
    (hst : starEach (e :: es) X.env = (false, eval e X.env) :: starEach es X.env := by rfl) (hpl : (backTo pos (starEach es X.env)).any (·.1) = false := by rfl)
    (ht : eval (.Call (.Attribute o m apos) (e :: es) [] pos) X.env = (do
      let ov ← eval o X.env
      standAt apos.atName
      let (f, first) ← holding [ov] (getMethod ov m pl)
      callWith pos f first (backTo pos (starEach (e :: es) X.env)) (backToKw pos (keywordEach [] X.env))) := by rfl) :
    PE X (.Call (.Attribute o m apos) (e :: es) [] pos) (tMethD P w K mg base n m to t) := by
  subst hP hw hK hmg hbs
  intro pins s σ H Q I h
  refine PySem.W.methodCall_KW (pl := pl) (thn (ho pins s σ H _ I h) fun u s1 ⟨x, H1, I1, rx, a, C, dx, fs, k, ps, sp, ex, ea, l, G, hk, q⟩ => ?_) ht
  have hr := hr.mono hk
  obtain ⟨f, fd, F, c, hm, hb⟩ := G
  subst ex
  obtain rfl : u = Value.ref a := rx
  refine getmeth_ok I1 ea c hm l ?_
  refine PySem.W.callWith_K (first := [.ref a]) (h₀ := X.base) I.ok.mod.kin hm.kp (thn (ha pos pins s1 σ H1 _ I1 q) fun us s2 ⟨vs, H2, I2, r, q2⟩ => ⟨I2.kIn, ?_⟩) hst hpl
  exact run_fn (us := .ref a :: us) (vs := .ref a :: vs) (E := E0) F hr hb .nil pass0 I2 (.cons rfl r) (by rw [List.append_nil]; exact q2)
theorem pe_mt0D {P : Program} {w : World} {K : PySem.W.Frag} {mg : Str → Option Value} {base : Heap} {n : Nat} {pl : Sem Bool} (hr : Room n X.A) (ho : PE X o to) (hP : X.prog = P) (hw : X.w = w) (hK : X.K = K) (hmg : X.mg = mg) (hbs : X.base = base)
    (ht : eval (.Call (.Attribute o m apos) [] [] pos) X.env = (do
      let ov ← eval o X.env
      standAt apos.atName
      let (f, first) ← holding [ov] (getMethod ov m pl)
      callWith pos f first (backTo pos (starEach [] X.env)) (backToKw pos (keywordEach [] X.env))) := by rfl) :
    PE X (.Call (.Attribute o m apos) [] [] pos) (tMethD P w K mg base n m to tNil) := by
  subst hP hw hK hmg hbs
  intro pins s σ H Q I h
  refine PySem.W.methodCall_KW (pl := pl) (thn (ho pins s σ H _ I h) fun u s1 ⟨x, H1, I1, rx, a, C, dx, fs, k, ps, sp, ex, ea, l, G, hk, q⟩ => ?_) ht
  have hr := hr.mono hk
  obtain ⟨f, fd, F, c, hm, hb⟩ := G
  subst ex
  obtain rfl : u = Value.ref a := rx
  refine getmeth_ok I1 ea c hm l ?_
  exact PySem.W.callWith_K0 (first := [.ref a]) I1.kIn hm.kp (run_fn (us := [.ref a]) (vs := [.ref a]) (E := E0) F hr hb .nil pass0 I1 (.cons rfl .nil) (by rw [List.append_nil]; exact q))
/-- a name of a built-in type -/
theorem pe_ty {n : Str} {T : String} (hm : X.mg n = none) (hv : bootBuiltins n = some (.type T)) (hg : Gl X n := by rfl) (hn : n ≠ "__name__" := by decide) (hd : (n == ("__debug__" : Str)) = false := by decide) : PE X (.Name n pos) (tC (.ty T)) :=
  pe_bltn hg hm hv rfl hn hd
end

/-! ### the rules with the written part as a letter of its own (in a comprehension's block the context's own does not stand outside) -/
section
variable {X : Cx} {K : PySem.W.Frag}
theorem ix_listK (h : X.K = K) : IxR X (rIxL K) := h ▸ ix_list
theorem ix_tupK (h : X.K = K) : IxR X (rIxT K) := h ▸ ix_tup
theorem sl_listK (h : X.K = K) : SlR X (rSlL K) := h ▸ sl_list
theorem call_len_seqK (h : X.K = K) : CallR X (.builtin "len") (fun xs H Q => ∃ p ys, xs = [.ref p] ∧ (SqL K H p ys ∨ SqT K H p ys) ∧ Q (.int ys.length) H) := h ▸ call_len_seq
theorem call_allBK (hc : X.calm = true) (h : X.K = K) : CallR X (.builtin "all") (fun xs H Q => ∃ (D : Addr) (bs : List Bool), xs = [.ref D] ∧ SqL K H D (bs.map V.bl) ∧ Q (.bl (bs.all id)) H) := h ▸ call_allB hc
theorem call_anyBK (hc : X.calm = true) (h : X.K = K) : CallR X (.builtin "any") (fun xs H Q => ∃ (D : Addr) (bs : List Bool), xs = [.ref D] ∧ SqL K H D (bs.map V.bl) ∧ Q (.bl (bs.any id)) H) := h ▸ call_anyB hc
theorem pe_fldK {e : Expr} {f : Str} {ta : TE} {pos : Pos} (h : X.K = K) (he : PE X e ta) (hb : attributeBase e f X.env (eval e X.env) = eval e X.env) : PE X (.Attribute e f pos) (tFld K ta f) := h ▸ pe_fld he hb
theorem pi_listK {tg l : Expr} {tl : TE} (h : X.K = K) (hl : PE X l tl) : PI X tg l (iList K tl) := h ▸ pi_list hl
theorem pg_two {i j : Nat} {x y : Str} {px py pos : Pos} {k : Nat} (h : X.K = K) (hc : X.calm = true) (hN : X.N.Nodup) (hi : X.N[i]? = some x) (hj : X.N[j]? = some y) (hx : Loc X.env.scope x) (hy : Loc X.env.scope y)
    (hfx : X.fn x = true ∨ X.env.scope.names.lookup x = some .local := by first | exact .inl rfl | exact .inr rfl | assumption) (hfy : X.fn y = true ∨ X.env.scope.names.lookup y = some .local := by first | exact .inl rfl | exact .inr rfl | assumption) :
    PG X (.Tuple [.Name x px, .Name y py] k pos) (gTup K 2 (gCons (gName i) (gCons (gName j) gNil))) := h ▸ pg_tup hc (pgs_cons (pg_name hN hi hx hfx) (pgs_cons (pg_name hN hj hy hfy) pgs_nil))
end
theorem bt_ty_str : bootBuiltins "str" = some (.type "str") := by decide +kernel
theorem bt_max : bootBuiltins "max" = some (.builtin "max") := by decide +kernel
theorem bt_all : bootBuiltins "all" = some (.builtin "all") := by decide +kernel
theorem bt_any : bootBuiltins "any" = some (.builtin "any") := by decide +kernel
theorem bt_isinstance : bootBuiltins "isinstance" = some (.builtin "isinstance") := by decide +kernel

end L2

set_option linter.all false
set_option maxRecDepth 100000
set_option maxHeartbeats 4000000
/-! == and != of two lists of flat items. -/
namespace L2
open PySem PySem.Spec PyProof.Rows
theorem Vals.rel {xs : List V} {us : List Value} (r : Vals xs us) : ∀ (j : Nat) (h1 : j < xs.length) (h2 : j < us.length), RelV xs[j] us[j] := by
  induction r with
  | nil => intro j h1; simp at h1
  | cons a t ih =>
    intro j h1 h2
    cases j with
    | zero => exact a
    | succ j => exact ih j (by simpa using h1) (by simpa using h2)
def eqVs : List V → List V → Bool
  | [], [] => true
  | x :: xs, y :: ys => eqV x y && eqVs xs ys
  | _, _ => false
theorem eqVs_len : ∀ {xs ys : List V}, xs.length ≠ ys.length → eqVs xs ys = false
  | [], [], h => absurd rfl h
  | [], _ :: _, _ => rfl
  | _ :: _, [], _ => rfl
  | x :: xs, y :: ys, h => by
    have : xs.length ≠ ys.length := fun e => h (by simp [e])
    rw [eqVs, eqVs_len this, Bool.and_false]
theorem eqVs_range : ∀ {xs ys : List V}, xs.length = ys.length → (List.range xs.length).all (fun j => eqV (xs.getD j .non) (ys.getD j .non)) = eqVs xs ys
  | [], [], _ => rfl
  | [], _ :: _, h => by simp at h
  | _ :: _, [], h => by simp at h
  | x :: xs, y :: ys, h => by
    have h' : xs.length = ys.length := by simpa using h
    rw [List.length_cons, List.range_succ_eq_map, List.all_cons, List.all_map, eqVs, ← eqVs_range h']
    rfl
section
variable {X : Cx} {K : PySem.W.Frag}
theorem eq_items {A : Around} {s : Shared} {xs ys : List V} {ia ib : List Value} (ra : Vals xs ia) (rb : Vals ys ib) (fx : xs.all flatV = true) (fy : ys.all flatV = true) :
    ∀ j (h1 : j < ia.toArray.size) (h2 : j < ib.toArray.size), SeqAt.EqAt A s ia.toArray[j] ib.toArray[j] (eqV (xs.getD j .non) (ys.getD j .non)) := by
  intro j h1 h2
  have la := ra.length
  have lb := rb.length
  have g1 : j < ia.length := by simpa using h1
  have g2 : j < ib.length := by simpa using h2
  have e1 : xs.getD j .non = xs[j]'(by omega) := by rw [List.getD_eq_getElem?_getD, List.getElem?_eq_getElem (by omega)]; rfl
  have e2 : ys.getD j .non = ys[j]'(by omega) := by rw [List.getD_eq_getElem?_getD, List.getElem?_eq_getElem (by omega)]; rfl
  rw [e1, e2]
  have k1 := ra.rel j (by omega) g1
  have k2 := rb.rel j (by omega) g2
  have q := eqAt_V (A := A) (s := s) k1 k2 (List.all_eq_true.mp fx _ (List.getElem_mem _)) (List.all_eq_true.mp fy _ (List.getElem_mem _))
  simpa using q
def rEqL (K : PySem.W.Frag) (neg : Bool) : R2 := fun x y H Q => ∃ p r xs ys, x = .ref p ∧ y = .ref r ∧ SqL K H p xs ∧ SqL K H r ys ∧ xs.all flatV = true ∧ ys.all flatV = true ∧ Q (.bl (if neg then !eqVs xs ys else eqVs xs ys)) H
theorem op_eqL (h : X.K = K) (hu : X.A.units < cLine) : OpR X (compareOp .Eq) (rEqL K false) := by
  subst h
  intro pins s σ H x y v u Q I rx ry h
  obtain ⟨p, r, xs, ys, rfl, rfl, hp, hr, fx, fy, q⟩ := h
  cases rx; cases ry
  obtain ⟨ia, ra, pa, za⟩ := I.list hp
  obtain ⟨ib, rb, pb, zb⟩ := I.list hr
  have la := ra.length
  have lb := rb.length
  by_cases hsz : xs.length = ys.length
  · refine SeqAt.eq_listAt (e := fun j => eqV (xs.getD j .non) (ys.getD j .non)) pa.isList pb.isList (by simp; omega) hu (eq_items ra rb fx fy) ⟨.bl _, H, I, rfl, ?_⟩
    rw [List.size_toArray, ← la, eqVs_range hsz]
    exact q
  · refine SeqAt.eq_list_lengthsAt pa.isList pb.isList (by simp; omega) hu ⟨.bl false, H, I, rfl, ?_⟩
    have q' : Q (.bl (eqVs xs ys)) H := q
    rw [eqVs_len hsz] at q'
    exact q'
theorem op_neL (h : X.K = K) (hu : X.A.units < cLine) : OpR X (compareOp .NotEq) (rEqL K true) := by
  subst h
  intro pins s σ H x y v u Q I rx ry h
  obtain ⟨p, r, xs, ys, rfl, rfl, hp, hr, fx, fy, q⟩ := h
  cases rx; cases ry
  obtain ⟨ia, ra, pa, za⟩ := I.list hp
  obtain ⟨ib, rb, pb, zb⟩ := I.list hr
  have la := ra.length
  have lb := rb.length
  have q' : Q (.bl (!eqVs xs ys)) H := q
  by_cases hsz : xs.length = ys.length
  · refine SeqAt.RcNeAt.lists (e := fun j => eqV (xs.getD j .non) (ys.getD j .non)) pa.isList pb.isList (by simp; omega) hu (eq_items ra rb fx fy) _ _ _ _ ⟨.bl _, H, I, rfl, ?_⟩
    rw [List.size_toArray, ← la, eqVs_range hsz]
    exact q'
  · refine SeqAt.RcNeAt.lists_lengths pa.isList pb.isList (by simp; omega) hu _ _ _ _ ⟨.bl true, H, I, rfl, ?_⟩
    rw [eqVs_len hsz] at q'
    exact q'
end
end L2

set_option linter.all false
set_option maxRecDepth 100000
set_option maxHeartbeats 4000000
/-! isinstance against own classes; a list taken apart into names. -/
namespace L2
open PySem PySem.Spec PyProof.Rows
section
variable {X : Cx} {K : PySem.W.Frag}
end

section
variable {prog : Program} {w : World} {A : Around} {E : Value → Shared → Prop} {s : Shared}
end
section
variable {X : Cx} {K : PySem.W.Frag} {pos : Pos}
end
end L2

set_option linter.all false
set_option maxRecDepth 100000
set_option maxHeartbeats 4000000
/-! zip of two lists. -/
namespace L2
open PySem PySem.Spec PyProof.Rows
section
variable {X : Cx} {es : List Expr} {k : Nat} {tpos : Pos}
end
end L2

set_option linter.all false
set_option maxRecDepth 100000
set_option maxHeartbeats 4000000
/-! name = [comprehension]: the store ahead of the letting go. -/
namespace L2
open PySem PySem.Spec PyProof.Rows
section
variable {X : Cx} {elt tg iter : Expr} {ifs : List Expr} {scope : Scope} {pos : Pos} {N : List Str} {js : List (Option Nat)} {wi : TI} {g : TG} {tc : TT} {te : TE}
end
end L2

set_option linter.all false
namespace L2
open PySem PySem.StrLaws Builtin Builtin.Str
end L2

set_option linter.all false
set_option maxRecDepth 100000
set_option maxHeartbeats 4000000
/-! f-strings, split, str(n), int(text). -/
namespace L2
open PySem PySem.Spec PyProof.Rows
section
variable {X : Cx} {e : Expr} {es : List Expr} {te : TE} {tr : TF} {pos : Pos}
end
end L2

set_option linter.all false
set_option maxRecDepth 100000
set_option maxHeartbeats 4000000
/-! objects made, by what one wants of them; comprehensions by place. -/
namespace L2
open PySem PySem.Spec PyProof.Rows
section
variable {X : Cx} {x m : Str} {k : Nat} {ps : List Str} {sp : Sp} {C : Addr} {p pos apos : Pos} {e o : Expr} {es : List Expr} {t : TA} {to : TE}
theorem pe_mkI {r : List V → Hp → VK → Prop} (G : MkG X.prog X.w X.K X.mg X.base C x k ps sp) (hr : Room (k + 1) X.A)
    (imp : ∀ vs H Q, r vs H Q → ∀ x dx, H x = none → H dx = none → dx ≠ x → sp (.ref x :: (vs ++ [])) (upd (upd H dx (.own x)) x (.ins C dx [])) (fun v H2 => v = .non ∧ Q (.ref x) H2) E0)
    (ha : PA X (e :: es) t) (hg : Gl X x := by rfl) (hdb : (x == ("__debug__" : Str)) = false := by decide)
    (he : starEach (e :: es) X.env = (false, eval e X.env) :: starEach es X.env := by rfl) (hpl : (backTo pos (starEach es X.env)).any (·.1) = false := by rfl) : PE X (.Call (.Name x p) (e :: es) [] pos) (tCB r t) := by
  obtain ⟨f, fd, a, M, hm, hb⟩ := G
  intro pins s σ H Q I h
  refine wpAny_Call_Name_kw (ld_glob I hg hm ?_ hdb)
  refine PySem.W.callWith_K (h₀ := X.base) I.ok.mod.kin M.kp (thn (ha pos pins s σ H _ I h) fun us s1 ⟨vs, H1, I1, rv, q⟩ => ⟨I1.kIn, ?_⟩) he hpl
  exact run_make M a hr hb .nil pass0 I1 rv (imp vs H1 Q q)
end
end L2

set_option linter.all false
set_option maxRecDepth 100000
set_option maxHeartbeats 4000000
/-! comprehensions of any target and test, item by item; sum. -/
namespace L2
open PySem PySem.Spec PyProof.Rows
section
variable {α : Type} {P : α → V → Hp → Prop} {H H' : Hp}
end
section
variable {X : Cx} {K : PySem.W.Frag}
end
end L2

set_option linter.all false
set_option maxRecDepth 100000
set_option maxHeartbeats 4000000
/-! enumerate of a list. -/
namespace L2
open PySem PySem.Spec PyProof.Rows
section
variable {X : Cx} {es : List Expr} {k : Nat} {tpos : Pos}
end
end L2

set_option linter.all false
set_option maxRecDepth 100000
set_option maxHeartbeats 4000000
/-! tuples of flat items compared, looked for in a list, lists of them compared; a list held against an empty one. -/
namespace L2
open PySem PySem.Spec PyProof.Rows
section
variable {X : Cx} {K : PySem.W.Frag} {pins : List (Addr × Obj)} {s : Shared} {σ : St} {H : Hp} {A : Around}
/-- a list held against one without items -/
def rEqE (K : PySem.W.Frag) (neg : Bool) : R2 := fun x y H Q => ∃ p r xs, x = .ref p ∧ y = .ref r ∧ SqL K H p xs ∧ SqL K H r [] ∧ Q (.bl (if neg then !xs.isEmpty else xs.isEmpty)) H
theorem op_eqE (h : X.K = K) (hu : X.A.units < cLine) : OpR X (compareOp .Eq) (rEqE K false) := by
  subst h
  intro pins s σ H x y v u Q I rx ry h
  obtain ⟨p, r, xs, rfl, rfl, hp, hr, q⟩ := h
  cases xs with
  | nil => exact op_eqL rfl hu pins s σ H _ _ v u Q I rx ry ⟨p, r, [], [], rfl, rfl, hp, hr, rfl, rfl, q⟩
  | cons a t =>
    cases rx; cases ry
    obtain ⟨ia, ra, pa, za⟩ := I.list hp
    obtain ⟨ib, rb, pb, zb⟩ := I.list hr
    have la := ra.length
    have lb := rb.length
    rw [List.length_cons] at la
    rw [List.length_nil] at lb
    exact SeqAt.eq_list_lengthsAt pa.isList pb.isList (by simp; omega) hu ⟨.bl false, H, I, rfl, q⟩
theorem op_neE (h : X.K = K) (hu : X.A.units < cLine) : OpR X (compareOp .NotEq) (rEqE K true) := by
  subst h
  intro pins s σ H x y v u Q I rx ry h
  obtain ⟨p, r, xs, rfl, rfl, hp, hr, q⟩ := h
  cases xs with
  | nil => exact op_neL rfl hu pins s σ H _ _ v u Q I rx ry ⟨p, r, [], [], rfl, rfl, hp, hr, rfl, rfl, q⟩
  | cons a t =>
    cases rx; cases ry
    obtain ⟨ia, ra, pa, za⟩ := I.list hp
    obtain ⟨ib, rb, pb, zb⟩ := I.list hr
    have la := ra.length
    have lb := rb.length
    rw [List.length_cons] at la
    rw [List.length_nil] at lb
    exact SeqAt.RcNeAt.lists_lengths pa.isList pb.isList (by simp; omega) hu _ _ _ _ ⟨.bl true, H, I, rfl, q⟩
end
end L2

set_option linter.all false
set_option maxRecDepth 100000
set_option maxHeartbeats 4000000
/-! a statement cut off from what follows; what is never reached; list += list; tuples unlike; tuples walked. -/
namespace L2
open PySem PySem.Spec PyProof.Rows
/-- what holds behind a statement is told of its own -/
@[irreducible] def tCut (t : TS) : TS := fun D σ H => ∃ R : St → Hp → Prop, t { D with nx := R } σ H ∧ ∀ σ' H', R σ' H' → D.nx σ' H'
theorem tCut.mk {t : TS} {D : Ends} {σ : St} {H : Hp} (R : St → Hp → Prop) (h : t { D with nx := R } σ H) (h' : ∀ σ' H', R σ' H' → D.nx σ' H') : tCut t D σ H := by unfold tCut; exact ⟨R, h, h'⟩
section
variable {X : Cx} {K : PySem.W.Frag}
theorem ps_cut {st : Stmt} {t : TS} (h : PS X st t) : PS X st (tCut t) := by
  intro pins s σ H D I q
  unfold tCut at q
  obtain ⟨R, h1, h2⟩ := q
  refine thn (h pins s σ H _ I h1) fun f s' z => ?_
  cases f with
  | next => obtain ⟨σ', H', I', r⟩ := z; exact ⟨σ', H', I', h2 σ' H' r⟩
  | brk => exact z
  | cont => exact z
  | ret u => exact z
theorem inplace_list {M : Model} {A : Around} {E : Value → Shared → Prop} {s : Shared} {a b : Value} {Q : Value → Shared → Prop} (ha : s.TypeIs a "list") (hb : s.TypeIs b "list") (hc : wpAny M A (call (.builtin "list.__iadd__") [a, b]) Q E s) : wpAny M A (inplaceOp .Add a b) Q E s := by
  unfold inplaceOp
  refine wpAny_holding ?_
  have hl : typeLookup (.type "list") (dunderI "add") = pure (some (.builtin "list.__iadd__")) := F.slot_list_iadd.lookup
  have hfi : fillsInplaceSlot (.type "list") "add" (Operator.Add == .Add) = pure false := by
    unfold fillsInplaceSlot
    show (typeLookup (.type "list") (dunderI "add") >>= fun fi => pure (fi.isSome && !isSeqSlot fi)) = pure false
    rw [hl]; rfl
  have hsi : seqSlot? (.type "list") (dunderI "add") = pure (some (.builtin "list.__iadd__")) := by
    unfold seqSlot?
    rw [hl]; rfl
  refine wpAny_bind (wpAny_typeOf ha (wpAny_bind (wpAny_of_eq hfi ?_)))
  show wpAny M A (if false = true then _ else _) Q E s
  rw [if_neg Bool.false_ne_true]
  refine wpAny_bind (binaryOp1_none (nm := "add") ha hb noFill_list_add ?_)
  refine wpAny_bind (wpAny_of_eq hsi ?_)
  exact wpAny_bind (wpAny_rule hc)
def ipL : TIp := fun x y H Q => ∃ l b xs zs, x = .ref l ∧ y = .ref b ∧ H l = some (.lst xs) ∧ H b = some (.lst zs) ∧ xs.length + zs.length ≤ sizeLine ∧ Q (.ref l) (upd H l (.lst (xs ++ zs)))
theorem ip_addL : PIp X .Add ipL := by
  intro pins s σ H x y v u Q I rx ry h
  obtain ⟨l, b, xs, zs, rfl, rfl, hH, hB, hz, q⟩ := h
  cases rx
  cases ry
  obtain ⟨z, its, n, r, hl, e⟩ := I.lstM hH
  obtain ⟨z2, its2, n2, r2, hl2, e2⟩ := I.lstM hB
  have hsz : its.toArray.size + its2.toArray.size ≤ sizeLine := by rw [List.size_toArray, List.size_toArray]; omega
  have hlong : ¬ (!its.toArray.isEmpty && Builtin.List.listTooLong (its.toArray.size + its2.toArray.size)) = true := by
    rw [notLongL hsz, Bool.and_false]
    exact Bool.false_ne_true
  refine inplace_list ⟨_, e, rfl⟩ ⟨_, e2, rfl⟩ ?_
  refine call_meets F.slot_list_iadd ⟨_, e, rfl⟩ F.entry_list_iadd (F.args_list_iadd_2 _ _)
    (AutoSeq1.list___iadd___list_list_0 l its.toArray n b its2.toArray n2 hlong (by rw [List.size_toArray]; omega) (by omega)) ⟨e, e2, ?_⟩
  refine ⟨.ref l, _, I.lset (its' := its ++ its2) hH e (by simp) (r.append r2) ?_, rfl, q⟩
  rw [List.length_append]
  omega
end
end L2
namespace L2
open PySem PySem.Spec PyProof.Rows
theorem mul_one {c : Nat} {k : Int} (h0 : 1 ≤ k) (h1 : k ≤ 5) : Txt.mul ⟨#[c]⟩ k = ⟨(List.replicate k.toNat c).toArray⟩ := by
  have : k = 1 ∨ k = 2 ∨ k = 3 ∨ k = 4 ∨ k = 5 := by omega
  rcases this with rfl | rfl | rfl | rfl | rfl <;> rfl
theorem op_mulS1 {X : Cx} : OpR X (binaryOp .Mult) (fun x y H Q => ∃ c k, x = T [c] ∧ y = .int k ∧ 1 ≤ k ∧ k ≤ 5 ∧ Q (T (List.replicate k.toNat c)) H) := by
  intro pins s σ H x y v u Q I rx ry h
  obtain ⟨c, k, rfl, rfl, h0, h1, q⟩ := h
  obtain ⟨t, rfl⟩ := rx
  obtain ⟨t', rfl⟩ := ry
  refine SB.mul ⟨?_, fun _ _ => ?_, fun _ _ => ?_⟩ fun t2 k2 => ?_
  · rw [decide_eq_false (by omega), decide_eq_false (by omega)]; rfl
  · have : k = 1 ∨ k = 2 ∨ k = 3 ∨ k = 4 ∨ k = 5 := by omega
    rcases this with rfl | rfl | rfl | rfl | rfl <;> (show ¬ ((1 : Int) > _); decide)
  · have e : ({ cps := #[c] } : Str).length = 1 := rfl
    rw [show (⟨[c].toArray⟩ : Str).length = 1 from rfl]
    have : k = 1 ∨ k = 2 ∨ k = 3 ∨ k = 4 ∨ k = 5 := by omega
    clear q e
    rcases this with rfl | rfl | rfl | rfl | rfl <;> decide
  · rw [mul_one h0 h1]
    exact ⟨T (List.replicate k.toNat c), H, I.tok _, ⟨t2, rfl⟩, q⟩
section
variable {α β : Type} {H : Hp}
end
end L2

set_option linter.all false
set_option maxRecDepth 100000
set_option maxHeartbeats 4000000
/-! exceptions of own classes: an exception leaves a def, and the defs that called it. -/
namespace L2
open PySem PySem.Spec PyProof.Rows
section
variable {X : Cx} {pins : List (Addr × Obj)} {σ : St} {H : Hp} {s : Shared} {E : XK} {Ex : Value → Shared → Prop}
end
end L2

set_option linter.all false
set_option maxRecDepth 100000
set_option maxHeartbeats 4000000
/-! defs that may raise: their bundles, raise, and calls that pass an exception on. -/
namespace L2
open PySem PySem.Spec PyProof.Rows
/-! ### bundles of defs that may raise -/
section
variable {P : Program} {w : World} {K : PySem.W.Frag} {mg : Str → Option Value} {base : Heap}
end
section
variable {X : Cx} {x m : Str} {k : Nat} {ps : List Str} {sp : Sp} {C : Addr} {p pos apos : Pos} {e o : Expr} {es : List Expr} {t : TA} {to : TE} {E : XK}
end
end L2

set_option linter.all false
set_option maxRecDepth 100000
set_option maxHeartbeats 4000000
/-! isinstance of exceptions of own classes. -/
namespace L2
open PySem PySem.Spec PyProof.Rows
section
variable {prog : Program} {w : World} {A : Around} {E : Value → Shared → Prop} {K : PySem.W.Frag} {x C : Addr} {h : Heap} {g : Array GenState} {d : Drawn} {t : Nat} {os : OsState} {o : Obj}
end
end L2

set_option linter.all false
set_option maxRecDepth 100000
set_option maxHeartbeats 4000000
/-! try: one statement that may raise; except C as n. -/
namespace L2
open PySem PySem.Spec PyProof.Rows
section
variable {X : Cx} {pins : List (Addr × Obj)} {σ : St} {H : Hp} {s : Shared}
end
/-! ### one statement that may raise -/
section
variable {X : Cx} {x m : Str} {k : Nat} {ps : List Str} {sp : Sp} {C : Addr} {p pos apos : Pos} {e o : Expr} {es : List Expr} {t : TA} {to : TE}
end
section
variable {X : Cx}
end
end L2

set_option linter.all false
set_option maxRecDepth 100000
set_option maxHeartbeats 4000000
/-! isinstance(e, C), isinstance(e, (C, ..)) for a caught exception. -/
namespace L2
open PySem PySem.Spec PyProof.Rows
section
variable {X : Cx} {K : PySem.W.Frag}
end
end L2

set_option linter.all false
set_option maxRecDepth 100000
set_option maxHeartbeats 4000000
/-! lists of things alike compared; a def that may raise, called where it can't. -/
namespace L2
open PySem PySem.Spec PyProof.Rows
section
variable {X : Cx} {K : PySem.W.Frag} {pins : List (Addr × Obj)} {σ : St} {H : Hp} {s : Shared} {A : Around}
end
end L2

set_option linter.all false
set_option maxRecDepth 100000
set_option maxHeartbeats 4000000
/-! for nets: an item of a list changed by what it is; any of numbers; `is True`; lists of lists of numbers compared; x in a list of numbers. -/
namespace L2
open PySem PySem.Spec PyProof.Rows
section
variable {X : Cx} {K : PySem.W.Frag} {pins : List (Addr × Obj)} {σ : St} {H : Hp} {s : Shared} {A : Around}
end
end L2

set_option linter.all false
set_option maxRecDepth 100000
set_option maxHeartbeats 4000000
/-! sets of a list's numbers, their size; list.insert; a list from its end. -/
namespace L2
open PySem PySem.Spec PyProof.Rows
section
variable {X : Cx} {K : PySem.W.Frag}
end
/-! xs[::-1] of a list: some of its items, no more than it has -/
end L2

set_option linter.all false
set_option maxRecDepth 100000
/-! THE HAND LAYER, for ints, bools, texts, own classes, DICTS (int and text keys), calls, loops. Paste it whole ahead of your own text; what your proof does not reach may be deleted. -/
namespace L2
open PySem PySem.Spec PyProof.Rows

end L2

namespace L2
open PySem PySem.Spec PyProof.Rows

section
variable (P : Program) (w : World)
end

section
variable {P : Program} {w : World} {H H' : Hp} {h h' : Heap} {a : Addr} {o : HO}
end

section
variable {P : Program} {w : World} {H : Hp} {h h' : Heap} {x e : Addr} {o' : HO}
end

/-! ### kept unless tracked; of the frames at fs (the callers') the slots may change (an exception that passes writes there); of the records at ex (iterators) nothing is said -/
section
variable {fs fs' ex ex' : List Addr} {H H1 H2 : Hp} {h h1 h2 h' : Heap} {a x e : Addr} {o : HO}
end

/-! ### the heap without what is tracked -/
/-! ### OpenK's ledger, filled with every new object but one -/
end L2

namespace L2
open PySem PySem.Spec PyProof.Rows

section
variable {X : Cx} {pins : List (Addr × Obj)} {σ : List (Option V)} {H H' : Hp} {s : Shared} {h' : Heap}

end

/-! ### the judgements -/
end L2

namespace L2
open PySem PySem.Spec PyProof.Rows
section
variable {X : Cx}

/-! ### names and constants -/
/-! ### arithmetic -/
variable {a b : Expr} {ta tb : TE} {pos : Pos}
/-! ### comparisons -/
/-! ### and, or, not -/
variable {tA tB' : TT} {rest : List Expr}
end
end L2

namespace L2
open PySem PySem.Spec PyProof.Rows

/-! ### a list, a tuple that is read: tracked, frozen, or an object of the module -/
section
variable {X : Cx} {pins : List (Addr × Obj)} {σ : St} {H : Hp} {s : Shared} {a : Addr} {xs ys : List V}
end

/-! ### another wish about exceptions -/
section
variable {X : Cx} {pins : List (Addr × Obj)} {σ : St} {H : Hp} {s : Shared} {E : Value → Shared → Prop}
end

/-! ### blocks and small statements -/
section
variable {X : Cx} {st : Stmt} {rest : List Stmt} {t u : TS} {e : Expr} {te : TE} {pos : Pos}
end

/-! ### targets -/
section
variable {X : Cx} {pos : Pos}
end

/-! ### while -/
section
variable {X : Cx} {pos : Pos}
end

/-! ### what a loop or a comprehension walks -/
end L2

namespace L2
open PySem PySem.Spec PyProof.Rows
section
variable {X : Cx} {tg : Expr}
/-! ### for -/
end

/-! ### the forms one uses -/
end L2

namespace L2
open PySem PySem.Spec PyProof.Rows

section
variable {X : Cx} {a b c : Expr} {ta tb tc : TE} {pos : Pos}

/-! ### ints -/
/-! ### bools among ints: n += (a < b) -/
end

/-! ### comparisons -/
section
variable {X : Cx} {a b c : Expr} {ta tb tc : TE} {pos : Pos}
/-! ### truth -/
/-! ### strs and bytes -/
/-! ### scalar builtins, by CallR -/
end
end L2

namespace L2
open PySem PySem.Spec PyProof.Rows

/-! ### an instance, its attributes a map -/
section
variable {prog : Program} {w : World} {A : Around} {E : Value → Shared → Prop} {s : Shared} {K : PySem.W.Frag} {x dx C f : Addr} {mA : Str → Option Value} {name : Str} {v : Value}

end

/-! ### the attributes as a list of pairs -/
section
variable {P : Program} {w : World} {H H' : Hp} {h h' : Heap} {a C dx : Addr} {fs fs' : List (Str × V)}
end

/-! ### what of the text a class must have -/
section
variable {X : Cx} {pins : List (Addr × Obj)} {σ : St} {H : Hp} {s : Shared} {a C dx : Addr} {fs : List (Str × V)} {f : Str} {v : V} {A : Around} {E : Value → Shared → Prop}

end

/-! ### readings and rules -/
section
variable {X : Cx} {o e value : Expr} {f : Str} {pos pos' tpos : Pos} {ta tv : TE}
end

/-! ### isinstance -/
section
variable {X : Cx} {pins : List (Addr × Obj)} {σ : St} {H : Hp} {s : Shared} {A : Around} {E : Value → Shared → Prop} {Q : Value → Shared → Prop} {c : Value} {b : Bool}
end
end L2

namespace L2
open PySem PySem.Spec PyProof.Rows

/-! ### room -/
/-! ### argument lists and displays -/
section
variable {X : Cx} {e : Expr} {es : List Expr} {te : TE} {t : TA} {pos : Pos}
end

/-! ### what a def promises -/
section
variable {X : Cx} {pins : List (Addr × Obj)} {σ : St} {H : Hp} {s s' : Shared}
end

/-! ### calls -/
section
variable {X : Cx} {CX : CXT} {k : Nat} {f C : Addr} {fd : FuncData} {ps : List Str} {sp : Sp} {dvs : List V} {ds : List Value} {E : XK} {x m : Str} {p pos apos : Pos} {e o : Expr} {es : List Expr} {ta : TE} {t : TA}

end

/-! ### keywords -/
section
variable {X : Cx} {CX : CXT} {k : Nat} {f C : Addr} {fd : FuncData} {ps ks : List Str} {sp : Sp} {E : XK} {x m : Str} {p pos apos kpos : Pos} {e o : Expr} {es : List Expr} {kws : List Keyword} {te ta : TE} {t tk : TA} {nm : Option Str}
variable {g : List Value → List Value → List Value} {gV : List V → List V → List V}
end

/-! ### a def's body keeps its promise -/
end L2

namespace L2
open PySem PySem.Spec PyProof.Rows
section
variable {X : Cx} {x : Str} {p pos : Pos} {e : Expr} {es : List Expr} {t : TA} {id T : String} {r : List V → Hp → VK → Prop}

end
end L2

namespace L2
open PySem PySem.Spec PyProof.Rows

/-! ### lists of pairs as tables -/
section
variable {κ : Type} [DecidableEq κ]
def valV (kvs : List (κ × V)) (k : κ) : Option V := (kvs.find? fun kv => decide (kv.1 = k)).map (·.2)
/-- in its place, or at the end -/
def putK (kvs : List (κ × V)) (k : κ) (v : V) : List (κ × V) :=
  if (kvs.any fun kv => decide (kv.1 = k)) = true then kvs.map (fun kv => if kv.1 = k then (kv.1, v) else kv) else kvs ++ [(k, v)]
theorem valV_pos {p : κ × V} {r : List (κ × V)} {k : κ} (e : p.1 = k) : valV (p :: r) k = some p.2 := by simp [valV, List.find?_cons, e]
theorem valV_neg {p : κ × V} {r : List (κ × V)} {k : κ} (e : ¬ p.1 = k) : valV (p :: r) k = valV r k := by simp [valV, List.find?_cons, e]
theorem valV_any (k : κ) : ∀ kvs : List (κ × V), (kvs.any fun kv => decide (kv.1 = k)) = (valV kvs k).isSome
  | [] => rfl
  | p :: r => by
    rw [List.any_cons]
    by_cases e : p.1 = k
    · simp only [valV_pos e, decide_eq_true e, Bool.true_or, Option.isSome_some]
    · rw [valV_neg e, decide_eq_false e, Bool.false_or]; exact valV_any k r
theorem length_putK (kvs : List (κ × V)) (k : κ) (v : V) : (putK kvs k v).length ≤ kvs.length + 1 := by
  unfold putK
  split
  · rw [List.length_map]; omega
  · rw [List.length_append, List.length_cons, List.length_nil]; omega
theorem putK_new {kvs : List (κ × V)} {k : κ} (v : V) (h : valV kvs k = none) : putK kvs k v = kvs ++ [(k, v)] := by
  unfold putK
  rw [valV_any, h]
  exact if_neg (by decide)

theorem RelO.isSome_eq {o : Option V} {u : Option Value} (r : RelO o u) : o.isSome = u.isSome := by
  cases o with
  | none => cases u with
    | none => rfl
    | some _ => exact (show False from r).elim
  | some _ => cases u with
    | none => exact (show False from r).elim
    | some _ => rfl
/-- raw tables of the same keys -/
theorem KV.val {kvs : List (κ × V)} {vs : List (κ × Value)} (r : KV kvs vs) (k : κ) : RelO (valV kvs k) (valueAt vs k) := by
  unfold KV at r
  induction r with
  | nil => exact True.intro
  | @cons p q ps qs h t ih =>
    obtain ⟨h1, h2⟩ := h
    by_cases e : p.1 = k
    · have e' : q.1 = k := h1.symm.trans e
      have b : valueAt (q :: qs) k = some q.2 := by simp [valueAt, List.find?_cons, e']
      rw [valV_pos e, b]; exact h2
    · have e' : ¬ q.1 = k := fun z => e (h1.trans z)
      have b : valueAt (q :: qs) k = valueAt qs k := by simp [valueAt, List.find?_cons, e']
      rw [valV_neg e, b]; exact ih
theorem KV.any {kvs : List (κ × V)} {vs : List (κ × Value)} (r : KV kvs vs) (k : κ) : (kvs.any fun kv => decide (kv.1 = k)) = vs.any fun kv => decide (kv.1 = k) := by
  unfold KV at r
  induction r with
  | nil => rfl
  | cons h t ih => rw [List.any_cons, List.any_cons, ih, h.1]
theorem KV.repl {kvs : List (κ × V)} {vs : List (κ × Value)} (r : KV kvs vs) (k : κ) {y : V} {u : Value} (ry : RelV y u) :
    KV (kvs.map fun kv => if kv.1 = k then (kv.1, y) else kv) (vs.map fun kv => if kv.1 = k then (kv.1, u) else kv) := by
  unfold KV at r ⊢
  induction r with
  | nil => exact .nil
  | @cons p q ps qs h t ih =>
    rw [List.map_cons, List.map_cons]
    refine .cons ?_ ih
    obtain ⟨h1, h2⟩ := h
    by_cases e : p.1 = k
    · rw [if_pos e, if_pos (h1.symm.trans e)]; exact ⟨h1, ry⟩
    · rw [if_neg e, if_neg (fun z => e (h1.trans z))]; exact ⟨h1, h2⟩
theorem KV.put {kvs : List (κ × V)} {vs : List (κ × Value)} (r : KV kvs vs) (k : κ) {y : V} {u : Value} (ry : RelV y u) : KV (putK kvs k y) (stored vs k u) := by
  unfold putK stored
  rw [r.any k]
  by_cases e : (vs.any fun kv => decide (kv.1 = k)) = true
  · rw [if_pos e, if_pos e]; exact r.repl k ry
  · rw [if_neg e, if_neg e]; exact Paired.snoc r ⟨rfl, ry⟩
theorem KV.keys {kvs : List (κ × V)} {vs : List (κ × Value)} (r : KV kvs vs) : kvs.map (·.1) = vs.map (·.1) := by
  unfold KV at r
  induction r with
  | nil => rfl
  | cons h t ih => rw [List.map_cons, List.map_cons, ih, h.1]
theorem KV.length {kvs : List (κ × V)} {vs : List (κ × Value)} (r : KV kvs vs) : kvs.length = vs.length := Paired.length r
end


/-! ### a tracked dict, its keys ints and texts or tuples of these -/
theorem kV_is {P : Program} {w : World} {k : Key} {u : Value} (r : RelV (kV k) u) : (mixKind P w).is k u = true := by
  cases k with
  | inl i => obtain ⟨t, e⟩ := (show ∃ t, u = Value.int i t from r); subst e; exact mixKind_int P w i t
  | inr x => obtain ⟨t, e⟩ := (show ∃ t, u = Value.str x t from r); subst e; exact mixKind_str P w x t
theorem items_are {P : Program} {w : World} : ∀ {ks : List Key} {us : List Value}, Vals (ks.map kV) us → ItemsAre (mixKind P w) ks us
  | [], _, r => by rw [List.map_nil] at r; cases r; exact .nil
  | k :: ks, _, r => by
    rw [List.map_cons] at r
    cases r with
    | cons h t => exact .cons (kV_is h) (items_are t)

/-- raw entries of a dict with tuple keys -/
abbrev KT (H : Hp) : List (List Key × V) → List (List Key × Addr × Value) → Prop := Paired fun p q => p.1 = q.1 ∧ H q.2.1 = some (.tup (p.1.map kV)) ∧ RelV p.2 q.2.2
theorem KT.val {H : Hp} {kvs : List (List Key × V)} {xs : List (List Key × Addr × Value)} (r : KT H kvs xs) (k : List Key) : RelO (valV kvs k) ((atKey xs k).map (·.2)) := by
  induction r with
  | nil => exact True.intro
  | @cons p q ps qs h t ih =>
    obtain ⟨h1, _, h2⟩ := h
    by_cases e : p.1 = k
    · have e' : q.1 = k := h1.symm.trans e
      have b : atKey (q :: qs) k = some q.2 := by simp [atKey, List.find?_cons, e']
      rw [valV_pos e, b]; exact h2
    · have e' : ¬ q.1 = k := fun z => e (h1.trans z)
      have b : atKey (q :: qs) k = atKey qs k := by simp [atKey, List.find?_cons, e']
      rw [valV_neg e, b]; exact ih
theorem KT.repl {H : Hp} {kvs : List (List Key × V)} {xs : List (List Key × Addr × Value)} (r : KT H kvs xs) (k : List Key) {y : V} {u : Value} (ry : RelV y u) :
    KT H (kvs.map fun kv => if kv.1 = k then (kv.1, y) else kv) (xs.map (putAt k u)) := by
  induction r with
  | nil => exact .nil
  | @cons p q ps qs h t ih =>
    rw [List.map_cons, List.map_cons]
    refine .cons ?_ ih
    obtain ⟨h1, h2, h3⟩ := h
    unfold putAt
    by_cases e : p.1 = k
    · rw [if_pos e, if_pos (h1.symm.trans e)]; exact ⟨h1, h2, ry⟩
    · rw [if_neg e, if_neg (fun z => e (h1.trans z))]; exact ⟨h1, h2, h3⟩
theorem KT.put {H : Hp} {kvs : List (List Key × V)} {xs : List (List Key × Addr × Value)} (r : KT H kvs xs) (k : List Key) {b : Addr} {y : V} {u : Value} (hb : H b = some (.tup (k.map kV))) (ry : RelV y u) :
    KT H (putK kvs k y) (storedH xs k b u) := by
  have e : (kvs.any fun kv => decide (kv.1 = k)) = (atKey xs k).isSome := by
    rw [valV_any, (r.val k).isSome_eq, Option.isSome_map]
  unfold putK storedH
  rw [e]
  by_cases q : (atKey xs k).isSome = true
  · rw [if_pos q, if_pos q]; exact r.repl k ry
  · rw [if_neg q, if_neg q]; exact Paired.snoc r ⟨rfl, hb, ry⟩
theorem KT.keeps {H H' : Hp} {kvs : List (List Key × V)} {xs : List (List Key × Addr × Value)} (r : KT H kvs xs) (ht : ∀ b ys, H b = some (.tup ys) → H' b = some (.tup ys)) : KT H' kvs xs :=
  Paired.mapP r fun _ _ z => ⟨z.1, ht _ _ z.2.1, z.2.2⟩

section
variable {P : Program} {w : World} {H : Hp} {h : Heap} {a : Addr}
theorem rd_of {u : HO} (ok : HOk P w H h) (e : Rd H a u) : ObjOk P w H h a u := e.ok ok
theorem dk_rd {kvs : List (Key × V)} (ok : HOk P w H h) (e : Rd H a (.dK kvs)) : kvs.length ≤ sizeLine ∧ (a == sysModules) = false ∧ ∃ vs, KV kvs vs ∧ h.DictOf (mixKind P w) a vs :=
  show ObjOk P w H h a (.dK kvs) from rd_of ok e
theorem dk_of {kvs : List (Key × V)} (ok : HOk P w H h) (e : H a = some (.dK kvs)) : kvs.length ≤ sizeLine ∧ (a == sysModules) = false ∧ ∃ vs, KV kvs vs ∧ h.DictOf (mixKind P w) a vs := dk_rd ok (.inl e)
/-- a tracked tuple of ints and texts is a key -/
theorem key_of {ks : List Key} (ok : HOk P w H h) (e : H a = some (.tup (ks.map kV))) : (tupleKind (mixKind P w)).is h ks a := by
  obtain ⟨_, its, r, o, h1, h2, n, h3⟩ := (show ObjOk P w H h a (.tup (ks.map kV)) from ok a _ e)
  exact ⟨o, its.toArray, n, h1, h2, h3, by simpa using items_are r⟩
theorem dt_rd {kvs : List (List Key × V)} (ok : HOk P w H h) (e : Rd H a (.dT kvs)) : kvs.length ≤ sizeLine ∧ (a == sysModules) = false ∧
    ∃ xs, KT H kvs xs ∧ h.DictOfH (tupleKind (mixKind P w)) a xs := by
  obtain ⟨z, y, xs, r, o, es, ep, h1, h2, h3, h4, h5⟩ := (show ObjOk P w H h a (.dT kvs) from rd_of ok e)
  refine ⟨z, y, xs, r, o, es, ep, h1, h2, h3, h4, fun x hx => ?_, h5⟩
  have all : ∀ {l : List (List Key × V)} {m : List (List Key × Addr × Value)}, KT H l m → ∀ x ∈ m, (tupleKind (mixKind P w)).is h x.1 x.2.1 := by
    intro l m q
    induction q with
    | nil => intro x hx; exact nomatch hx
    | @cons p q ps qs hq t ih =>
      intro x hx
      rcases List.mem_cons.mp hx with e | hx
      · subst e
        exact key_of ok (by rw [← hq.1]; exact hq.2.1)
      · exact ih x hx
  exact all r x hx
theorem dt_of {kvs : List (List Key × V)} (ok : HOk P w H h) (e : H a = some (.dT kvs)) : kvs.length ≤ sizeLine ∧ (a == sysModules) = false ∧
    ∃ xs, KT H kvs xs ∧ h.DictOfH (tupleKind (mixKind P w)) a xs := dt_rd ok (.inl e)
end

/-- what the dict at a holds at the key y -/
def DGet (H : Hp) (a : Addr) (y : V) (r : Option V) : Prop :=
  (∃ kvs k, Rd H a (.dK kvs) ∧ y = kV k ∧ r = valV kvs k) ∨ ∃ kvs k b, Rd H a (.dT kvs) ∧ y = .ref b ∧ H b = some (.tup (k.map kV)) ∧ r = valV kvs k
/-- the heap behind a[y] = v -/
def DPut (H : Hp) (a : Addr) (y v : V) (H' : Hp) : Prop :=
  (∃ kvs k, H a = some (.dK kvs) ∧ y = kV k ∧ kvs.length < sizeLine ∧ H' = upd H a (.dK (putK kvs k v))) ∨
  ∃ kvs k b, H a = some (.dT kvs) ∧ y = .ref b ∧ H b = some (.tup (k.map kV)) ∧ kvs.length < sizeLine ∧ H' = upd H a (.dT (putK kvs k v))
theorem DGet.k {H : Hp} {a : Addr} {kvs : List (Key × V)} {k : Key} (e : H a = some (.dK kvs)) : DGet H a (kV k) (valV kvs k) := .inl ⟨kvs, k, .inl e, rfl, rfl⟩
theorem DPut.k {H : Hp} {a : Addr} {kvs : List (Key × V)} {k : Key} {v : V} (e : H a = some (.dK kvs)) (hl : kvs.length < sizeLine) : DPut H a (kV k) v (upd H a (.dK (putK kvs k v))) := .inl ⟨kvs, k, e, rfl, hl, rfl⟩
section
variable {X : Cx} {pins : List (Addr × Obj)} {σ : St} {H : Hp} {s : Shared} {a : Addr} {y v : V} {u r : Value} {o : Option V} {A : Around} {E : Value → Shared → Prop}

theorem Inv.big (I : Inv X pins σ H s) : sysModules < s.heap.objs.size := by
  have h : mainGlobals < s.heap.objs.size := (I.mod.glob.keeps I.bk).lt
  exact Nat.lt_trans (by decide) h

theorem d_notIn {Q : Value → Shared → Prop} (hu : A.units + 1 < cLine) (I : Inv X pins σ H s) (g : DGet H a y o) (ry : RelV y u) (h : ∀ s', Inv X pins σ H s' → Q (.bool (!o.isSome)) s') :
    wpAny (model X.prog X.w) A (compareOp .NotIn u (.ref a)) Q E s := by
  rcases g with ⟨kvs, k, e, ey, l⟩ | ⟨kvs, k, b, e, ey, eb, l⟩
  · subst ey
    obtain ⟨z, hd, vs, rel, dd⟩ := dk_rd I.hok e
    refine wpAny_notIn_of (kV_is ry) hd dd.mapOf ?_
    rw [← (rel.val k).isSome_eq, ← l]
    exact h _ (I.tok _)
  · subst ey
    cases (show u = Value.ref b from ry)
    obtain ⟨z, hd, xs, rel, dd⟩ := dt_rd I.hok e
    refine wpAny_notIn_heap (tupleKind_room_in1 hu) (key_of I.hok eb) hd dd ?_
    have q := (rel.val k).isSome_eq
    rw [Option.isSome_map] at q
    rw [← q, ← l]
    exact h _ (I.tok _)
/-- a dict's object is replaced -/
theorem d_write {h' : Heap} {t' : Nat} {ob : HO} (I : Inv X pins σ H s) (mu : Mut (H a)) (hs : Heap.SameBut a s.heap h') (he : ∃ q, h'.get? a = some q) (new : ObjOk X.prog X.w (upd H a ob) h' a ob) :
    Inv X pins σ (upd H a ob) { s with heap := h', toks := t' } :=
  I.write (x := a) (e := a) mu (.inl rfl) (fun b q hb z => (hs.2 b hb).trans z) he new
theorem dk_new {P : Program} {w : World} {H' : Hp} {h' : Heap} {kvs : List (Key × V)} {vs : List (Key × Value)} (z : kvs.length ≤ sizeLine) (hd : (a == sysModules) = false) (rel : KV kvs vs) (dd : h'.DictOf (mixKind P w) a vs) :
    ObjOk P w H' h' a (.dK kvs) := ⟨z, hd, vs, rel, dd⟩
/-- d[y] = v -/
theorem d_setItem {H' : Hp} {Q : Unit → Shared → Prop} (hu : A.units + 1 < cLine) (I : Inv X pins σ H s) (g : DPut H a y v H') (ry : RelV y u) (rv : RelV v r) (h : ∀ s', Inv X pins σ H' s' → Q () s') :
    wpAny (model X.prog X.w) A (setItem (.ref a) u r) Q E s := by
  rcases g with ⟨kvs, k, e, ey, l, eH⟩ | ⟨kvs, k, b, e, ey, eb, l, eH⟩
  · subst ey eH
    obtain ⟨z, hd, vs, rel, dd⟩ := dk_of I.hok e
    have hz : vs.length ≤ sizeLine := by rw [← rel.length]; exact z
    have hl : (putK kvs k v).length ≤ sizeLine := by have := length_putK kvs k v; omega
    refine wpAny_setItem_pairs (hsz := hz) (kV_is ry) dd fun h' dd' hs => h _ ?_
    have he : ∃ q, h'.get? a = some q := let ⟨q, _, _, hq, _⟩ := dd'; ⟨q, hq⟩
    exact d_write I (by rw [e]; exact True.intro) hs he (dk_new hl hd (rel.put k rv) dd')
  · subst ey eH
    cases (show u = Value.ref b from ry)
    obtain ⟨z, hd, xs, rel, dd⟩ := dt_of I.hok e
    have hz : xs.length ≤ sizeLine := by rw [← Paired.length rel]; exact z
    have hl : (putK kvs k v).length ≤ sizeLine := by have := length_putK kvs k v; omega
    refine wpAny_setItem_heap (hsz := hz) (tupleKind_room_in1 hu) (key_of I.hok eb) dd fun h' dd' hs => h _ ?_
    obtain ⟨q, es, ep, hq, h2, h3, h4, _, h5⟩ := dd'
    refine d_write I (by rw [e]; exact True.intro) hs ⟨q, hq⟩ ⟨hl, hd, _, (rel.put k eb rv).keeps fun c ys ec => ?_, q, es, ep, hq, h2, h3, h4, h5⟩
    rw [upd_ne (ne_of ec e (fun z => nomatch z))]
    exact ec
end

section
variable {X : Cx} {pins : List (Addr × Obj)} {σ : St} {H : Hp} {s : Shared} {a : Addr} {kvs : List (Key × V)} {k : Key} {u : Value} {A : Around} {E : Value → Shared → Prop}
/-- len(d) -/
theorem d_len {Q : Value → Shared → Prop} (I : Inv X pins σ H s) (e : Rd H a (.dK kvs)) (h : ∀ t s', Inv X pins σ H s' → Q (.int kvs.length t) s') : wpAny (model X.prog X.w) A (call (.builtin "len") [.ref a]) Q E s := by
  obtain ⟨z, hd, vs, rel, dd⟩ := dk_rd I.hok e
  refine call_len_dict hd dd (by rw [← rel.length]; rw [sizeLine_eq] at z; omega) ?_
  rw [← rel.length]
  exact h _ _ (I.tok _)
end


/-! ### readings and rules -/
def tDNotIn (ty td : TE) : TE := fun σ H Q => ty σ H fun y H1 => td σ H1 fun x H2 => ∃ a o, x = .ref a ∧ DGet H2 a y o ∧ Q (.bl (!o.isSome)) H2
/-- d[y] = v -/
def sDPut (td ty tv : TE) : TS := fun D σ H => tv σ H fun v H1 => td σ H1 fun x H2 => ty σ H2 fun y H3 => ∃ a H4, x = .ref a ∧ DPut H3 a y v H4 ∧ D.nx σ H4
section
variable {X : Cx} {o i e value : Expr} {pos pos' tpos : Pos} {td ty tv : TE}
theorem pc_dnotin (hu : X.A.units + 1 < cLine) (hi : PE X i ty) (ho : PE X o td) : PC X .NotIn i o (tDNotIn ty td) := by
  intro pins s σ H Q I h
  refine thn (hi pins s σ H _ I h) fun iv s1 ⟨y, H1, I1, ry, q1⟩ => thn (ho pins s1 σ H1 _ I1 q1) fun u s2 ⟨x, H2, I2, rx, a, ov, ex, g, q2⟩ => ?_
  subst ex
  obtain rfl : u = Value.ref a := rx
  exact d_notIn hu I2 g ry fun s3 I3 => ⟨.bl (!ov.isSome), H2, I3, rfl, q2⟩
theorem ps_dput (hu : X.A.units + 1 < cLine) (ho : PE X o td) (hi : PE X i ty) (hv : PE X value tv) (hs : swapsWith value (some (.Subscript o i pos')) pos.line X.env = pure false) :
    PS X (.Assign [.Subscript o i pos'] value pos) (sDPut td ty tv) := by
  intro pins s σ H D I h
  refine wpAny_Assign_Subscript (thn (hv pins s σ H _ I h) fun r s1 ⟨v, H1, I1, rv, q1⟩ => thn (ho pins s1 σ H1 _ I1 q1) fun u s2 ⟨x, H2, I2, rx, q2⟩ => thn (hi pins s2 σ H2 _ I2 q2) fun iv s3 ⟨y, H3, I3, ry, a, H4, ex, g, q3⟩ => ?_) hs
  subst ex
  obtain rfl : u = Value.ref a := rx
  exact d_setItem hu I3 g ry rv fun s4 I4 => ⟨σ, H4, I4, q3⟩
end


/-! ### displays -/
theorem dk_empty {P : Program} {w : World} {H : Hp} (h : Heap) (hb : sysModules < h.objs.size) : ObjOk P w H (h.push { cls := .type "dict", data := .dict #[] }) h.objs.size (.dK []) :=
  ⟨Nat.zero_le _, beq_eq_false_iff_ne.mpr (Ne.symm (Nat.ne_of_lt hb)), [], .nil, Heap.DictOf.new h⟩
section
variable {X : Cx} {pos : Pos}
end

/-- the pairs of a display, from the left -/
def tPairs : List (TE × TE) → St → Hp → (List (V × V) → Hp → Prop) → Prop
  | [], _, H, Q => Q [] H
  | (tk, tv) :: r, σ, H, Q => tk σ H fun x H1 => tv σ H1 fun y H2 => tPairs r σ H2 fun ps H3 => Q ((x, y) :: ps) H3
abbrev VV : List (V × V) → List (Value × Value) → Prop := Paired fun p q => RelV p.1 q.1 ∧ RelV p.2 q.2
def PPs (X : Cx) (pos : Pos) (keys : List (Option Expr)) (values : List Expr) (trs : List (TE × TE)) : Prop :=
  ∀ (pins : List (Addr × Obj)) (s : Shared) (σ : St) (H : Hp) (Q : List (V × V) → Hp → Prop), Inv X pins σ H s → tPairs trs σ H Q →
    wpAny (model X.prog X.w) X.A (evalPairs (pairTrees keys values X.env pos)) (fun vs s' => ∃ ps H', Inv X pins σ H' s' ∧ VV ps vs ∧ Q ps H') X.xe s
theorem pps_nil {X : Cx} {pos : Pos} : PPs X pos [] [] [] := fun pins s σ H Q I h => pairTrees_nil_walk ⟨[], H, I, .nil, h⟩
theorem pps_cons {X : Cx} {pos : Pos} {k v : Expr} {ks : List (Option Expr)} {vs : List Expr} {tk tv : TE} {trs : List (TE × TE)} (hk : PE X k tk) (hv : PE X v tv) (hr : PPs X pos ks vs trs) :
    PPs X pos (some k :: ks) (v :: vs) ((tk, tv) :: trs) := fun pins s σ H Q I h =>
  pairTrees_cons_walk (thn (hk pins s σ H _ I h) fun u s1 ⟨x, H1, I1, rx, q1⟩ => thn (hv pins s1 σ H1 _ I1 q1) fun w2 s2 ⟨y, H2, I2, ry, q2⟩ =>
    thn (hr pins s2 σ H2 _ I2 q2) fun ws s3 ⟨ps, H3, I3, rel, q3⟩ => ⟨(x, y) :: ps, H3, I3, .cons ⟨rx, ry⟩ rel, q3⟩)

def mergeK (kvs more : List (Key × V)) : List (Key × V) := more.foldl (fun acc kv => putK acc kv.1 kv.2) kvs
theorem KV.merge : ∀ {more : List (Key × V)} {rs : List (Key × Value)} {kvs : List (Key × V)} {vs : List (Key × Value)}, KV more rs → KV kvs vs → KV (mergeK kvs more) (merged vs rs) := by
  intro more rs kvs vs r
  unfold KV at r
  induction r generalizing kvs vs with
  | nil => intro q; exact q
  | @cons p q ps qs h t ih =>
    intro r0
    have e : KV (putK kvs p.1 p.2) (stored vs q.1 q.2) := by
      have := r0.put p.1 h.2
      rw [← h.1]; exact this
    exact ih e
theorem length_mergeK : ∀ (more kvs : List (Key × V)), (mergeK kvs more).length ≤ kvs.length + more.length
  | [], kvs => by show kvs.length ≤ kvs.length + 0; omega
  | p :: r, kvs => by
    have h1 := length_mergeK r (putK kvs p.1 p.2)
    have h2 := length_putK kvs p.1 p.2
    show (mergeK (putK kvs p.1 p.2) r).length ≤ _
    rw [List.length_cons]; omega
theorem carries_of {P : Program} {w : World} : ∀ {kvs : List (Key × V)} {ws : List (Value × Value)}, VV (kvs.map fun kv => (kV kv.1, kv.2)) ws → ∃ rs, Carries (mixKind P w) ws rs ∧ KV kvs rs
  | [], _, r => by rw [List.map_nil] at r; cases r; exact ⟨[], True.intro, .nil⟩
  | p :: kvs, _, r => by
    rw [List.map_cons] at r
    cases r with
    | @cons a b as bs h t =>
      obtain ⟨rs, c, q⟩ := carries_of (P := P) (w := w) t
      obtain ⟨b1, b2⟩ := b
      exact ⟨(p.1, b2) :: rs, ⟨kV_is h.1, rfl, c⟩, .cons ⟨rfl, h.2⟩ q⟩
/-- {k: v, ..} with keys ints and texts; the new dict stands empty while the pairs are made -/
def tDisp (trs : List (TE × TE)) : TE := fun σ H Q => ∀ p, H p = none → tPairs trs σ (upd H p (.dK [])) fun ps H2 => H2 p = some (.dK []) ∧ ∃ kvs : List (Key × V), ps = kvs.map (fun kv => (kV kv.1, kv.2)) ∧ kvs.length ≤ 15 ∧ Q (.ref p) (upd H2 p (.dK (mergeK [] kvs)))
theorem pe_disp {X : Cx} {pos : Pos} {keys : List (Option Expr)} {values : List Expr} {trs : List (TE × TE)} (h : PPs X pos keys values trs) (hall : keys.all (·.isSome) = true) (hl : keys.length = values.length) (h0 : keys ≠ [])
    (h15 : keys.length ≤ 15) : PE X (.Dict keys values pos) (tDisp trs) := by
  intro pins s σ H Q I q
  have hn := I.hok.fresh (Nat.le_refl s.heap.objs.size)
  have I1 := I.laid (a := s.heap.objs.size) (o := .dK []) (h' := s.heap.push { cls := .type "dict", data := .dict #[] }) (t' := s.toks) (fun _ _ q => Heap.get?_push_of_some _ q) (Nat.le_refl _) (dk_empty s.heap I.big)
  refine wpAny_Dict_walk (knd := mixKind X.prog X.w) hall hl h0 h15 (thn (h pins _ σ _ _ I1 (q _ hn)) fun ws s2 ⟨ps, H2, I2, rel, e, kvs, ep, lk, q2⟩ => ?_)
  subst ep
  obtain ⟨rs, c, rk⟩ := carries_of (P := X.prog) (w := X.w) rel
  obtain ⟨z, hd, vs0, r0, dd⟩ := dk_of I2.hok e
  cases r0
  refine ⟨rs, c, dd, fun h' dd' hs => ⟨.ref s.heap.objs.size, _, ?_, rfl, q2⟩⟩
  have hz : (mergeK [] kvs).length ≤ sizeLine := by
    have h1 := length_mergeK kvs []
    rw [List.length_nil] at h1
    rw [sizeLine_eq]; omega
  have he : ∃ q, h'.get? s.heap.objs.size = some q := let ⟨q, _, _, hq, _⟩ := dd'; ⟨q, hq⟩
  exact d_write I2 (by rw [e]; exact True.intro) hs he (dk_new hz hd (rk.merge .nil) dd')


/-! ### methods -/
section
variable {X : Cx} {pins : List (Addr × Obj)} {σ : St} {H : Hp} {s : Shared} {a : Addr} {y d : V} {u r : Value} {o : Option V} {A : Around} {E : Value → Shared → Prop}
end

section
variable {X : Cx} {o e f : Expr} {apos cpos : Pos} {td ty tx : TE}
end

/-! ### dict(d): a copy -/
section
variable {X : Cx} {pins : List (Addr × Obj)} {σ : St} {H : Hp} {s : Shared} {a : Addr} {kvs : List (Key × V)} {A : Around} {E : Value → Shared → Prop}
end


section
variable {X : Cx} {pins : List (Addr × Obj)} {σ : St} {H : Hp} {s : Shared} {a : Addr} {y : V} {u : Value} {A : Around} {E : Value → Shared → Prop}
end
end L2

namespace Att
open PySem PySem.W PySem.Calls PyProof.Rows

/-! ### the script -/
/-! ### the attachment: holds_open's last premise (the goal 'hc' behind k_head) from a wpAny of the law's body -/
/-! ### rules over ANY heap (no ledger) from facts about the written part K: the library's own take a ledger (News) for what they write -/
section
variable {prog : Program} {w : World} {A : Around} {E : Value → Shared → Prop} {s : Shared} {K : Frag}

/-! the whole heap as the ledger: makes every rule that writes through a ledger a rule over any heap -/
end
end Att

namespace L2
open PySem PySem.Spec PyProof.Rows

end L2

namespace L2
open PySem PySem.Spec PyProof.Rows

end L2

/-! SHORT WORDS over the layer: a def of the text, its body, what a loop and a test want. -/
namespace L2
open PySem PySem.Spec PyProof.Rows

/-! ### the text by places -/
/-! ### no exception leaves a def -/
/-! ### a def (or method) of the text as it stands behind the top -/
section
variable {P : Program} {w : World} {K : PySem.W.Frag} {mg : Str → Option Value} {base : Heap}
end
/-! ### expressions in short: the name that stands in the i-th slot -/
section
variable {X : Cx}
/-- len of a dict -/
theorem call_lenD : CallR X (.builtin "len") (fun xs H Q => ∃ a kvs, xs = [V.ref a] ∧ H a = some (.dK kvs) ∧ Q (.int kvs.length) H) := by
  intro pins s σ H xs us Q I r h
  obtain ⟨a, kvs, rfl, ha, q⟩ := h
  obtain ⟨u, rfl, ru⟩ := vals1 r
  cases ru
  exact d_len I (.inl ha) fun t s' I' => ⟨.int kvs.length, H, I', ⟨t, rfl⟩, q⟩
end

/-! ### tests -/
/-! ### heaps -/
/-! ### a dict's pairs: keys that differ -/
section
variable {κ : Type} [DecidableEq κ]
end
end L2

set_option linter.all false
set_option maxRecDepth 100000
set_option maxHeartbeats 4000000
/-! dicts by tuples: setdefault, get; isinstance of an own thing and a tuple of classes. -/
namespace L2
open PySem PySem.Spec PyProof.Rows
section
variable {prog : Program} {w : World} {K : Type} [DecidableEq K] {knd : HeapKind prog w K} {A : Around} {E : Value → Shared → Prop} {s : Shared} {d a : Addr} {xs : List (K × Addr × Value)} {k : K} {z : Value}
end
section
variable {X : Cx} {K : PySem.W.Frag}
end
/-! C(), where C has no __init__ of its own -/
/-! products and powers of long numbers -/
end L2

set_option linter.all false
set_option maxRecDepth 100000
set_option maxHeartbeats 4000000
/-! pairs of numbers by <; enumerate of a text. -/
namespace L2
open PySem PySem.Spec PyProof.Rows
section
variable {X : Cx} {K : PySem.W.Frag}
end
section
variable {X : Cx} {es : List Expr} {k : Nat} {tpos : Pos}
end
section
variable {elt tg iter : Expr} {ifs : List Expr} {scope : Scope} {pos : Pos} {N : List Str} {js : List (Option Nat)} {wi : TI} {g : TG} {tc : TT} {te : TE}
end
end L2

set_option linter.all false
set_option maxRecDepth 100000
set_option maxHeartbeats 4000000
/-! sorted of a dict of texts. -/
namespace L2
open PySem PySem.Spec PyProof.Rows
section
variable {prog : Program} {w : World} {K : Type} [DecidableEq K] {knd : KeyKind prog w K} {A : Around} {E : Value → Shared → Prop} {s : Shared}
theorem dict_len_of : typeLookup (.type "dict") "__len__" = pure (some (.builtin "dict.__len__")) := by rw [typeLookup_type, builtinLookup_eq_fast]; kernel_rfl
theorem collect_dict {Q : List Value → Shared → Prop} {d : Addr} {kvs : List (K × Value)} (hh : A.handled = none) (hd : (d == sysModules) = false) (hm : s.heap.DictOf knd d kvs) (hn : kvs.length ≤ sizeLine)
    (hQ : ∀ s' acc, (∀ b o, s.heap.get? b = some o → s'.heap.get? b = some o) → s'.gens = s.gens → s'.drawn = s.drawn → s'.os = s.os → s.heap.objs.size < s'.heap.objs.size → ItemsOf (fun i v => ∃ k x, kvs[i]? = some (k, x) ∧ knd.is k v = true) acc kvs.length → Q acc.toList s') :
    wpAny (model prog w) A (collect (.ref d)) Q E s := by
  have hdl : d < s.heap.objs.size := by
    obtain ⟨o, ho, _⟩ := Heap.dictOf_iff.mp hm
    exact Heap.lt_size ho
  have hsd : s.heap.objs.size ≠ d := Nat.ne_of_gt hdl
  unfold collect
  refine wpAny_bind (wpAny_runValue (codeAny_builtin PySem.F.entry_proto_collect ?_))
  rw [Around.under_plainId PySem.F.plain_proto_collect _]
  show wpAny _ A.in1 (newList [] >>= fun l => again (.builtin "list.__iadd__" ⟨[l, .ref d], []⟩)) _ _ s
  refine wpAny_bind (wpAny_newObj_type ?_)
  refine wpAny_pure ⟨plainId_quiet PySem.F.plain_list_iadd _, codeAny_builtin PySem.F.entry_list_iadd ?_⟩
  rw [Around.under_plainId PySem.F.plain_list_iadd _]
  show wpAny _ A.in1 (Builtin.List.listExtendWith (.ref s.heap.objs.size) (.ref d) (.ref s.heap.objs.size)) _ _ _
  generalize hH : s.heap.push { cls := .type "list", data := .seq ([] : List Value).toArray } = H1
  have hHs : H1.objs.size = s.heap.objs.size + 1 := by rw [← hH, Heap.size_push]
  have keep1 : ∀ b o, s.heap.get? b = some o → H1.get? b = some o := fun b o e => by rw [← hH]; exact Heap.get?_push_of_some _ e
  have hm1 : H1.DictOf knd d kvs := hm.keep keep1
  have hT : ({ s with heap := H1 } : Shared).TypeIs (.ref d) "dict" := hm1.typeIs
  unfold Builtin.List.listExtendWith
  refine wpAny_bind (wpAny_typeOf (T := "dict") (v := .ref d) hT ?_)
  have h1 : Builtin.List.listSameRef (.ref s.heap.objs.size) (.ref d) = false := by simp [Builtin.List.listSameRef, hsd]
  have h2 : (Value.type "dict" == Value.type "list") = false := by decide
  have h3 : (Value.type "dict" == Value.type "tuple") = false := by decide
  simp only [h1, h2, h3, Bool.or_false, Bool.false_eq_true, if_false]
  obtain ⟨ep, hat⟩ := hm1.dictAt
  refine wpAny_bind (wpAny_pyIter_dict (s := { s with heap := H1 }) hd hat ?_)
  refine wpAny_bind (wpAny_holding ?_)
  unfold Builtin.List.listLengthHint
  have hm2 : (H1.push { cls := .type "dict_keyiterator", data := .fields #[.ref d, .int 0 0, .int kvs.length 0, .int ep 0] }).DictOf knd d kvs := hm1.keep fun b o e => Heap.get?_push_of_some _ e
  have hT2 : ({ s with heap := H1.push { cls := .type "dict_keyiterator", data := .fields #[.ref d, .int 0 0, .int kvs.length 0, .int ep 0] } } : Shared).TypeIs (.ref d) "dict" := hm2.typeIs
  refine wpAny_bind (wpAny_specialOf (T := "dict") (v := .ref d) hT2 dict_len_of ?_)
  wp_delta
  refine wpAny_bind (wpAny_isInstance (T := "dict") (v := .ref d) (b := true) hT2 (by rw [isSubtype_type]; kernel_rfl) ?_)
  show wpAny _ A.in1 (typeOf (Value.ref d) >>= _) _ _ _
  refine wpAny_bind (wpAny_typeOf (T := "dict") (v := .ref d) hT2 ?_)
  refine wpAny_pure ?_
  show wpAny _ A.in1 (rule "list.extend.makes-room" >>= fun _ => Builtin.List.listTouch (.ref s.heap.objs.size) >>= fun _ =>
    again (.builtin "list.extend.loop" ⟨[.ref s.heap.objs.size, .ref H1.objs.size, .ref s.heap.objs.size], []⟩)) _ _ _
  refine wpAny_bind (wpAny_rule ?_)
  generalize hH2 : H1.push { cls := .type "dict_keyiterator", data := .fields #[.ref d, .int 0 0, .int kvs.length 0, .int ep 0] } = H2 at hm2 hT2 ⊢
  have keep2 : ∀ b o, H1.get? b = some o → H2.get? b = some o := fun b o e => by rw [← hH2]; exact Heap.get?_push_of_some _ e
  have hS1 : H2.get? s.heap.objs.size = some { cls := .type "list", data := .seq ([] : List Value).toArray } := keep2 _ _ (by rw [← hH]; exact Heap.get?_push_size _ rfl)
  have hit : H2.IsKeyIter H1.objs.size d 0 kvs.length ep := ⟨_, by rw [← hH2]; exact Heap.get?_push_size _ rfl, rfl, rfl⟩
  have hat2 : H2.DictAt knd d kvs ep := by rw [← hH2]; exact hat.push _
  have hne : d ≠ H1.objs.size := Nat.ne_of_lt (by rw [hHs]; exact Nat.lt_succ_of_lt hdl)
  refine wpAny_bind ?_
  show wpAny _ A.in1 (updateSeq s.heap.objs.size (·.push .none) >>= fun _ => updateSeq s.heap.objs.size (·.pop)) _ _ _
  refine wpAny_bind (wpAny_updateSeq (s := { s with heap := H2 }) hS1 rfl ?_)
  have hS2 := Heap.get?_update_self (Obj.mapSeq (·.push Value.none)) hS1 rfl
  refine wpAny_updateSeq hS2 rfl ?_
  have hS3 := Heap.get?_update_self (Obj.mapSeq (·.pop)) hS2 rfl
  have oth : ∀ b o, b ≠ s.heap.objs.size → H2.get? b = some o → ((H2.update s.heap.objs.size (Obj.mapSeq (·.push Value.none))).update s.heap.objs.size (Obj.mapSeq (·.pop))).get? b = some o :=
    fun b o hb e => (Heap.get?_update_other _ _ (Ne.symm hb)).trans ((Heap.get?_update_other _ _ (Ne.symm hb)).trans e)
  have hSf : s.heap.objs.size ∉ [H1.objs.size, d] := fun hm => by
    rcases List.mem_cons.mp hm with e | e
    · rw [hHs] at e; omega
    · exact hsd (List.mem_singleton.mp e)
  refine wpAny_pure ⟨plainId_quiet PySem.F.plain_extend_loop _, codeAny_extend_loopS (Walks.dictKeys (A := A.in1) (knd := knd) hh _ d hne kvs ep).toS hn _ hSf _ kvs.length 0 _ _ _ rfl (Nat.zero_le _) ⟨hit.at fun o e => oth _ o (by rw [hHs]; omega) e, hat2.at' fun o e => oth _ o hsd.symm e⟩ hS3 (ItemsOf.nil _) fun s' acc' c' hm hS' hacc => ?_⟩
  show wpAny _ A (load s.heap.objs.size >>= _) _ _ s'
  refine wpAny_bind (wpAny_load hS' ?_)
  refine wpAny_pure (hQ s' acc' (fun b ob e => ?_) hm.gens hm.drawn hm.os (Heap.lt_size hS') hacc)
  have hlt := Heap.lt_size e
  refine hm.heap b ob (fun hb => ?_) (oth b ob (Nat.ne_of_lt hlt) (keep2 _ _ (keep1 _ _ e)))
  rcases List.mem_cons.mp hb with h | h
  · exact absurd hlt (h ▸ Nat.lt_irrefl _)
  · rw [List.mem_singleton.mp h, hHs] at hlt; exact absurd hlt (Nat.not_lt.mpr (Nat.le_succ _))
end
theorem strs_are_of : ∀ {vs : List Value} {ss : List Str}, vs.length = ss.length → (∀ (i : Nat) (v : Value), vs[i]? = some v → ∃ (s : Str) (t : Tok), ss[i]? = some s ∧ v = Value.str s t) → StrsAre vs ss
  | [], [], _, _ => .nil
  | [], _ :: _, h, _ => by simp at h
  | _ :: _, [], h, _ => by simp at h
  | v :: vs, s :: ss, h, hh => by
    obtain ⟨s', t, e1, e2⟩ := hh 0 v rfl
    cases e1
    subst e2
    exact .cons _ _ (strs_are_of (by simpa using h) fun i u hu => hh (i + 1) u hu)
theorem vals_strV : ∀ {vs : List Value} {ss : List Str}, StrsAre vs ss → Vals (ss.map V.str) vs
  | _, _, .nil => .nil
  | _, _, .cons y t h => .cons ⟨t, rfl⟩ (vals_strV h)
section
variable {X : Cx}
theorem call_sortedD (hc : X.calm = true) : CallR X (.builtin "sorted") (fun xs H Q => ∃ (a : Addr) (kvs : List (Key × V)) (ss : List Str), xs = [.ref a] ∧ H a = some (.dK kvs) ∧ kvs.map (·.1) = ss.map Sum.inr ∧ ss.length < 64 ∧ ∀ D ss', H D = none → ss'.Perm ss → sortedS ss' = true → Q (.ref D) (upd H D (.lst (ss'.map V.str)))) := by
  intro pins s σ H xs us Q I r h
  obtain ⟨a, kvs, ss, rfl, ha, hk, hl, q⟩ := h
  obtain ⟨u, rfl, ru⟩ := vals1 r
  cases ru
  obtain ⟨z, hsm, vs, kv, hd⟩ := dk_of I.hok ha
  have hkl := kv.length
  have hkk := kv.keys
  have hsl : kvs.length = ss.length := by have := congrArg List.length hk; simpa using this
  refine Calls.call_function_entry kind_sorted plain_sorted entry_sorted (args_sorted1 _) ?_
  unfold Builtin.«sorted»
  refine wpAny_bind (m := checkCount "sorted" 1 1 _) (wpAny_pure ?_)
  refine wpAny_bind (collect_dict (I.ok.hd hc) hsm hd (by omega) fun s1 acc keep g1 d1 o1 hz1 items => ?_)
  obtain ⟨h1, gg, dd, tk, oo⟩ := s1
  simp only at keep g1 d1 o1
  subst g1 d1 o1
  have hS : StrsAre acc.toList ss := by
    refine strs_are_of (by rw [Array.length_toList, items.1]; omega) fun i v hv => ?_
    obtain ⟨k, x, e1, e2⟩ := items.2 i v (by simpa using hv)
    have e3 : (ss.map (Sum.inr : Str → Key))[i]? = some k := by rw [← hk, hkk, List.getElem?_map, e1]; rfl
    rw [List.getElem?_map] at e3
    cases hs : ss[i]? with
    | none => rw [hs] at e3; cases e3
    | some y =>
      rw [hs] at e3
      cases e3
      obtain ⟨t, e⟩ := Value.isStrOf_shape (x := y) (v := v) e2
      exact ⟨y, t, rfl, e⟩
  refine wpAny_bind (wpAny_newList ?_)
  have hoL : (h1.push (seqObj "list" acc.toList.toArray 0)).get? h1.objs.size = some (seqObj "list" acc.toList.toArray 0) := Heap.get?_push_size _ rfl
  show wpAny _ _ _ _ _ (⟨h1.push (seqObj "list" acc.toList.toArray 0), s.gens, s.drawn, tk, s.os⟩ : Shared)
  have hal : acc.toList.length < 64 := by rw [Array.length_toList, items.1]; omega
  refine wpAny_bind (wpAny_holding (wpAny_call_entry slot_list_sort ⟨_, hoL, rfl⟩ entry_list_sort (list_sort_treeK strKind_oneLt hoL hS.keysOf (fun v₁ v₂ rest e => keyKind_strs (by rw [← e]; exact hS)) hal fun st' a1 a2 => ⟨_, rfl, ?_⟩) (args_list_sort _)))
  refine wpAny_pure ⟨_, rfl, ?_⟩
  obtain ⟨ss', b1, b2, b3⟩ := sorted_out_str hS a1 a2
  obtain ⟨e, he⟩ := sortedHeap_at (out := (arrOf st').map (·.2)) hoL
  have hsz : s.heap.objs.size ≤ h1.objs.size := Nat.le_of_lt hz1
  have hfr : H h1.objs.size = none := I.hok.fresh hsz
  refine ⟨.ref h1.objs.size, _, I.laid (o := .lst (ss'.map V.str)) (t' := tk) (fun b o eb => ?_) hsz ⟨?_, ((arrOf st').map (·.2)).toList, e, vals_strV b1, ?_⟩, rfl, q _ ss' hfr b2 b3⟩
  · have hlt := Heap.lt_size (keep b o eb)
    show (sortedHeap (h1.push (seqObj "list" acc.toList.toArray 0)) h1.objs.size acc.toList ((arrOf st').map (·.2))).get? b = some o
    rw [sortedHeap_old (Nat.ne_of_lt hlt) (by rw [size_push']; exact Nat.lt_succ_of_lt hlt)]
    exact Heap.get?_push_of_some _ (keep b o eb)
  · rw [List.length_map, b2.length_eq]
    exact Nat.le_trans (Nat.le_of_lt hl) (by decide)
  · rw [Array.toArray_toList]
    exact he
end
section
variable {X : Cx} {K : PySem.W.Frag}
end
theorem bt_sorted : bootBuiltins "sorted" = some (.builtin "sorted") := by decide +kernel
section
variable {X : Cx}
/-- a whole number by its global name -/
theorem pe_globI {x : Str} {n : Int} {pos : Pos} (hg : Gl X x) (hm : ∃ t, X.mg x = some (.int n t)) (hd : (x == ("__debug__" : Str)) = false := by decide) : PE X (.Name x pos) (tC (.int n)) := by
  obtain ⟨t, hm⟩ := hm
  exact pe_glob hg hm ⟨t, rfl⟩ hd
end
section
variable {X : Cx}
end
end L2

set_option maxHeartbeats 4000000

namespace K12
open PySem L2
def top (i : Nat) : Stmt := PySem.Challenge.pw_rotafair_k12_whole_no_shorter_row.main.body.getD i (.Pass ⟨0, 0, 0, 0⟩)
abbrev s_fits : Stmt := top 5
abbrev s_last_marks : Stmt := top 6
abbrev s_let_by : Stmt := top 7
abbrev s_count_among : Stmt := top 8
abbrev s_Never_init : Stmt := inClass (top 10) 0
abbrev s_Never_reach : Stmt := inClass (top 10) 1
abbrev s_Never_bad : Stmt := inClass (top 10) 2
abbrev s_Most_init : Stmt := inClass (top 11) 0
abbrev s_Most_reach : Stmt := inClass (top 11) 1
abbrev s_Most_bad : Stmt := inClass (top 11) 2
abbrev s_Least_init : Stmt := inClass (top 12) 0
abbrev s_Least_reach : Stmt := inClass (top 12) 1
abbrev s_Least_bad : Stmt := inClass (top 12) 2
abbrev s_Both_init : Stmt := inClass (top 13) 0
abbrev s_Either_init : Stmt := inClass (top 14) 0
abbrev s_Not_init : Stmt := inClass (top 15) 0
abbrev s_Both_bad : Stmt := inClass (top 13) 2
abbrev s_Either_bad : Stmt := inClass (top 14) 2
abbrev s_Not_bad : Stmt := inClass (top 15) 2
abbrev s_Both_reach : Stmt := inClass (top 13) 1
abbrev s_Either_reach : Stmt := inClass (top 14) 1
abbrev s_Not_reach : Stmt := inClass (top 15) 1
abbrev s_law_cell_at : Stmt := top 22
abbrev s_longer_rows : Stmt := top 19
abbrev s_rows_of_new_tails : Stmt := top 20
abbrev s_alike : Stmt := top 18
abbrev s_law_marks : Stmt := top 23
abbrev s_law_plain : Stmt := top 24
abbrev s_law_rule : Stmt := top 25
abbrev s_law_after : Stmt := top 26
abbrev s_law_chain : Stmt := top 27
abbrev s_law_days_till_parted : Stmt := top 28
abbrev s_law : Stmt := top 29
theorem sc_fits : FnScope ["sign", "mark"] ["sign", "mark"] (defScope s_fits) := ⟨rfl, rfl, rfl, by decide +kernel, rfl, by decide +kernel, by decide +kernel⟩
theorem sc_last_marks : FnScope ["marks", "many"] ["marks", "many"] (defScope s_last_marks) := ⟨rfl, rfl, rfl, by decide +kernel, rfl, by decide +kernel, by decide +kernel⟩
theorem sc_let_by : FnScope ["signs", "mark"] ["signs", "mark"] (defScope s_let_by) := ⟨rfl, rfl, rfl, by decide +kernel, rfl, by decide +kernel, by decide +kernel⟩
theorem sc_count_among : FnScope ["signs", "marks"] ["signs", "marks"] (defScope s_count_among) := ⟨rfl, rfl, rfl, by decide +kernel, rfl, by decide +kernel, by decide +kernel⟩
theorem sc_Never_init : FnScope ["self", "word"] ["self", "word"] (defScope s_Never_init) := ⟨rfl, rfl, rfl, by decide +kernel, rfl, by decide +kernel, by decide +kernel⟩
theorem sc_Never_reach : FnScope ["self"] ["self"] (defScope s_Never_reach) := ⟨rfl, rfl, rfl, by decide +kernel, rfl, by decide +kernel, by decide +kernel⟩
theorem sc_Never_bad : FnScope ["self", "marks", "nearest"] ["self", "marks"] (defScope s_Never_bad) := ⟨rfl, rfl, rfl, by decide +kernel, rfl, by decide +kernel, by decide +kernel⟩
theorem sc_Most_init : FnScope ["self", "many", "marks", "days"] ["self", "many", "marks", "days"] (defScope s_Most_init) := ⟨rfl, rfl, rfl, by decide +kernel, rfl, by decide +kernel, by decide +kernel⟩
theorem sc_Most_reach : FnScope ["self"] ["self"] (defScope s_Most_reach) := ⟨rfl, rfl, rfl, by decide +kernel, rfl, by decide +kernel, by decide +kernel⟩
theorem sc_Most_bad : FnScope ["self", "marks"] ["self", "marks"] (defScope s_Most_bad) := ⟨rfl, rfl, rfl, by decide +kernel, rfl, by decide +kernel, by decide +kernel⟩
theorem sc_Least_init : FnScope ["self", "many", "marks", "days"] ["self", "many", "marks", "days"] (defScope s_Least_init) := ⟨rfl, rfl, rfl, by decide +kernel, rfl, by decide +kernel, by decide +kernel⟩
theorem sc_Least_reach : FnScope ["self"] ["self"] (defScope s_Least_reach) := ⟨rfl, rfl, rfl, by decide +kernel, rfl, by decide +kernel, by decide +kernel⟩
theorem sc_Least_bad : FnScope ["self", "marks"] ["self", "marks"] (defScope s_Least_bad) := ⟨rfl, rfl, rfl, by decide +kernel, rfl, by decide +kernel, by decide +kernel⟩
theorem sc_Both_init : FnScope ["self", "left", "right"] ["self", "left", "right"] (defScope s_Both_init) := ⟨rfl, rfl, rfl, by decide +kernel, rfl, by decide +kernel, by decide +kernel⟩
theorem sc_Either_init : FnScope ["self", "left", "right"] ["self", "left", "right"] (defScope s_Either_init) := ⟨rfl, rfl, rfl, by decide +kernel, rfl, by decide +kernel, by decide +kernel⟩
theorem sc_Not_init : FnScope ["self", "inner"] ["self", "inner"] (defScope s_Not_init) := ⟨rfl, rfl, rfl, by decide +kernel, rfl, by decide +kernel, by decide +kernel⟩
theorem sc_Both_bad : FnScope ["self", "marks"] ["self", "marks"] (defScope s_Both_bad) := ⟨rfl, rfl, rfl, by decide +kernel, rfl, by decide +kernel, by decide +kernel⟩
theorem sc_Either_bad : FnScope ["self", "marks"] ["self", "marks"] (defScope s_Either_bad) := ⟨rfl, rfl, rfl, by decide +kernel, rfl, by decide +kernel, by decide +kernel⟩
theorem sc_Not_bad : FnScope ["self", "marks"] ["self", "marks"] (defScope s_Not_bad) := ⟨rfl, rfl, rfl, by decide +kernel, rfl, by decide +kernel, by decide +kernel⟩
theorem sc_Both_reach : FnScope ["self"] ["self"] (defScope s_Both_reach) := ⟨rfl, rfl, rfl, by decide +kernel, rfl, by decide +kernel, by decide +kernel⟩
theorem sc_Either_reach : FnScope ["self"] ["self"] (defScope s_Either_reach) := ⟨rfl, rfl, rfl, by decide +kernel, rfl, by decide +kernel, by decide +kernel⟩
theorem sc_Not_reach : FnScope ["self"] ["self"] (defScope s_Not_reach) := ⟨rfl, rfl, rfl, by decide +kernel, rfl, by decide +kernel, by decide +kernel⟩
theorem sc_law_cell_at : FnScope ["_law_script", "_law_k"] ["_law_script", "_law_k"] (defScope s_law_cell_at) := ⟨rfl, rfl, rfl, by decide +kernel, rfl, by decide +kernel, by decide +kernel⟩
theorem sc_longer_rows : FnScope ["rows", "marks", "longer", "row"] ["rows", "marks"] (defScope s_longer_rows) := ⟨rfl, rfl, rfl, by decide +kernel, rfl, by decide +kernel, by decide +kernel⟩
theorem sc_rows_of_new_tails : FnScope ["rows", "kept", "tails", "new", "row", "tail"] ["rows", "kept", "tails"] (defScope s_rows_of_new_tails) := ⟨rfl, rfl, rfl, by decide +kernel, rfl, by decide +kernel, by decide +kernel⟩
theorem sc_alike : FnScope ["rule", "other", "marks", "kept", "tails", "rows", "good", "row", "bad"] ["rule", "other", "marks"] (defScope s_alike) := ⟨rfl, rfl, rfl, by decide +kernel, rfl, by decide +kernel, by decide +kernel⟩
theorem sc_law_marks : FnScope ["_law_cell", "_law_letters", "_law_one", "_law_two", "_law_some"] ["_law_cell"] (defScope s_law_marks) := ⟨rfl, rfl, rfl, by decide +kernel, rfl, by decide +kernel, by decide +kernel⟩
theorem sc_law_plain : FnScope ["_law_cell", "_law_marks_here", "_law_one", "_law_word", "_law_k", "_law_signs"] ["_law_cell", "_law_marks_here"] (defScope s_law_plain) := ⟨rfl, rfl, rfl, by decide +kernel, rfl, by decide +kernel, by decide +kernel⟩
theorem sc_law_rule : FnScope ["_law_cells", "_law_marks_here", "_law_held", "_law_cell", "_law_way", "_law_right", "_law_left"] ["_law_cells", "_law_marks_here"] (defScope s_law_rule) := ⟨rfl, rfl, rfl, by decide +kernel, rfl, by decide +kernel, by decide +kernel⟩
theorem sc_law_after : FnScope ["_law_mark", "_law_word"] ["_law_mark", "_law_word"] (defScope s_law_after) := ⟨rfl, rfl, rfl, by decide +kernel, rfl, by decide +kernel, by decide +kernel⟩
theorem sc_law_chain : FnScope ["_law_cell", "_law_marks_here", "_law_one", "_law_two", "_law_found", "_law_word"] ["_law_cell", "_law_marks_here"] (defScope s_law_chain) := ⟨rfl, rfl, rfl, by decide +kernel, rfl, by decide +kernel, by decide +kernel⟩
theorem sc_law_days_till_parted : FnScope ["_law_rule_here", "_law_other", "_law_marks_here", "_law_ends", "_law_met", "_law_days", "_law_coming", "_law_end", "_law_mark", "_law_behind"] ["_law_rule_here", "_law_other", "_law_marks_here"] (defScope s_law_days_till_parted) := ⟨rfl, rfl, rfl, by decide +kernel, rfl, by decide +kernel, by decide +kernel⟩
theorem sc_law : FnScope ["_law_script", "_law_marks_here", "_law_rule_here", "_law_other", "_law_cell", "_law_word", "_law_days", "_law_found"] ["_law_script"] (defScope s_law) := ⟨rfl, rfl, rfl, by decide +kernel, rfl, by decide +kernel, by decide +kernel⟩
structure Tx (K : PySem.W.Frag) (mg : Str → Option Value) (C_Never C_Most C_Least C_Both C_Either C_Not : Addr) : Prop where
  f_fits : GF K mg "fits" s_fits
  f_last_marks : GF K mg "last_marks" s_last_marks
  f_let_by : GF K mg "let_by" s_let_by
  f_count_among : GF K mg "count_among" s_count_among
  m_Never_init : MF K C_Never "__init__" "Never.__init__" s_Never_init
  m_Never_reach : MF K C_Never "reach" "Never.reach" s_Never_reach
  m_Never_bad : MF K C_Never "bad" "Never.bad" s_Never_bad
  m_Most_init : MF K C_Most "__init__" "Most.__init__" s_Most_init
  m_Most_reach : MF K C_Most "reach" "Most.reach" s_Most_reach
  m_Most_bad : MF K C_Most "bad" "Most.bad" s_Most_bad
  m_Least_init : MF K C_Least "__init__" "Least.__init__" s_Least_init
  m_Least_reach : MF K C_Least "reach" "Least.reach" s_Least_reach
  m_Least_bad : MF K C_Least "bad" "Least.bad" s_Least_bad
  m_Both_init : MF K C_Both "__init__" "Both.__init__" s_Both_init
  m_Either_init : MF K C_Either "__init__" "Either.__init__" s_Either_init
  m_Not_init : MF K C_Not "__init__" "Not.__init__" s_Not_init
  m_Both_bad : MF K C_Both "bad" "Both.bad" s_Both_bad
  m_Either_bad : MF K C_Either "bad" "Either.bad" s_Either_bad
  m_Not_bad : MF K C_Not "bad" "Not.bad" s_Not_bad
  m_Both_reach : MF K C_Both "reach" "Both.reach" s_Both_reach
  m_Either_reach : MF K C_Either "reach" "Either.reach" s_Either_reach
  m_Not_reach : MF K C_Not "reach" "Not.reach" s_Not_reach
  f_law_cell_at : GF K mg "_law_cell_at" s_law_cell_at
  f_longer_rows : GF K mg "longer_rows" s_longer_rows
  f_rows_of_new_tails : GF K mg "rows_of_new_tails" s_rows_of_new_tails
  f_alike : GF K mg "alike" s_alike
  f_law_marks : GF K mg "_law_marks" s_law_marks
  f_law_plain : GF K mg "_law_plain" s_law_plain
  f_law_rule : GF K mg "_law_rule" s_law_rule
  f_law_after : GF K mg "_law_after" s_law_after
  f_law_chain : GF K mg "_law_chain" s_law_chain
  f_law_days_till_parted : GF K mg "_law_days_till_parted" s_law_days_till_parted
  f_law : GF K mg "law" s_law
  c_Never : CF K mg "Never" C_Never
  c_Most : CF K mg "Most" C_Most
  c_Least : CF K mg "Least" C_Least
  c_Both : CF K mg "Both" C_Both
  c_Either : CF K mg "Either" C_Either
  c_Not : CF K mg "Not" C_Not
  n_Never_word : NoAttr K C_Never "word"
  n_Most_many : NoAttr K C_Most "many"
  n_Most_marks : NoAttr K C_Most "marks"
  n_Most_days : NoAttr K C_Most "days"
  n_Least_many : NoAttr K C_Least "many"
  n_Least_marks : NoAttr K C_Least "marks"
  n_Least_days : NoAttr K C_Least "days"
  n_Both_left : NoAttr K C_Both "left"
  n_Both_right : NoAttr K C_Both "right"
  n_Either_left : NoAttr K C_Either "left"
  n_Either_right : NoAttr K C_Either "right"
  n_Not_inner : NoAttr K C_Not "inner"
  z_all : mg "all" = none
  z_any : mg "any" = none
  z_isinstance : mg "isinstance" = none
  z_len : mg "len" = none
  z_max : mg "max" = none
  z_range : mg "range" = none
  z_sorted : mg "sorted" = none
  z_str : mg "str" = none
  z_zip : mg "zip" = none
  k_MOST_TAILS : ∃ t, mg "MOST_TAILS" = some (.int 400 t)
theorem small6 {n : Nat} (h : n ≤ 1000) : n ≤ sizeLine := Nat.le_trans h (by decide)
theorem cut_from {α : Type} (l : List α) (k : Int) (h0 : 0 ≤ k) : cutN l (some k) none = l.drop k.toNat := by
  unfold cutN
  have e : HT.sIx l.length 0 (some k) = min k.toNat l.length := by
    show (if k < 0 then _ else min k.toNat l.length) = _
    rw [if_neg (by omega)]
  rw [e, HT.sIx_none]
  by_cases h : k.toNat ≤ l.length
  · rw [Nat.min_eq_left h]
    exact List.take_of_length_le (by rw [List.length_drop]; omega)
  · rw [Nat.min_eq_right (by omega), List.drop_eq_nil_of_le (Nat.le_refl _), List.drop_eq_nil_of_le (by omega), List.take_nil]
theorem at_some {α : Type} (l : List α) (i : Int) (h0 : 0 ≤ i) (h : i < l.length) : ∃ c, atI l i = some c ∧ l[i.toNat]? = some c := by
  have hi : i.toNat < l.length := by omega
  have e : i = ((i.toNat : Nat) : Int) := by omega
  have q : atI l ((i.toNat : Nat) : Int) = some l[i.toNat] := atI_nat (by simp [hi])
  rw [← e] at q
  exact ⟨l[i.toNat], q, List.getElem?_eq_getElem hi⟩
def fitsV (x y : V) : Bool := if decide (x = T [63]) = true then true else if decide (x = T [35]) = true then !decide (y = T [45]) else decide (x = y)
def sp_fits : Sp := fun vs H Q _ => ∃ a b, vs = [T a, T b] ∧ Q (.bl (fitsV (T a) (T b))) H
def sp_last : Sp := fun vs H Q _ => ∃ l n, vs = [T l, .int n] ∧ l.length ≤ 1000 ∧ 0 ≤ n ∧ Q (T (l.drop (l.length - n.toNat))) H
def sp_cell (K : PySem.W.Frag) : Sp := fun vs H Q _ => ∃ (a : Addr) (ns : List Int) (k : Int), vs = [.ref a, .int k] ∧ SqL K H a (ns.map V.int) ∧ 0 ≤ k ∧ ∀ v, Q (.int v) H
def sp_law (K : PySem.W.Frag) : Sp := fun vs H Q _ => ∃ (a : Addr) (ns : List Int), vs = [.ref a] ∧ SqL K H a (ns.map V.int) ∧ ns.length ≤ 63 ∧ ∀ H', Q (.bl true) H'

theorem noloop {p : (Nat → Nat → St → Hp → Prop) → Prop} (h : ∃ W, p W) : ∃ W, p W := h
theorem nowhile {p : (Nat → St → Hp → Prop) → Prop} (h : ∃ W, p W) : ∃ W, p W := h
theorem iteNT {A B : Prop} (h : B) : if (!true) = true then A else B := h
theorem iteNF {A B : Prop} (h : A) : if (!false) = true then A else B := h
theorem small7 {n : Nat} (h : n ≤ 1000) : n < sizeLine := Nat.lt_of_le_of_lt h (by decide)
theorem cdiv_of {i j : Int} (h1 : 0 < j) (h2 : j < 1073741824) : CDiv i j := ⟨h1, h2⟩
theorem cmulL {i j : Int} (h1 : -(2 ^ 64) < i) (h2 : i < 2 ^ 64) : CMul i j := .inl ⟨h1, h2⟩
theorem cmulR {i j : Int} (h1 : -(2 ^ 64) < j) (h2 : j < 2 ^ 64) : CMul i j := .inr ⟨h1, h2⟩
theorem pos_of {n : Int} (h : 0 < n) : 0 < n := h
@[irreducible] def Here (p : Prop) : Prop := p
theorem Here.mk {p : Prop} (h : p) : Here p := by unfold Here; exact h
theorem Here.out {p : Prop} (h : Here p) : p := by unfold Here at h; exact h
theorem gName_nf {i : Nat} {v : V} {σ σ' : St} {H : Hp} {Q : St → Hp → Prop} (e : σ.set i (some v) = σ') (h : Q σ' H) : gName i v σ H Q := by subst e; exact h

local macro_rules | `(tactic| walk_at "len") => `(tactic| (simp only [List.length_append, List.length_cons, List.length_nil, List.length_singleton, List.length_take, List.length_drop, List.length_map, List.length_reverse, List.length_range] <;> omega))
local macro_rules | `(tactic| walk_at "st") => `(tactic| (try simp only [L2.start, List.map_cons, List.map_nil, List.length_cons, List.length_nil, Nat.reduceAdd, Nat.reduceSub, List.replicate_succ, List.replicate_zero, List.cons_append, List.nil_append]))
local macro_rules | `(tactic| walk_at "lk") => `(tactic| fail)
local macro_rules | `(tactic| walk_at "cl") => `(tactic| first
  | (with_reducible assumption) | rfl
  | (with_reducible show @LE.le Nat _ _ _; first | omega | (walk_at "len") | exact small6 (by omega) | exact small6 (by walk_at "len"))
  | (with_reducible show @LT.lt Nat _ _ _; first | omega | (walk_at "len") | exact small7 (by omega) | exact small7 (by walk_at "len"))
  | (with_reducible show @LE.le Int _ _ _; omega) | (with_reducible show @LT.lt Int _ _ _; omega)
  | ((with_reducible refine cdiv_of ?_ ?_) <;> omega) | ((with_reducible refine cmulL ?_ ?_) <;> omega) | ((with_reducible refine cmulR ?_ ?_) <;> omega) | ((with_reducible refine pos_of ?_) <;> omega)
  | exact upd_same | exact same_new (by with_reducible assumption) _ _ _ upd_same | exact SqL.of (by with_reducible assumption) | exact SqL.of upd_same | exact SqT.of upd_same | exact SqT.of (by with_reducible assumption) | exact Or.inl (by with_reducible assumption) | exact Or.inl (SqL.of (by with_reducible assumption)) | exact Or.inl (SqL.of upd_same)
  | exact Or.inl ⟨rfl, _, SqL.of (by with_reducible assumption)⟩ | exact Or.inl ⟨rfl, _, SqL.of upd_same⟩ | exact Or.inl ⟨rfl, _, by with_reducible assumption⟩ | exact ⟨_, by with_reducible assumption⟩ | exact ⟨_, SqL.of (by with_reducible assumption)⟩ | exact ⟨_, SqL.of upd_same⟩
  | exact ⟨by omega, by omega⟩ | assumption | walk_at "lk")
local macro_rules | `(tactic| walk_at "rd1") => `(tactic| first
  | (with_reducible refine gName_nf (by first | (simp only [List.set_cons_zero, List.set_cons_succ]; done) | (simp only [List.set_cons_zero, List.set_cons_succ]; rfl)) ?_)
  | (with_reducible refine iteT ?_) | (with_reducible refine iteF ?_) | (with_reducible refine iteNT ?_) | (with_reducible refine iteNF ?_)
  | ((fail_if_success apply noloop); (fail_if_success apply nowhile); apply Exists.intro)
  | (apply And.intro; (· walk_at "cl"))
  | (refine Or.inl ⟨_, rfl, ?_⟩) | (refine Or.inr (Or.inl ⟨_, rfl, ?_⟩)) | (refine Or.inr (Or.inr (Or.inl ⟨_, rfl, ?_⟩))) | (refine Or.inr (Or.inr (Or.inr (Or.inl ⟨_, rfl, ?_⟩)))) | (refine Or.inr (Or.inr (Or.inr (Or.inr ⟨_, _, rfl, by with_reducible assumption, ?_⟩)))))
local macro_rules | `(tactic| walk_at "rd") => `(tactic| repeat (walk_at "rd1"))

/-! ### counts -/
def letV (m : List Nat) (c : Nat) : Bool := (m.map fun s => fitsV (T [s]) (T [c])).any id
def cntV (m l : List Nat) : Nat := (l.filter (letV m)).length
def mostB (n : Int) (m : List Nat) (d : Int) (l : List Nat) : Bool := decide (n < (cntV m (l.drop (l.length - d.toNat)) : Int))
def leastB (n : Int) (m : List Nat) (d : Int) (l : List Nat) : Bool := if (l.length : Int) < d then false else decide ((cntV m (l.drop (l.length - d.toNat)) : Int) < n)
def CntAt (C : Addr) (H : Hp) (p : Addr) (n : Int) (m : List Nat) (d : Int) : Prop := ∃ dx, H p = some (.ins C dx [("many", .int n), ("marks", T m), ("days", .int d)])
theorem CntAt.same {C : Addr} {H H' : Hp} {p : Addr} {n d : Int} {m : List Nat} (h : CntAt C H p n m d) (s : Same H H') : CntAt C H' p n m d := let ⟨dx, e⟩ := h; ⟨dx, s _ _ e⟩
theorem lk_many (x y z : V) : List.lookup ("many" : Str) [(("many" : Str), x), ("marks", y), ("days", z)] = some x := by rw [List.lookup_cons, beq_self_eq_true]
theorem lk_marks (x y z : V) : List.lookup ("marks" : Str) [(("many" : Str), x), ("marks", y), ("days", z)] = some y := by
  rw [List.lookup_cons, beq_eq_false_iff_ne.mpr (by decide +kernel), List.lookup_cons, beq_self_eq_true]
theorem lk_days (x y z : V) : List.lookup ("days" : Str) [(("many" : Str), x), ("marks", y), ("days", z)] = some z := by
  rw [List.lookup_cons, beq_eq_false_iff_ne.mpr (by decide +kernel), List.lookup_cons, beq_eq_false_iff_ne.mpr (by decide +kernel), List.lookup_cons, beq_self_eq_true]
theorem put3 (n : Int) (m : List Nat) (d : Int) : putF "days" (.int d) (putF "marks" (T m) (putF "many" (.int n) [])) = ([("many", .int n), ("marks", T m), ("days", .int d)] : List (Str × V)) := by
  have h1 : ¬ (("many" : Str) = "marks") := by decide +kernel
  have h2 : ¬ (("many" : Str) = "days") := by decide +kernel
  have h3 : ¬ (("marks" : Str) = "days") := by decide +kernel
  simp [putF, h1, h2, h3]
def sp_let : Sp := fun vs H Q _ => ∃ m c, vs = [T m, T [c]] ∧ m.length ≤ 1000 ∧ ∀ H', Same H H' → Q (.bl (letV m c)) H'
def sp_count : Sp := fun vs H Q _ => ∃ m l, vs = [T m, T l] ∧ m.length ≤ 1000 ∧ l.length ≤ 1000 ∧ ∀ H', Same H H' → Q (.int (cntV m l)) H'
def sp_init3 (C : Addr) : Sp := fun vs H Q _ => ∃ p dx n m d, vs = [.ref p, .int n, T m, .int d] ∧ H p = some (.ins C dx []) ∧ Q .non (upd (upd (upd H p (.ins C dx (putF "many" (.int n) []))) p (.ins C dx (putF "marks" (T m) (putF "many" (.int n) [])))) p (.ins C dx [("many", .int n), ("marks", T m), ("days", .int d)]))
def sp_reach3 (C : Addr) : Sp := fun vs H Q _ => ∃ p n m d, vs = [.ref p] ∧ CntAt C H p n m d ∧ Q (.int d) H
def sp_bad3 (C : Addr) (B : Int → List Nat → Int → List Nat → Bool) : Sp := fun vs H Q _ => ∃ p n m d l, vs = [.ref p, T l] ∧ CntAt C H p n m d ∧ m.length ≤ 1000 ∧ 0 ≤ d ∧ l.length ≤ 1000 ∧ ∀ H', Same H H' → Q (.bl (B n m d l)) H'

/-! ### rules as trees -/
def nevB (w l : List Nat) : Bool := if l.length < w.length then false else ((w.zip (l.drop (l.length - w.length))).map fun p => fitsV (T [p.1]) (T [p.2])).all id
def NevAt (C : Addr) (H : Hp) (p : Addr) (w : List Nat) : Prop := ∃ dx, H p = some (.ins C dx [("word", T w)])
theorem NevAt.same {C : Addr} {H H' : Hp} {p : Addr} {w : List Nat} (h : NevAt C H p w) (s : Same H H') : NevAt C H' p w := let ⟨dx, e⟩ := h; ⟨dx, s _ _ e⟩
theorem wl (v : V) : List.lookup ("word" : Str) [(("word" : Str), v)] = some v := by rw [List.lookup_cons, beq_self_eq_true]
theorem lk_left (x y : V) : List.lookup ("left" : Str) [(("left" : Str), x), ("right", y)] = some x := by rw [List.lookup_cons, beq_self_eq_true]
theorem lk_right (x y : V) : List.lookup ("right" : Str) [(("left" : Str), x), ("right", y)] = some y := by
  rw [List.lookup_cons, beq_eq_false_iff_ne.mpr (by decide +kernel), List.lookup_cons, beq_self_eq_true]
theorem lk_inner (x : V) : List.lookup ("inner" : Str) [(("inner" : Str), x)] = some x := by rw [List.lookup_cons, beq_self_eq_true]
theorem put2 (x y : V) : putF "right" y (putF "left" x []) = ([("left", x), ("right", y)] : List (Str × V)) := by
  have h1 : ¬ (("left" : Str) = "right") := by decide +kernel
  simp [putF, h1]
def sp_init (C : Addr) : Sp := fun vs H Q _ => ∃ p dx w, vs = [.ref p, T w] ∧ H p = some (.ins C dx []) ∧ Q .non (upd H p (.ins C dx [("word", T w)]))
def sp_reach (C : Addr) : Sp := fun vs H Q _ => ∃ p w, vs = [.ref p] ∧ NevAt C H p w ∧ w.length ≤ 1000 ∧ Q (.int w.length) H
def sp_bad (C : Addr) : Sp := fun vs H Q _ => ∃ p w l, vs = [.ref p, T l] ∧ NevAt C H p w ∧ w.length ≤ 1000 ∧ l.length ≤ 1000 ∧ ∀ H', Same H H' → Q (.bl (nevB w l)) H'
def sp_init2 (C : Addr) : Sp := fun vs H Q _ => ∃ p dx a b, vs = [.ref p, .ref a, .ref b] ∧ H p = some (.ins C dx []) ∧ Q .non (upd (upd H p (.ins C dx (putF "left" (.ref a) []))) p (.ins C dx [("left", .ref a), ("right", .ref b)]))
def sp_init1 (C : Addr) : Sp := fun vs H Q _ => ∃ p dx a, vs = [.ref p, .ref a] ∧ H p = some (.ins C dx []) ∧ Q .non (upd H p (.ins C dx [("inner", .ref a)]))
inductive R where
  | nev (w : List Nat)
  | most (n : Int) (m : List Nat) (d : Int)
  | least (n : Int) (m : List Nat) (d : Int)
  | both (l r : R)
  | either (l r : R)
  | neg (i : R)
def R.depth : R → Nat
  | .nev _ => 0
  | .most _ _ _ => 0
  | .least _ _ _ => 0
  | .both l r => max l.depth r.depth + 1
  | .either l r => max l.depth r.depth + 1
  | .neg i => i.depth + 1
def R.bad : R → List Nat → Bool
  | .nev w, x => nevB w x
  | .most n m d, x => mostB n m d x
  | .least n m d, x => leastB n m d x
  | .both l r, x => l.bad x || r.bad x
  | .either l r, x => l.bad x && r.bad x
  | .neg i, x => !i.bad x
def R.reach : R → Int
  | .nev w => w.length
  | .most _ _ d => d
  | .least _ _ d => d
  | .both l r => if r.reach > l.reach then r.reach else l.reach
  | .either l r => if r.reach > l.reach then r.reach else l.reach
  | .neg i => i.reach
structure Cs where
  nev : Addr
  most : Addr
  least : Addr
  both : Addr
  either : Addr
  neg : Addr
def R.cls (c : Cs) : R → Addr
  | .nev _ => c.nev
  | .most _ _ _ => c.most
  | .least _ _ _ => c.least
  | .both _ _ => c.both
  | .either _ _ => c.either
  | .neg _ => c.neg
/-- the rule stands at p -/
def RuleAt (c : Cs) (H : Hp) : R → Addr → Prop
  | .nev w, p => NevAt c.nev H p w ∧ w.length ≤ 1000
  | .most n m d, p => CntAt c.most H p n m d ∧ m.length ≤ 1000 ∧ 0 ≤ d
  | .least n m d, p => CntAt c.least H p n m d ∧ m.length ≤ 1000 ∧ 0 ≤ d
  | .both l r, p => ∃ dx a b, H p = some (.ins c.both dx [("left", .ref a), ("right", .ref b)]) ∧ RuleAt c H l a ∧ RuleAt c H r b
  | .either l r, p => ∃ dx a b, H p = some (.ins c.either dx [("left", .ref a), ("right", .ref b)]) ∧ RuleAt c H l a ∧ RuleAt c H r b
  | .neg i, p => ∃ dx a, H p = some (.ins c.neg dx [("inner", .ref a)]) ∧ RuleAt c H i a
theorem RuleAt.same {c : Cs} {H H' : Hp} (s : Same H H') : ∀ {r : R} {p : Addr}, RuleAt c H r p → RuleAt c H' r p
  | .nev _, _, h => ⟨h.1.same s, h.2⟩
  | .most _ _ _, _, h => ⟨h.1.same s, h.2⟩
  | .least _ _ _, _, h => ⟨h.1.same s, h.2⟩
  | .both _ _, _, ⟨dx, a, b, e, h1, h2⟩ => ⟨dx, a, b, s _ _ e, RuleAt.same s h1, RuleAt.same s h2⟩
  | .either _ _, _, ⟨dx, a, b, e, h1, h2⟩ => ⟨dx, a, b, s _ _ e, RuleAt.same s h1, RuleAt.same s h2⟩
  | .neg _, _, ⟨dx, a, e, h1⟩ => ⟨dx, a, s _ _ e, RuleAt.same s h1⟩
/-- a rule's own object: its class; it has no method's name among its fields -/
theorem RuleAt.obj {c : Cs} {H : Hp} {r : R} {p : Addr} (h : RuleAt c H r p) : ∃ dx fs, H p = some (.ins (r.cls c) dx fs) ∧ fs.lookup ("bad" : Str) = none ∧ fs.lookup ("reach" : Str) = none ∧ fs.lookup ("text" : Str) = none := by
  have no1 : ∀ (x m : Str) (v : V), m ≠ x → List.lookup m [(x, v)] = none := fun x m v hm => by rw [List.lookup_cons, beq_eq_false_iff_ne.mpr hm]; rfl
  have no2 : ∀ (x y m : Str) (v u : V), m ≠ x → m ≠ y → List.lookup m [(x, v), (y, u)] = none := fun x y m v u h1 h2 => by rw [List.lookup_cons, beq_eq_false_iff_ne.mpr h1]; exact no1 _ _ _ h2
  have no3 : ∀ (x y z m : Str) (v u t : V), m ≠ x → m ≠ y → m ≠ z → List.lookup m [(x, v), (y, u), (z, t)] = none := fun x y z m v u t h1 h2 h3 => by rw [List.lookup_cons, beq_eq_false_iff_ne.mpr h1]; exact no2 _ _ _ _ _ h2 h3
  cases r with
  | nev w =>
    obtain ⟨⟨dx, e⟩, _⟩ := h
    exact ⟨dx, _, e, no1 _ _ _ (by decide +kernel), no1 _ _ _ (by decide +kernel), no1 _ _ _ (by decide +kernel)⟩
  | most n m d =>
    obtain ⟨⟨dx, e⟩, _⟩ := h
    exact ⟨dx, _, e, no3 _ _ _ _ _ _ _ (by decide +kernel) (by decide +kernel) (by decide +kernel), no3 _ _ _ _ _ _ _ (by decide +kernel) (by decide +kernel) (by decide +kernel), no3 _ _ _ _ _ _ _ (by decide +kernel) (by decide +kernel) (by decide +kernel)⟩
  | least n m d =>
    obtain ⟨⟨dx, e⟩, _⟩ := h
    exact ⟨dx, _, e, no3 _ _ _ _ _ _ _ (by decide +kernel) (by decide +kernel) (by decide +kernel), no3 _ _ _ _ _ _ _ (by decide +kernel) (by decide +kernel) (by decide +kernel), no3 _ _ _ _ _ _ _ (by decide +kernel) (by decide +kernel) (by decide +kernel)⟩
  | both l r =>
    obtain ⟨dx, a, b, e, _⟩ := h
    exact ⟨dx, _, e, no2 _ _ _ _ _ (by decide +kernel) (by decide +kernel), no2 _ _ _ _ _ (by decide +kernel) (by decide +kernel), no2 _ _ _ _ _ (by decide +kernel) (by decide +kernel)⟩
  | either l r =>
    obtain ⟨dx, a, b, e, _⟩ := h
    exact ⟨dx, _, e, no2 _ _ _ _ _ (by decide +kernel) (by decide +kernel), no2 _ _ _ _ _ (by decide +kernel) (by decide +kernel), no2 _ _ _ _ _ (by decide +kernel) (by decide +kernel)⟩
  | neg i =>
    obtain ⟨dx, a, e, _⟩ := h
    exact ⟨dx, _, e, no1 _ _ _ (by decide +kernel), no1 _ _ _ (by decide +kernel), no1 _ _ _ (by decide +kernel)⟩
/-- what a rule's methods promise, rule by rule -/
def sp_R (c : Cs) (r : R) : Sp := fun vs H Q _ => ∃ p l, vs = [.ref p, T l] ∧ RuleAt c H r p ∧ l.length ≤ 1000 ∧ ∀ H', Same H H' → Q (.bl (r.bad l)) H'
def sp_far (c : Cs) (r : R) : Sp := fun vs H Q _ => ∃ p, vs = [.ref p] ∧ RuleAt c H r p ∧ Q (.int r.reach) H

/-! ### a rule hangs on the last marks alone -/
def R.fine : R → Prop
  | .nev w => 1 ≤ w.length ∧ w.length ≤ 7
  | .most _ _ d => 1 ≤ d ∧ d ≤ 7
  | .least _ _ d => 1 ≤ d ∧ d ≤ 7
  | .both l r => l.fine ∧ r.fine
  | .either l r => l.fine ∧ r.fine
  | .neg i => i.fine
theorem R.far17 : ∀ {r : R}, r.fine → 1 ≤ r.reach ∧ r.reach ≤ 7
  | .nev w, h => by
    have := h.1
    have := h.2
    show (1 : Int) ≤ (w.length : Int) ∧ (w.length : Int) ≤ 7
    omega
  | .most _ _ _, h => h
  | .least _ _ _, h => h
  | .both l r, h => by
    have a := R.far17 h.1
    have b := R.far17 h.2
    show 1 ≤ (if r.reach > l.reach then r.reach else l.reach) ∧ (if r.reach > l.reach then r.reach else l.reach) ≤ 7
    split <;> omega
  | .either l r, h => by
    have a := R.far17 h.1
    have b := R.far17 h.2
    show 1 ≤ (if r.reach > l.reach then r.reach else l.reach) ∧ (if r.reach > l.reach then r.reach else l.reach) ≤ 7
    split <;> omega
  | .neg i, h => R.far17 (r := i) h
theorem drop_last {α : Type} (l : List α) (k d : Nat) (h1 : d ≤ k) (h2 : k ≤ l.length) : (l.drop (l.length - k)).drop ((l.drop (l.length - k)).length - d) = l.drop (l.length - d) := by
  rw [List.drop_drop, List.length_drop]
  congr 1
  omega
theorem R.bad_last : ∀ (r : R), r.fine → ∀ (l : List Nat) (k : Nat), r.reach ≤ (k : Int) → k ≤ l.length → r.bad l = r.bad (l.drop (l.length - k))
  | .nev w, _, l, k, h1, h2 => by
    have h1' : w.length ≤ k := by
      have : (w.length : Int) ≤ (k : Int) := h1
      omega
    show nevB w l = nevB w (l.drop (l.length - k))
    unfold nevB
    rw [if_neg (by omega), if_neg (by rw [List.length_drop]; omega), drop_last l k w.length h1' h2]
  | .most n m d, hf, l, k, h1, h2 => by
    have h1' : d ≤ (k : Int) := h1
    have := hf.1
    show mostB n m d l = mostB n m d (l.drop (l.length - k))
    unfold mostB
    rw [drop_last l k d.toNat (by omega) h2]
  | .least n m d, hf, l, k, h1, h2 => by
    have h1' : d ≤ (k : Int) := h1
    have := hf.1
    show leastB n m d l = leastB n m d (l.drop (l.length - k))
    unfold leastB
    rw [if_neg (by omega), if_neg (by rw [List.length_drop]; omega), drop_last l k d.toNat (by omega) h2]
  | .both x y, hf, l, k, h1, h2 => by
    have h1' : (if y.reach > x.reach then y.reach else x.reach) ≤ (k : Int) := h1
    have a : x.reach ≤ (k : Int) := by split at h1' <;> omega
    have b : y.reach ≤ (k : Int) := by split at h1' <;> omega
    show (x.bad l || y.bad l) = (x.bad _ || y.bad _)
    rw [R.bad_last x hf.1 l k a h2, R.bad_last y hf.2 l k b h2]
  | .either x y, hf, l, k, h1, h2 => by
    have h1' : (if y.reach > x.reach then y.reach else x.reach) ≤ (k : Int) := h1
    have a : x.reach ≤ (k : Int) := by split at h1' <;> omega
    have b : y.reach ≤ (k : Int) := by split at h1' <;> omega
    show (x.bad l && y.bad l) = (x.bad _ && y.bad _)
    rw [R.bad_last x hf.1 l k a h2, R.bad_last y hf.2 l k b h2]
  | .neg i, hf, l, k, h1, h2 => by
    show (!i.bad l) = (!i.bad _)
    rw [R.bad_last i hf l k h1 h2]

theorem RuleAt.lst {c : Cs} {H : Hp} {h : Addr} {xs ys : List V} (hh : H h = some (.lst xs)) : ∀ {r : R} {p : Addr}, RuleAt c H r p → RuleAt c (upd H h (.lst ys)) r p := by
  have key : ∀ (q C dx : Addr) (fs : List (Str × V)), H q = some (.ins C dx fs) → upd H h (.lst ys) q = some (.ins C dx fs) := fun q C dx fs e => by
    have : q ≠ h := fun z => by rw [z, hh] at e; cases e
    rw [upd_ne this]; exact e
  intro r
  induction r with
  | nev w => rintro p ⟨⟨dx, e⟩, r⟩; exact ⟨⟨dx, key _ _ _ _ e⟩, r⟩
  | most n m d => rintro p ⟨⟨dx, e⟩, r⟩; exact ⟨⟨dx, key _ _ _ _ e⟩, r⟩
  | least n m d => rintro p ⟨⟨dx, e⟩, r⟩; exact ⟨⟨dx, key _ _ _ _ e⟩, r⟩
  | both l r i1 i2 => rintro p ⟨dx, a, b, e, h1, h2⟩; exact ⟨dx, a, b, key _ _ _ _ e, i1 h1, i2 h2⟩
  | either l r i1 i2 => rintro p ⟨dx, a, b, e, h1, h2⟩; exact ⟨dx, a, b, key _ _ _ _ e, i1 h1, i2 h2⟩
  | neg i i1 => rintro p ⟨dx, a, e, h1⟩; exact ⟨dx, a, key _ _ _ _ e, i1 h1⟩
theorem cutV_map (ns : List Int) (lo hi : Option Int) : cutV (ns.map V.int) lo hi = (cutN ns lo hi).map V.int := by
  unfold cutV cutN
  rw [List.length_map, List.map_take, List.map_drop]
theorem cut_span {α : Type} (l : List α) (a b : Nat) : (cutN l (some (a : Int)) (some (b : Int))).length ≤ b - a := by
  unfold cutN
  have e1 : HT.sIx l.length 0 (some (a : Int)) = min a l.length := by
    show (if (a : Int) < 0 then ((a : Int) + (l.length : Int)).toNat else min (a : Int).toNat l.length) = _
    rw [if_neg (by omega), Int.toNat_natCast]
  have e2 : HT.sIx l.length l.length (some (b : Int)) = min b l.length := by
    show (if (b : Int) < 0 then ((b : Int) + (l.length : Int)).toNat else min (b : Int).toNat l.length) = _
    rw [if_neg (by omega), Int.toNat_natCast]
  rw [e1, e2, List.length_take, List.length_drop]
  omega
/-! ### rules made -/
def rNev (c6 : Cs) : List V → Hp → VK → Prop := fun vs H Q => ∃ w, vs = [T w] ∧ w.length ≤ 1000 ∧ ∀ p H', Same H H' → RuleAt c6 H' (.nev w) p → Q (.ref p) H'
def rMost (c6 : Cs) : List V → Hp → VK → Prop := fun vs H Q => ∃ n m d, vs = [.int n, T m, .int d] ∧ m.length ≤ 1000 ∧ 0 ≤ d ∧ ∀ p H', Same H H' → RuleAt c6 H' (.most n m d) p → Q (.ref p) H'
def rLeast (c6 : Cs) : List V → Hp → VK → Prop := fun vs H Q => ∃ n m d, vs = [.int n, T m, .int d] ∧ m.length ≤ 1000 ∧ 0 ≤ d ∧ ∀ p H', Same H H' → RuleAt c6 H' (.least n m d) p → Q (.ref p) H'
def rBoth (c6 : Cs) : List V → Hp → VK → Prop := fun vs H Q => ∃ a b x y, vs = [.ref a, .ref b] ∧ RuleAt c6 H x a ∧ RuleAt c6 H y b ∧ ∀ p dx H', Same H H' → RuleAt c6 H' (.both x y) p → H' p = some (.ins c6.both dx [("left", .ref a), ("right", .ref b)]) → Q (.ref p) H'
def rEither (c6 : Cs) : List V → Hp → VK → Prop := fun vs H Q => ∃ a b x y, vs = [.ref a, .ref b] ∧ RuleAt c6 H x a ∧ RuleAt c6 H y b ∧ ∀ p dx H', Same H H' → RuleAt c6 H' (.either x y) p → H' p = some (.ins c6.either dx [("left", .ref a), ("right", .ref b)]) → Q (.ref p) H'
def rNot (c6 : Cs) : List V → Hp → VK → Prop := fun vs H Q => ∃ a x, vs = [.ref a] ∧ RuleAt c6 H x a ∧ ∀ p dx H', Same H H' → RuleAt c6 H' (.neg x) p → H' p = some (.ins c6.neg dx [("inner", .ref a)]) → Q (.ref p) H'
theorem mk_nev {c6 : Cs} : ∀ vs H Q, rNev c6 vs H Q → ∀ x dx, H x = none → H dx = none → dx ≠ x → sp_init c6.nev (.ref x :: (vs ++ [])) (upd (upd H dx (.own x)) x (.ins c6.nev dx [])) (fun v H2 => v = .non ∧ Q (.ref x) H2) E0 := by
  rintro _ H Q ⟨w, rfl, hw, q⟩ x dx nx ndx _
  exact ⟨x, dx, w, rfl, upd_same, rfl, q x _ (((same_new ndx _).upd nx).upd nx) ⟨⟨dx, upd_same⟩, hw⟩⟩
theorem mk_most {c6 : Cs} : ∀ vs H Q, rMost c6 vs H Q → ∀ x dx, H x = none → H dx = none → dx ≠ x → sp_init3 c6.most (.ref x :: (vs ++ [])) (upd (upd H dx (.own x)) x (.ins c6.most dx [])) (fun v H2 => v = .non ∧ Q (.ref x) H2) E0 := by
  rintro _ H Q ⟨n, m, d, rfl, hm, hd, q⟩ x dx nx ndx _
  exact ⟨x, dx, n, m, d, rfl, upd_same, rfl, q x _ (((((same_new ndx _).upd nx).upd nx).upd nx).upd nx) ⟨⟨dx, upd_same⟩, hm, hd⟩⟩
theorem mk_least {c6 : Cs} : ∀ vs H Q, rLeast c6 vs H Q → ∀ x dx, H x = none → H dx = none → dx ≠ x → sp_init3 c6.least (.ref x :: (vs ++ [])) (upd (upd H dx (.own x)) x (.ins c6.least dx [])) (fun v H2 => v = .non ∧ Q (.ref x) H2) E0 := by
  rintro _ H Q ⟨n, m, d, rfl, hm, hd, q⟩ x dx nx ndx _
  exact ⟨x, dx, n, m, d, rfl, upd_same, rfl, q x _ (((((same_new ndx _).upd nx).upd nx).upd nx).upd nx) ⟨⟨dx, upd_same⟩, hm, hd⟩⟩
theorem mk_both {c6 : Cs} : ∀ vs H Q, rBoth c6 vs H Q → ∀ x dx, H x = none → H dx = none → dx ≠ x → sp_init2 c6.both (.ref x :: (vs ++ [])) (upd (upd H dx (.own x)) x (.ins c6.both dx [])) (fun v H2 => v = .non ∧ Q (.ref x) H2) E0 := by
  rintro _ H Q ⟨a, b, y, z, rfl, ha, hb, q⟩ x dx nx ndx _
  have ss := ((((same_new ndx (.own x)).upd nx (o := .ins c6.both dx [])).upd nx (o := .ins c6.both dx (putF "left" (.ref a) []))).upd nx (o := .ins c6.both dx [("left", .ref a), ("right", .ref b)]))
  exact ⟨x, dx, a, b, rfl, upd_same, rfl, q x dx _ ss ⟨dx, a, b, upd_same, ha.same ss, hb.same ss⟩ upd_same⟩
theorem mk_either {c6 : Cs} : ∀ vs H Q, rEither c6 vs H Q → ∀ x dx, H x = none → H dx = none → dx ≠ x → sp_init2 c6.either (.ref x :: (vs ++ [])) (upd (upd H dx (.own x)) x (.ins c6.either dx [])) (fun v H2 => v = .non ∧ Q (.ref x) H2) E0 := by
  rintro _ H Q ⟨a, b, y, z, rfl, ha, hb, q⟩ x dx nx ndx _
  have ss := ((((same_new ndx (.own x)).upd nx (o := .ins c6.either dx [])).upd nx (o := .ins c6.either dx (putF "left" (.ref a) []))).upd nx (o := .ins c6.either dx [("left", .ref a), ("right", .ref b)]))
  exact ⟨x, dx, a, b, rfl, upd_same, rfl, q x dx _ ss ⟨dx, a, b, upd_same, ha.same ss, hb.same ss⟩ upd_same⟩
theorem mk_not {c6 : Cs} : ∀ vs H Q, rNot c6 vs H Q → ∀ x dx, H x = none → H dx = none → dx ≠ x → sp_init1 c6.neg (.ref x :: (vs ++ [])) (upd (upd H dx (.own x)) x (.ins c6.neg dx [])) (fun v H2 => v = .non ∧ Q (.ref x) H2) E0 := by
  rintro _ H Q ⟨a, y, rfl, ha, q⟩ x dx nx ndx _
  have ss := (((same_new ndx (.own x)).upd nx (o := .ins c6.neg dx [])).upd nx (o := .ins c6.neg dx [("inner", .ref a)]))
  exact ⟨x, dx, a, rfl, upd_same, rfl, q x dx _ ss ⟨dx, a, upd_same, ha.same ss⟩ upd_same⟩

section
variable {P : Program} {w : World} {K : PySem.W.Frag} {mg : Str → Option Value} {base : Heap} {C_Never C_Most C_Least C_Both C_Either C_Not : Addr}

theorem g_fits (tx : Tx K mg C_Never C_Most C_Least C_Both C_Either C_Not) : FnG P w K mg base "fits" 1 ["sign", "mark"] sp_fits := by
  refine tx.f_fits.g sc_fits (fun _ _ _ _ _ _ us hl => match us, hl with | [_, _], _ => rfl) (fun vs H Q E h => ?_) (fun f cdv A outer s H vs Q E hr h => ?_)
  · obtain ⟨a, b, rfl, _⟩ := h
    rfl
  · obtain ⟨a, b, rfl, q⟩ := h
    refine ⟨_, (pss_cons (ps_if (pt_cmpR op_eq (pv 0) (pe_txt (l := [63]) (by decide +kernel)) (nomark _)) (pss_one (ps_ret pe_bl)) pss_nil)
      (pss_cons (ps_if (pt_cmpR op_eq (pv 0) (pe_txt (l := [35]) (by decide +kernel)) (nomark _)) (pss_one (ps_ret (pe_cmpR op_ne (pv 1) (pe_txt (l := [45]) (by decide +kernel)) (nomark _)))) pss_nil)
      (pss_one (ps_ret (pe_cmpR op_eq (pv 0) (pv 1) (nomark _)))))), ?_⟩
    walk_at "st"
    refine ⟨_, rfl, rfl, _, rfl, ?_⟩
    refine ite2 (fun c => ?_) (fun c => ?_)
    · have e : fitsV (T a) (T b) = true := by unfold fitsV; rw [if_pos c]
      rw [e] at q
      exact q
    · refine ⟨_, rfl, rfl, _, rfl, ?_⟩
      refine ite2 (fun c2 => ?_) (fun c2 => ?_)
      · have e : fitsV (T a) (T b) = !decide (T b = T [45]) := by unfold fitsV; rw [if_neg c, if_pos c2]
        rw [e] at q
        exact ⟨_, rfl, rfl, q⟩
      · have e : fitsV (T a) (T b) = decide (T a = T b) := by unfold fitsV; rw [if_neg c, if_neg c2]
        rw [e] at q
        exact ⟨_, rfl, _, rfl, rfl, q⟩


theorem g_last_marks (tx : Tx K mg C_Never C_Most C_Least C_Both C_Either C_Not) : FnG P w K mg base "last_marks" 1 ["marks", "many"] sp_last := by
  refine tx.f_last_marks.g sc_last_marks (fun _ _ _ _ _ _ us hl => match us, hl with | [_, _], _ => rfl) (fun vs H Q E h => ?_) (fun f cdv A outer s H vs Q E hr h => ?_)
  · obtain ⟨a, b, rfl, _⟩ := h
    rfl
  · obtain ⟨l, n, rfl, hl, hn, q⟩ := h
    refine ⟨_, (pss_one (ps_ret (pe_slice sl_txt (pv 0) (po_some (pe_callB (call_max2 rfl) rfl tx.z_max bt_max (pa_cons pe_int (pa_cons (pe_op op_sub (pe_callB call_lenS rfl tx.z_len PySem.boot_len (pa_cons (pv 0) pa_nil)) (pv 1)) pa_nil)))) po_none))), ?_⟩
    walk_at "st"
    refine ⟨_, rfl, _, rfl, l, rfl, small6 hl, _, rfl, _, _, rfl, rfl, _, _, rfl, _, rfl, l, rfl, small6 hl, ?_⟩
    have e : cutN l (some (if (l.length : Int) - n > 0 then (l.length : Int) - n else 0)) none = l.drop (l.length - n.toNat) := by
      rw [cut_from _ _ (by split <;> omega)]
      congr 1
      split <;> omega
    rw [e]
    exact q


theorem g_let_by (tx : Tx K mg C_Never C_Most C_Least C_Both C_Either C_Not) : FnG P w K mg base "let_by" 2 ["signs", "mark"] sp_let := by
  have G_fits := g_fits (P := P) (w := w) (base := base) tx
  refine tx.f_let_by.g sc_let_by (fun _ _ _ _ _ _ us hl => match us, hl with | [_, _], _ => rfl) (fun vs H Q E h => ?_) (fun f cdv A outer s H vs Q E hr h => ?_)
  · obtain ⟨m, c, rfl, _⟩ := h
    rfl
  · obtain ⟨m, c, rfl, hm, q⟩ := h
    refine ⟨_, (pss_one (ps_ret (pe_callB (call_anyBK (K := K) rfl rfl) rfl tx.z_any bt_any (pa_cons (pe_comp (osc := defScope s_let_by) (ON := ["signs", "mark"]) (N := ["sign", "mark"]) (js := [none, some 1]) ⟨rfl, by decide +kernel, by decide +kernel, by decide +kernel, rfl, by decide +kernel⟩ rfl rfl rfl (pi_txt (pv 0)) (fun _ _ _ _ _ => pg_name (i := 0) (show List.Nodup (["sign", "mark"] : List Str) from by decide +kernel) rfl (Or.inl rfl)) (fun _ _ _ _ _ => pifs_nil) (fun _ _ _ _ _ => (pe_fn G_fits (hr.mono (by decide)) (pa_cons (pv 0) (pa_cons (pv 1) pa_nil))))) pa_nil)))), ?_⟩
    walk_at "st"
    refine ⟨_, rfl, m, rfl, ?_⟩
    refine comp_map (fun x => match x with | .str z => .bl (fitsV (.str z) (T [c])) | v => v) (hands_txt m) ?_ (fun x hx H' s' R hR => ?_) (fun D H' hD s' hDD => ?_)
    · rw [List.length_map]; omega
    · obtain ⟨k, _, rfl⟩ := List.mem_map.mp hx
      exact ⟨_, rfl, _, rfl, [k], [c], rfl, hR H' (Same.refl _)⟩
    refine ⟨D, m.map fun s => fitsV (T [s]) (T [c]), rfl, SqL.of ?_, ?_⟩
    · rw [hDD, List.map_map, List.map_map]
      rfl
    · exact q H' s'


theorem g_count_among (tx : Tx K mg C_Never C_Most C_Least C_Both C_Either C_Not) : FnG P w K mg base "count_among" 3 ["signs", "marks"] sp_count := by
  have G_let_by := g_let_by (P := P) (w := w) (base := base) tx
  refine tx.f_count_among.g sc_count_among (fun _ _ _ _ _ _ us hl => match us, hl with | [_, _], _ => rfl) (fun vs H Q E h => ?_) (fun f cdv A outer s H vs Q E hr h => ?_)
  · obtain ⟨m, c, rfl, _⟩ := h
    rfl
  · obtain ⟨m, l, rfl, hm, hl, q⟩ := h
    refine ⟨_, (pss_one (ps_ret (pe_callB (call_len_seqK (K := K) rfl) rfl tx.z_len PySem.boot_len (pa_cons (pe_comp (osc := defScope s_count_among) (ON := ["signs", "marks"]) (N := ["mark", "signs"]) (js := [none, some 0]) ⟨rfl, by decide +kernel, by decide +kernel, by decide +kernel, rfl, by decide +kernel⟩ rfl rfl rfl (pi_txt (pv 1)) (fun _ _ _ _ _ => pg_name (i := 0) (show List.Nodup (["mark", "signs"] : List Str) from by decide +kernel) rfl (Or.inl rfl)) (fun _ _ _ _ _ => pifs_one (pt_val (pe_fn G_let_by (hr.mono (by decide)) (pa_cons (pv 1) (pa_cons (pv 0) pa_nil))))) (fun _ _ _ _ _ => (pv 0))) pa_nil)))), ?_⟩
    walk_at "st"
    refine ⟨_, rfl, l, rfl, ?_⟩
    refine comp_by (fun x => match x with | .str ⟨⟨[c]⟩⟩ => letV m c | _ => false) (fun x => x) (hands_txt l) ?_ (fun x hx H' s' R hR => ?_) (fun x hx hp H' s' R hR => ?_) (fun D H' hD s' hDD => ?_)
    · rw [List.length_map]; omega
    · obtain ⟨k, _, rfl⟩ := List.mem_map.mp hx
      exact ⟨_, rfl, _, rfl, m, k, rfl, hm, fun H2 s2 => ⟨_, rfl, hR H2 s2⟩⟩
    · exact ⟨_, rfl, hR H' (Same.refl _)⟩
    refine ⟨D, _, rfl, .inl (SqL.of hDD), ?_⟩
    have e : ((((l.map fun c => T [c]).filter (fun x => match x with | .str ⟨⟨[c]⟩⟩ => letV m c | _ => false)).map (fun x => x)).length : Int) = (cntV m l : Int) := by
      rw [List.length_map, List.filter_map, List.length_map]
      rfl
    rw [e]
    exact q H' s'


theorem g_Never_init (tx : Tx K mg C_Never C_Most C_Least C_Both C_Either C_Not) : MtG P w K mg base C_Never "__init__" 1 ["self", "word"] (sp_init C_Never) := by
  refine tx.m_Never_init.g tx.c_Never.cl sc_Never_init (fun _ _ _ _ _ _ us hl => match us, hl with | [_, _], _ => rfl) (fun vs H Q E h => ?_) (fun f cdv A outer s H vs Q E hr h => ?_)
  · obtain ⟨p, dx, w, rfl, _⟩ := h
    rfl
  · obtain ⟨p, dx, w, rfl, hp, q⟩ := h
    refine ⟨_, (pss_one (ps_fld (pv 0) (pv 1) rfl)), ?_⟩
    walk_at "st"
    exact ⟨_, rfl, _, rfl, p, C_Never, dx, [], rfl, hp, tx.c_Never.cl, tx.n_Never_word, by decide, q⟩


theorem g_Never_reach (tx : Tx K mg C_Never C_Most C_Least C_Both C_Either C_Not) : MtG P w K mg base C_Never "reach" 1 ["self"] (sp_reach C_Never) := by
  refine tx.m_Never_reach.g tx.c_Never.cl sc_Never_reach (fun _ _ _ _ _ _ us hl => match us, hl with | [_], _ => rfl) (fun vs H Q E h => ?_) (fun f cdv A outer s H vs Q E hr h => ?_)
  · obtain ⟨p, w, rfl, _⟩ := h
    rfl
  · obtain ⟨p, w, rfl, ⟨dx, hp⟩, hw, q⟩ := h
    refine ⟨_, (pss_one (ps_ret (pe_callB call_lenS rfl tx.z_len PySem.boot_len (pa_cons (pe_fldK (K := K) rfl (pv 0) rfl) pa_nil)))), ?_⟩
    walk_at "st"
    exact ⟨_, rfl, p, C_Never, dx, _, _, rfl, hp, tx.c_Never.cl, tx.n_Never_word, wl _, w, rfl, small6 hw, q⟩


theorem g_Never_bad (tx : Tx K mg C_Never C_Most C_Least C_Both C_Either C_Not) : MtG P w K mg base C_Never "bad" 2 ["self", "marks"] (sp_bad C_Never) := by
  have G_fits := g_fits (P := P) (w := w) (base := base) tx
  have G_last_marks := g_last_marks (P := P) (w := w) (base := base) tx
  refine tx.m_Never_bad.g tx.c_Never.cl sc_Never_bad (fun _ _ _ _ _ _ us hl => match us, hl with | [_, _], _ => rfl) (fun vs H Q E h => ?_) (fun f cdv A outer s H vs Q E hr h => ?_)
  · obtain ⟨p, w, l, rfl, _⟩ := h
    rfl
  · obtain ⟨p, w, l, rfl, ⟨dx, hp⟩, hw, hl, q⟩ := h
    refine ⟨_, (pss_cons (ps_if (pt_cmpR op_lt (pe_callB call_lenS rfl tx.z_len PySem.boot_len (pa_cons (pv 1) pa_nil)) (pe_callB call_lenS rfl tx.z_len PySem.boot_len (pa_cons (pe_fldK (K := K) rfl (pv 0) rfl) pa_nil)) (nomark _)) (pss_one (ps_ret pe_bl)) pss_nil)
      (pss_cons (ps_set (i := 2) sc_Never_bad.nd rfl (Or.inl rfl) (pe_fn G_last_marks (hr.mono (by decide)) (pa_cons (pv 1) (pa_cons (pe_callB call_lenS rfl tx.z_len PySem.boot_len (pa_cons (pe_fldK (K := K) rfl (pv 0) rfl) pa_nil)) pa_nil))))
      (pss_one (ps_ret (pe_callB (call_allBK (K := K) rfl rfl) rfl tx.z_all bt_all (pa_cons (pe_comp (osc := defScope s_Never_bad) (ON := ["self", "marks", "nearest"]) (N := ["sign", "mark"]) (js := [none, none]) ⟨rfl, by decide +kernel, by decide +kernel, by decide +kernel, rfl, by decide +kernel⟩ rfl rfl rfl (pi_zipT rfl tx.z_zip (pa_cons (pe_fldK (K := K) rfl (pv 0) rfl) (pa_cons (pv 2) pa_nil))) (fun _ _ _ _ _ => pg_two (K := K) (i := 0) (j := 1) rfl rfl (show List.Nodup (["sign", "mark"] : List Str) from by decide +kernel) rfl rfl (Or.inl rfl) (Or.inl rfl)) (fun _ _ _ _ _ => pifs_nil) (fun _ _ _ _ _ => (pe_fn G_fits (hr.mono (by decide)) (pa_cons (pv 0) (pa_cons (pv 1) pa_nil))))) pa_nil)))))), ?_⟩
    walk_at "st"
    refine ⟨_, rfl, l, rfl, small6 hl, _, rfl, p, C_Never, dx, _, _, rfl, hp, tx.c_Never.cl, tx.n_Never_word, wl _, w, rfl, small6 hw, _, _, rfl, rfl, _, rfl, ?_⟩
    refine ite2 (fun c => ?_) (fun c => ?_)
    · have c' := of_decide_eq_true c
      have e : nevB w l = false := by unfold nevB; rw [if_pos (by omega)]
      have q' := q H (Same.refl _)
      rw [e] at q'
      exact q'
    · have c' : ¬ ((l.length : Int) < (w.length : Int)) := of_decide_eq_false (Bool.eq_false_iff.mpr c)
      refine ⟨_, rfl, _, rfl, p, C_Never, dx, _, _, rfl, hp, tx.c_Never.cl, tx.n_Never_word, wl _, w, rfl, small6 hw, l, _, rfl, hl, by omega, ?_⟩
      refine ⟨_, rfl, p, C_Never, dx, _, _, rfl, hp, tx.c_Never.cl, tx.n_Never_word, wl _, _, rfl, w, _, rfl, ?_⟩
      refine comp_zipT (fun c d => .bl (fitsV (T [c]) (T [d]))) ?_ (fun c d H' s' R hR => ?_) (fun D H' hD s' hDD => ?_)
      · omega
      · exact ⟨_, rfl, _, rfl, _, _, rfl, hR H' (Same.refl _)⟩
      refine ⟨D, ((w.zip (l.drop (l.length - (w.length : Int).toNat))).map fun p => fitsV (T [p.1]) (T [p.2])), rfl, SqL.of ?_, ?_⟩
      · rw [hDD, List.map_map]
        rfl
      · have e : nevB w l = ((w.zip (l.drop (l.length - (w.length : Int).toNat))).map fun p => fitsV (T [p.1]) (T [p.2])).all id := by
          unfold nevB
          rw [if_neg (by omega), Int.toNat_natCast]
        have q' := q H' s'
        rw [e] at q'
        exact q'


theorem g_Most_init (tx : Tx K mg C_Never C_Most C_Least C_Both C_Either C_Not) : MtG P w K mg base C_Most "__init__" 1 ["self", "many", "marks", "days"] (sp_init3 C_Most) := by
  refine tx.m_Most_init.g tx.c_Most.cl sc_Most_init (fun _ _ _ _ _ _ us hl => match us, hl with | [_, _, _, _], _ => rfl) (fun vs H Q E h => ?_) (fun f cdv A outer s H vs Q E hr h => ?_)
  · obtain ⟨p, dx, n, m, d, rfl, _⟩ := h
    rfl
  · obtain ⟨p, dx, n, m, d, rfl, hp, q⟩ := h
    refine ⟨_, (pss_cons (ps_fld (pv 0) (pv 1) rfl)
      (pss_cons (ps_fld (pv 0) (pv 2) rfl)
      (pss_one (ps_fld (pv 0) (pv 3) rfl)))), ?_⟩
    walk_at "st"
    refine ⟨_, rfl, _, rfl, p, C_Most, dx, [], rfl, hp, tx.c_Most.cl, tx.n_Most_many, by decide, ?_⟩
    refine ⟨_, rfl, _, rfl, p, C_Most, dx, _, rfl, upd_same, tx.c_Most.cl, tx.n_Most_marks, by show 1 < 1000; decide, ?_⟩
    refine ⟨_, rfl, _, rfl, p, C_Most, dx, _, rfl, upd_same, tx.c_Most.cl, tx.n_Most_days, ?_, ?_⟩
    · have := length_putF "marks" (T m) (putF "many" (.int n) [])
      have h2 := length_putF "many" (V.int n) []
      have h3 : ([] : List (Str × V)).length = 0 := rfl
      omega
    rw [put3]
    exact q


theorem g_Most_reach (tx : Tx K mg C_Never C_Most C_Least C_Both C_Either C_Not) : MtG P w K mg base C_Most "reach" 1 ["self"] (sp_reach3 C_Most) := by
  refine tx.m_Most_reach.g tx.c_Most.cl sc_Most_reach (fun _ _ _ _ _ _ us hl => match us, hl with | [_], _ => rfl) (fun vs H Q E h => ?_) (fun f cdv A outer s H vs Q E hr h => ?_)
  · obtain ⟨p, n, m, d, rfl, _⟩ := h
    rfl
  · obtain ⟨p, n, m, d, rfl, ⟨dx, hp⟩, q⟩ := h
    refine ⟨_, (pss_one (ps_ret (pe_fldK (K := K) rfl (pv 0) rfl))), ?_⟩
    walk_at "st"
    exact ⟨_, rfl, p, C_Most, dx, _, _, rfl, hp, tx.c_Most.cl, tx.n_Most_days, lk_days _ _ _, q⟩


theorem g_Most_bad (tx : Tx K mg C_Never C_Most C_Least C_Both C_Either C_Not) : MtG P w K mg base C_Most "bad" 4 ["self", "marks"] (sp_bad3 C_Most mostB) := by
  have G_count_among := g_count_among (P := P) (w := w) (base := base) tx
  have G_last_marks := g_last_marks (P := P) (w := w) (base := base) tx
  refine tx.m_Most_bad.g tx.c_Most.cl sc_Most_bad (fun _ _ _ _ _ _ us hl => match us, hl with | [_, _], _ => rfl) (fun vs H Q E h => ?_) (fun f cdv A outer s H vs Q E hr h => ?_)
  · obtain ⟨p, n, m, d, l, rfl, _⟩ := h
    rfl
  · obtain ⟨p, n, m, d, l, rfl, ⟨dx, hp⟩, hm, hd, hl, q⟩ := h
    refine ⟨_, (pss_one (ps_ret (pe_cmpR op_gt (pe_fn G_count_among (hr.mono (by decide)) (pa_cons (pe_fldK (K := K) rfl (pv 0) rfl) (pa_cons (pe_fn G_last_marks (hr.mono (by decide)) (pa_cons (pv 1) (pa_cons (pe_fldK (K := K) rfl (pv 0) rfl) pa_nil))) pa_nil))) (pe_fldK (K := K) rfl (pv 0) rfl) (nomark _)))), ?_⟩
    walk_at "st"
    refine ⟨_, rfl, p, C_Most, dx, _, _, rfl, hp, tx.c_Most.cl, tx.n_Most_marks, lk_marks _ _ _, _, rfl, _, rfl, p, C_Most, dx, _, _, rfl, hp, tx.c_Most.cl, tx.n_Most_days, lk_days _ _ _, l, d, rfl, hl, hd, m, _, rfl, hm, ?_, fun H' s' => ?_⟩
    · rw [List.length_drop]; omega
    exact ⟨_, rfl, p, C_Most, dx, _, _, rfl, s' _ _ hp, tx.c_Most.cl, tx.n_Most_many, lk_many _ _ _, _, _, rfl, rfl, q H' s'⟩


theorem g_Least_init (tx : Tx K mg C_Never C_Most C_Least C_Both C_Either C_Not) : MtG P w K mg base C_Least "__init__" 1 ["self", "many", "marks", "days"] (sp_init3 C_Least) := by
  refine tx.m_Least_init.g tx.c_Least.cl sc_Least_init (fun _ _ _ _ _ _ us hl => match us, hl with | [_, _, _, _], _ => rfl) (fun vs H Q E h => ?_) (fun f cdv A outer s H vs Q E hr h => ?_)
  · obtain ⟨p, dx, n, m, d, rfl, _⟩ := h
    rfl
  · obtain ⟨p, dx, n, m, d, rfl, hp, q⟩ := h
    refine ⟨_, (pss_cons (ps_fld (pv 0) (pv 1) rfl)
      (pss_cons (ps_fld (pv 0) (pv 2) rfl)
      (pss_one (ps_fld (pv 0) (pv 3) rfl)))), ?_⟩
    walk_at "st"
    refine ⟨_, rfl, _, rfl, p, C_Least, dx, [], rfl, hp, tx.c_Least.cl, tx.n_Least_many, by decide, ?_⟩
    refine ⟨_, rfl, _, rfl, p, C_Least, dx, _, rfl, upd_same, tx.c_Least.cl, tx.n_Least_marks, by show 1 < 1000; decide, ?_⟩
    refine ⟨_, rfl, _, rfl, p, C_Least, dx, _, rfl, upd_same, tx.c_Least.cl, tx.n_Least_days, ?_, ?_⟩
    · have := length_putF "marks" (T m) (putF "many" (.int n) [])
      have h2 := length_putF "many" (V.int n) []
      have h3 : ([] : List (Str × V)).length = 0 := rfl
      omega
    rw [put3]
    exact q


theorem g_Least_reach (tx : Tx K mg C_Never C_Most C_Least C_Both C_Either C_Not) : MtG P w K mg base C_Least "reach" 1 ["self"] (sp_reach3 C_Least) := by
  refine tx.m_Least_reach.g tx.c_Least.cl sc_Least_reach (fun _ _ _ _ _ _ us hl => match us, hl with | [_], _ => rfl) (fun vs H Q E h => ?_) (fun f cdv A outer s H vs Q E hr h => ?_)
  · obtain ⟨p, n, m, d, rfl, _⟩ := h
    rfl
  · obtain ⟨p, n, m, d, rfl, ⟨dx, hp⟩, q⟩ := h
    refine ⟨_, (pss_one (ps_ret (pe_fldK (K := K) rfl (pv 0) rfl))), ?_⟩
    walk_at "st"
    exact ⟨_, rfl, p, C_Least, dx, _, _, rfl, hp, tx.c_Least.cl, tx.n_Least_days, lk_days _ _ _, q⟩


theorem g_Least_bad (tx : Tx K mg C_Never C_Most C_Least C_Both C_Either C_Not) : MtG P w K mg base C_Least "bad" 4 ["self", "marks"] (sp_bad3 C_Least leastB) := by
  have G_count_among := g_count_among (P := P) (w := w) (base := base) tx
  have G_last_marks := g_last_marks (P := P) (w := w) (base := base) tx
  refine tx.m_Least_bad.g tx.c_Least.cl sc_Least_bad (fun _ _ _ _ _ _ us hl => match us, hl with | [_, _], _ => rfl) (fun vs H Q E h => ?_) (fun f cdv A outer s H vs Q E hr h => ?_)
  · obtain ⟨p, n, m, d, l, rfl, _⟩ := h
    rfl
  · obtain ⟨p, n, m, d, l, rfl, ⟨dx, hp⟩, hm, hd, hl, q⟩ := h
    refine ⟨_, (pss_cons (ps_if (pt_cmpR op_lt (pe_callB call_lenS rfl tx.z_len PySem.boot_len (pa_cons (pv 1) pa_nil)) (pe_fldK (K := K) rfl (pv 0) rfl) (nomark _)) (pss_one (ps_ret pe_bl)) pss_nil)
      (pss_one (ps_ret (pe_cmpR op_lt (pe_fn G_count_among (hr.mono (by decide)) (pa_cons (pe_fldK (K := K) rfl (pv 0) rfl) (pa_cons (pe_fn G_last_marks (hr.mono (by decide)) (pa_cons (pv 1) (pa_cons (pe_fldK (K := K) rfl (pv 0) rfl) pa_nil))) pa_nil))) (pe_fldK (K := K) rfl (pv 0) rfl) (nomark _))))), ?_⟩
    walk_at "st"
    refine ⟨_, rfl, l, rfl, small6 hl, _, rfl, p, C_Least, dx, _, _, rfl, hp, tx.c_Least.cl, tx.n_Least_days, lk_days _ _ _, _, _, rfl, rfl, _, rfl, ?_⟩
    refine ite2 (fun c => ?_) (fun c => ?_)
    · have c' := of_decide_eq_true c
      have e : leastB n m d l = false := by unfold leastB; rw [if_pos c']
      have q' := q H (Same.refl _)
      rw [e] at q'
      exact q'
    have c' : ¬ ((l.length : Int) < d) := of_decide_eq_false (Bool.eq_false_iff.mpr c)
    have e : leastB n m d l = decide ((cntV m (l.drop (l.length - d.toNat)) : Int) < n) := by unfold leastB; rw [if_neg c']
    refine ⟨_, rfl, p, C_Least, dx, _, _, rfl, hp, tx.c_Least.cl, tx.n_Least_marks, lk_marks _ _ _, _, rfl, _, rfl, p, C_Least, dx, _, _, rfl, hp, tx.c_Least.cl, tx.n_Least_days, lk_days _ _ _, l, d, rfl, hl, hd, m, _, rfl, hm, ?_, fun H' s' => ?_⟩
    · rw [List.length_drop]; omega
    have q' := q H' s'
    rw [e] at q'
    exact ⟨_, rfl, p, C_Least, dx, _, _, rfl, s' _ _ hp, tx.c_Least.cl, tx.n_Least_many, lk_many _ _ _, _, _, rfl, rfl, q'⟩


theorem g_Both_init (tx : Tx K mg C_Never C_Most C_Least C_Both C_Either C_Not) : MtG P w K mg base C_Both "__init__" 1 ["self", "left", "right"] (sp_init2 C_Both) := by
  refine tx.m_Both_init.g tx.c_Both.cl sc_Both_init (fun _ _ _ _ _ _ us hl => match us, hl with | [_, _, _], _ => rfl) (fun vs H Q E h => ?_) (fun f cdv A outer s H vs Q E hr h => ?_)
  · obtain ⟨p, dx, a, b, rfl, _⟩ := h
    rfl
  · obtain ⟨p, dx, a, b, rfl, hp, q⟩ := h
    refine ⟨_, (pss_cons (ps_fld (pv 0) (pv 1) rfl)
      (pss_one (ps_fld (pv 0) (pv 2) rfl))), ?_⟩
    walk_at "st"
    refine ⟨_, rfl, _, rfl, p, C_Both, dx, [], rfl, hp, tx.c_Both.cl, tx.n_Both_left, by decide, ?_⟩
    refine ⟨_, rfl, _, rfl, p, C_Both, dx, _, rfl, upd_same, tx.c_Both.cl, tx.n_Both_right, by show 1 < 1000; decide, ?_⟩
    rw [put2]
    exact q


theorem g_Either_init (tx : Tx K mg C_Never C_Most C_Least C_Both C_Either C_Not) : MtG P w K mg base C_Either "__init__" 1 ["self", "left", "right"] (sp_init2 C_Either) := by
  refine tx.m_Either_init.g tx.c_Either.cl sc_Either_init (fun _ _ _ _ _ _ us hl => match us, hl with | [_, _, _], _ => rfl) (fun vs H Q E h => ?_) (fun f cdv A outer s H vs Q E hr h => ?_)
  · obtain ⟨p, dx, a, b, rfl, _⟩ := h
    rfl
  · obtain ⟨p, dx, a, b, rfl, hp, q⟩ := h
    refine ⟨_, (pss_cons (ps_fld (pv 0) (pv 1) rfl)
      (pss_one (ps_fld (pv 0) (pv 2) rfl))), ?_⟩
    walk_at "st"
    refine ⟨_, rfl, _, rfl, p, C_Either, dx, [], rfl, hp, tx.c_Either.cl, tx.n_Either_left, by decide, ?_⟩
    refine ⟨_, rfl, _, rfl, p, C_Either, dx, _, rfl, upd_same, tx.c_Either.cl, tx.n_Either_right, by show 1 < 1000; decide, ?_⟩
    rw [put2]
    exact q


theorem g_Not_init (tx : Tx K mg C_Never C_Most C_Least C_Both C_Either C_Not) : MtG P w K mg base C_Not "__init__" 1 ["self", "inner"] (sp_init1 C_Not) := by
  refine tx.m_Not_init.g tx.c_Not.cl sc_Not_init (fun _ _ _ _ _ _ us hl => match us, hl with | [_, _], _ => rfl) (fun vs H Q E h => ?_) (fun f cdv A outer s H vs Q E hr h => ?_)
  · obtain ⟨p, dx, a, rfl, _⟩ := h
    rfl
  · obtain ⟨p, dx, a, rfl, hp, q⟩ := h
    refine ⟨_, (pss_one (ps_fld (pv 0) (pv 1) rfl)), ?_⟩
    walk_at "st"
    exact ⟨_, rfl, _, rfl, p, C_Not, dx, [], rfl, hp, tx.c_Not.cl, tx.n_Not_inner, by decide, q⟩




abbrev cs6 (C_Never C_Most C_Least C_Both C_Either C_Not : Addr) : Cs := ⟨C_Never, C_Most, C_Least, C_Both, C_Either, C_Not⟩
theorem g_bad (tx : Tx K mg C_Never C_Most C_Least C_Both C_Either C_Not) : ∀ r : R, MtG P w K mg base (r.cls (cs6 C_Never C_Most C_Least C_Both C_Either C_Not)) "bad" (5 + r.depth) ["self", "marks"] (sp_R (cs6 C_Never C_Most C_Least C_Both C_Either C_Not) r)
  | .nev w => (g_Never_bad tx).imp (fun vs H Q E ⟨p, l, e, h, hl, q⟩ => ⟨p, w, l, e, h.1, h.2, hl, q⟩) |>.mono (by show 2 ≤ 5 + _; omega)
  | .most n m d => (g_Most_bad tx).imp (fun vs H Q E ⟨p, l, e, h, hl, q⟩ => ⟨p, n, m, d, l, e, h.1, h.2.1, h.2.2, hl, q⟩) |>.mono (by show 4 ≤ 5 + _; omega)
  | .least n m d => (g_Least_bad tx).imp (fun vs H Q E ⟨p, l, e, h, hl, q⟩ => ⟨p, n, m, d, l, e, h.1, h.2.1, h.2.2, hl, q⟩) |>.mono (by show 4 ≤ 5 + _; omega)
  | .both x y => by
    have Gx := g_bad tx x
    have Gy := g_bad tx y
    refine MtG.mono (j := (5 + max x.depth y.depth) + 1) (tx.m_Both_bad.g tx.c_Both.cl sc_Both_bad (fun _ _ _ _ _ _ us hl => match us, hl with | [_, _], _ => rfl) (fun vs H Q E h => ?_) (fun f cdv A outer s H vs Q E hr h => ?_)) (by show _ ≤ 5 + (max x.depth y.depth + 1); omega)
    · obtain ⟨p, l, rfl, _⟩ := h
      rfl
    · obtain ⟨p, l, rfl, ⟨dx, a, b, e, ha, hb⟩, hl, q⟩ := h
      refine ⟨_, (pss_one (ps_ret (pe_or (pe_mtD (P := P) (w := w) (K := K) (mg := mg) (base := base) hr (pe_fldK (K := K) rfl (pv 0) rfl) (pa_cons (pv 1) pa_nil) rfl rfl rfl rfl rfl) (pe_one (pe_mtD (P := P) (w := w) (K := K) (mg := mg) (base := base) hr (pe_fldK (K := K) rfl (pv 0) rfl) (pa_cons (pv 1) pa_nil) rfl rfl rfl rfl rfl))))), ?_⟩
      walk_at "st"
      obtain ⟨dx1, fs1, o1, n1, _⟩ := ha.obj
      refine ⟨_, rfl, p, C_Both, dx, _, _, rfl, e, tx.c_Both.cl, tx.n_Both_left, lk_left _ _, a, _, dx1, fs1, _, _, _, rfl, o1, n1, Gx, by omega, _, rfl, a, l, rfl, ha, hl, fun H1 s1 => ⟨_, rfl, ?_⟩⟩
      refine ite2 (fun c => ?_) (fun c => ?_)
      · have q' := q H1 s1
        rw [show (R.both x y).bad l = true by show (x.bad l || y.bad l) = true; rw [c, Bool.true_or]] at q'
        exact q'
      · obtain ⟨dx2, fs2, o2, n2, _⟩ := (hb.same s1).obj
        refine ⟨_, rfl, p, C_Both, dx, _, _, rfl, s1 _ _ e, tx.c_Both.cl, tx.n_Both_right, lk_right _ _, b, _, dx2, fs2, _, _, _, rfl, o2, n2, Gy, by omega, _, rfl, b, l, rfl, hb.same s1, hl, fun H2 s2 => ?_⟩
        have q' := q H2 (s1.trans s2)
        rw [show (R.both x y).bad l = y.bad l by show (x.bad l || y.bad l) = y.bad l; rw [Bool.eq_false_iff.mpr c, Bool.false_or]] at q'
        exact q'
  | .either x y => by
    have Gx := g_bad tx x
    have Gy := g_bad tx y
    refine MtG.mono (j := (5 + max x.depth y.depth) + 1) (tx.m_Either_bad.g tx.c_Either.cl sc_Either_bad (fun _ _ _ _ _ _ us hl => match us, hl with | [_, _], _ => rfl) (fun vs H Q E h => ?_) (fun f cdv A outer s H vs Q E hr h => ?_)) (by show _ ≤ 5 + (max x.depth y.depth + 1); omega)
    · obtain ⟨p, l, rfl, _⟩ := h
      rfl
    · obtain ⟨p, l, rfl, ⟨dx, a, b, e, ha, hb⟩, hl, q⟩ := h
      refine ⟨_, (pss_one (ps_ret (pe_and (pe_mtD (P := P) (w := w) (K := K) (mg := mg) (base := base) hr (pe_fldK (K := K) rfl (pv 0) rfl) (pa_cons (pv 1) pa_nil) rfl rfl rfl rfl rfl) (pe_one (pe_mtD (P := P) (w := w) (K := K) (mg := mg) (base := base) hr (pe_fldK (K := K) rfl (pv 0) rfl) (pa_cons (pv 1) pa_nil) rfl rfl rfl rfl rfl))))), ?_⟩
      walk_at "st"
      obtain ⟨dx1, fs1, o1, n1, _⟩ := ha.obj
      refine ⟨_, rfl, p, C_Either, dx, _, _, rfl, e, tx.c_Either.cl, tx.n_Either_left, lk_left _ _, a, _, dx1, fs1, _, _, _, rfl, o1, n1, Gx, by omega, _, rfl, a, l, rfl, ha, hl, fun H1 s1 => ⟨_, rfl, ?_⟩⟩
      refine ite2 (fun c => ?_) (fun c => ?_)
      · obtain ⟨dx2, fs2, o2, n2, _⟩ := (hb.same s1).obj
        refine ⟨_, rfl, p, C_Either, dx, _, _, rfl, s1 _ _ e, tx.c_Either.cl, tx.n_Either_right, lk_right _ _, b, _, dx2, fs2, _, _, _, rfl, o2, n2, Gy, by omega, _, rfl, b, l, rfl, hb.same s1, hl, fun H2 s2 => ?_⟩
        have q' := q H2 (s1.trans s2)
        rw [show (R.either x y).bad l = y.bad l by show (x.bad l && y.bad l) = y.bad l; rw [c, Bool.true_and]] at q'
        exact q'
      · have q' := q H1 s1
        rw [show (R.either x y).bad l = false by show (x.bad l && y.bad l) = false; rw [Bool.eq_false_iff.mpr c, Bool.false_and]] at q'
        exact q'
  | .neg x => by
    have Gx := g_bad tx x
    refine MtG.mono (j := (5 + x.depth) + 1) (tx.m_Not_bad.g tx.c_Not.cl sc_Not_bad (fun _ _ _ _ _ _ us hl => match us, hl with | [_, _], _ => rfl) (fun vs H Q E h => ?_) (fun f cdv A outer s H vs Q E hr h => ?_)) (by show _ ≤ 5 + (x.depth + 1); omega)
    · obtain ⟨p, l, rfl, _⟩ := h
      rfl
    · obtain ⟨p, l, rfl, ⟨dx, a, e, ha⟩, hl, q⟩ := h
      refine ⟨_, (pss_one (ps_ret (pe_not (pe_mtD (P := P) (w := w) (K := K) (mg := mg) (base := base) hr (pe_fldK (K := K) rfl (pv 0) rfl) (pa_cons (pv 1) pa_nil) rfl rfl rfl rfl rfl)))), ?_⟩
      walk_at "st"
      obtain ⟨dx1, fs1, o1, n1, _⟩ := ha.obj
      exact ⟨_, rfl, p, C_Not, dx, _, _, rfl, e, tx.c_Not.cl, tx.n_Not_inner, lk_inner _, a, _, dx1, fs1, _, _, _, rfl, o1, n1, Gx, Nat.le_refl _, _, rfl, a, l, rfl, ha, hl, fun H1 s1 => ⟨_, rfl, q H1 s1⟩⟩




theorem g_far (tx : Tx K mg C_Never C_Most C_Least C_Both C_Either C_Not) : ∀ r : R, MtG P w K mg base (r.cls (cs6 C_Never C_Most C_Least C_Both C_Either C_Not)) "reach" (1 + r.depth) ["self"] (sp_far (cs6 C_Never C_Most C_Least C_Both C_Either C_Not) r)
  | .nev w => (g_Never_reach tx).imp (fun vs H Q E ⟨p, e, h, q⟩ => ⟨p, w, e, h.1, h.2, q⟩) |>.mono (by show 1 ≤ 1 + _; omega)
  | .most n m d => (g_Most_reach tx).imp (fun vs H Q E ⟨p, e, h, q⟩ => ⟨p, n, m, d, e, h.1, q⟩) |>.mono (by show 1 ≤ 1 + _; omega)
  | .least n m d => (g_Least_reach tx).imp (fun vs H Q E ⟨p, e, h, q⟩ => ⟨p, n, m, d, e, h.1, q⟩) |>.mono (by show 1 ≤ 1 + _; omega)
  | .both x y => by
    have Gx := g_far tx x
    have Gy := g_far tx y
    refine MtG.mono (j := (1 + max x.depth y.depth) + 1) (tx.m_Both_reach.g tx.c_Both.cl sc_Both_reach (fun _ _ _ _ _ _ us hl => match us, hl with | [_], _ => rfl) (fun vs H Q E h => ?_) (fun f cdv A outer s H vs Q E hr h => ?_)) (by show _ ≤ 1 + (max x.depth y.depth + 1); omega)
    · obtain ⟨p, rfl, _⟩ := h
      rfl
    · obtain ⟨p, rfl, ⟨dx, a, b, e, ha, hb⟩, q⟩ := h
      refine ⟨_, (pss_one (ps_ret (pe_callB (call_max2 rfl) rfl tx.z_max bt_max (pa_cons (pe_mt0D (P := P) (w := w) (K := K) (mg := mg) (base := base) hr (pe_fldK (K := K) rfl (pv 0) rfl) rfl rfl rfl rfl rfl) (pa_cons (pe_mt0D (P := P) (w := w) (K := K) (mg := mg) (base := base) hr (pe_fldK (K := K) rfl (pv 0) rfl) rfl rfl rfl rfl rfl) pa_nil))))), ?_⟩
      walk_at "st"
      obtain ⟨dx1, fs1, o1, _, n1, _⟩ := ha.obj
      obtain ⟨dx2, fs2, o2, _, n2, _⟩ := hb.obj
      exact ⟨_, rfl, p, C_Both, dx, _, _, rfl, e, tx.c_Both.cl, tx.n_Both_left, lk_left _ _, a, _, dx1, fs1, _, _, _, rfl, o1, n1, Gx, by omega, a, rfl, ha,
        _, rfl, p, C_Both, dx, _, _, rfl, e, tx.c_Both.cl, tx.n_Both_right, lk_right _ _, b, _, dx2, fs2, _, _, _, rfl, o2, n2, Gy, by omega, b, rfl, hb, _, _, rfl, q⟩
  | .either x y => by
    have Gx := g_far tx x
    have Gy := g_far tx y
    refine MtG.mono (j := (1 + max x.depth y.depth) + 1) (tx.m_Either_reach.g tx.c_Either.cl sc_Either_reach (fun _ _ _ _ _ _ us hl => match us, hl with | [_], _ => rfl) (fun vs H Q E h => ?_) (fun f cdv A outer s H vs Q E hr h => ?_)) (by show _ ≤ 1 + (max x.depth y.depth + 1); omega)
    · obtain ⟨p, rfl, _⟩ := h
      rfl
    · obtain ⟨p, rfl, ⟨dx, a, b, e, ha, hb⟩, q⟩ := h
      refine ⟨_, (pss_one (ps_ret (pe_callB (call_max2 rfl) rfl tx.z_max bt_max (pa_cons (pe_mt0D (P := P) (w := w) (K := K) (mg := mg) (base := base) hr (pe_fldK (K := K) rfl (pv 0) rfl) rfl rfl rfl rfl rfl) (pa_cons (pe_mt0D (P := P) (w := w) (K := K) (mg := mg) (base := base) hr (pe_fldK (K := K) rfl (pv 0) rfl) rfl rfl rfl rfl rfl) pa_nil))))), ?_⟩
      walk_at "st"
      obtain ⟨dx1, fs1, o1, _, n1, _⟩ := ha.obj
      obtain ⟨dx2, fs2, o2, _, n2, _⟩ := hb.obj
      exact ⟨_, rfl, p, C_Either, dx, _, _, rfl, e, tx.c_Either.cl, tx.n_Either_left, lk_left _ _, a, _, dx1, fs1, _, _, _, rfl, o1, n1, Gx, by omega, a, rfl, ha,
        _, rfl, p, C_Either, dx, _, _, rfl, e, tx.c_Either.cl, tx.n_Either_right, lk_right _ _, b, _, dx2, fs2, _, _, _, rfl, o2, n2, Gy, by omega, b, rfl, hb, _, _, rfl, q⟩
  | .neg x => by
    have Gx := g_far tx x
    refine MtG.mono (j := (1 + x.depth) + 1) (tx.m_Not_reach.g tx.c_Not.cl sc_Not_reach (fun _ _ _ _ _ _ us hl => match us, hl with | [_], _ => rfl) (fun vs H Q E h => ?_) (fun f cdv A outer s H vs Q E hr h => ?_)) (by show _ ≤ 1 + (x.depth + 1); omega)
    · obtain ⟨p, rfl, _⟩ := h
      rfl
    · obtain ⟨p, rfl, ⟨dx, a, e, ha⟩, q⟩ := h
      refine ⟨_, (pss_one (ps_ret (pe_mt0D (P := P) (w := w) (K := K) (mg := mg) (base := base) hr (pe_fldK (K := K) rfl (pv 0) rfl) rfl rfl rfl rfl rfl))), ?_⟩
      walk_at "st"
      obtain ⟨dx1, fs1, o1, _, n1, _⟩ := ha.obj
      exact ⟨_, rfl, p, C_Not, dx, _, _, rfl, e, tx.c_Not.cl, tx.n_Not_inner, lk_inner _, a, _, dx1, fs1, _, _, _, rfl, o1, n1, Gx, Nat.le_refl _, a, rfl, ha, q⟩

end
section
variable {P : Program} {w : World} {K : PySem.W.Frag} {mg : Str → Option Value} {base : Heap} {C_Never C_Most C_Least C_Both C_Either C_Not : Addr}

theorem g_law_cell_at (tx : Tx K mg C_Never C_Most C_Least C_Both C_Either C_Not) : FnG P w K mg base "_law_cell_at" 1 ["_law_script", "_law_k"] (sp_cell K) := by
  refine tx.f_law_cell_at.g sc_law_cell_at (fun _ _ _ _ _ _ us hl => match us, hl with | [_, _], _ => rfl) (fun vs H Q E h => ?_) (fun f cdv A outer s H vs Q E hr h => ?_)
  · obtain ⟨a, ns, k, rfl, _⟩ := h
    rfl
  · obtain ⟨a, ns, k, rfl, hS, h0, q⟩ := h
    refine ⟨_, (pss_cons (ps_if (pt_cmpR op_lt (pv 1) (pe_callB (call_len_seqK (K := K) rfl) rfl tx.z_len PySem.boot_len (pa_cons (pv 0) pa_nil)) (nomark _)) (pss_one (ps_ret (pe_ix (ix_listK (K := K) rfl) (pv 0) (pv 1) (fun _ _ => rfl)))) pss_nil)
      (pss_one (ps_ret pe_int))), ?_⟩
    walk_at "st"
    refine ⟨_, rfl, _, rfl, a, _, rfl, .inl hS, _, _, rfl, rfl, _, rfl, ?_⟩
    refine ite2 (fun c => ?_) (fun c => ?_)
    · have c' : k < ((ns.map V.int).length : Int) := of_decide_eq_true c
      rw [List.length_map] at c'
      obtain ⟨v, hv, _⟩ := at_some (ns.map V.int) k h0 (by rw [List.length_map]; exact c')
      have hv' : ∃ z, v = .int z := by
        obtain ⟨_, hm⟩ := at_some (ns.map V.int) k h0 (by rw [List.length_map]; exact c')
        rw [hv] at hm
        obtain ⟨e1, e2⟩ := hm
        cases e1
        rw [List.getElem?_map] at e2
        cases h : ns[k.toNat]? with
        | none => rw [h] at e2; cases e2
        | some z => rw [h] at e2; exact ⟨z, (Option.some.inj e2).symm⟩
      obtain ⟨z, rfl⟩ := hv'
      exact ⟨_, rfl, _, rfl, a, _, _, _, rfl, rfl, hS, hv, q z⟩
    · exact q 0

end
/-! ### two rules held against each other -/
theorem newl {H : Hp} {l : Addr} {xs : List V} (h : H l = none) : ∃ H', H' = upd H l (.lst xs) ∧ H' l = some (.lst xs) ∧ Same H H' := ⟨_, rfl, upd_same, same_new h _⟩
def But (p : Addr) (H H' : Hp) : Prop := ∀ a u, a ≠ p → H a = some u → H' a = some u
def longR (ms : List Nat) (rows : List (List Nat)) : List (List Nat) := rows.flatMap fun r => ms.map fun c => r ++ [c]
def tailK (k : Nat) (l : List Nat) : List Nat := l.drop (l.length - k)
def newF (k : Nat) (st : List (List Nat) × List (List Nat)) (r : List Nat) : List (List Nat) × List (List Nat) := if tailK k r ∈ st.2 then st else (st.1 ++ [r], st.2 ++ [tailK k r])
def newS (k : Nat) (rows ts : List (List Nat)) : List (List Nat) × List (List Nat) := rows.foldl (newF k) ([], ts)
def stepA (f : List Nat → Bool) (ms : List Nat) (k : Nat) (st : List (List Nat) × List (List Nat)) : List (List Nat) × List (List Nat) := newS k ((longR ms st.1).filter fun r => !f r) st.2
/-- rows and tails behind n days -/
def itA (f : List Nat → Bool) (ms : List Nat) (k : Nat) : Nat → List (List Nat) × List (List Nat)
  | 0 => ([[]], [[]])
  | n + 1 => stepA f ms k (itA f ms k n)
def kvT (ts : List (List Nat)) : List (Key × V) := ts.map fun t => (Sum.inr ⟨t.toArray⟩, V.bl true)
theorem newS_snoc (k : Nat) (rows ts : List (List Nat)) (r : List Nat) : newS k (rows ++ [r]) ts = newF k (newS k rows ts) r := by
  unfold newS
  rw [List.foldl_append]
  rfl
theorem str_inj {a b : List Nat} (h : (⟨a.toArray⟩ : Str) = ⟨b.toArray⟩) : a = b := by
  injection h with h
  simpa using congrArg Array.toList h
theorem kvT_val (ts : List (List Nat)) (t : List Nat) : (valV (kvT ts) (Sum.inr ⟨t.toArray⟩)).isSome = decide (t ∈ ts) := by
  induction ts with
  | nil => rfl
  | cons x r ih =>
    by_cases e : x = t
    · subst e
      rw [show kvT (x :: r) = ((Sum.inr ⟨x.toArray⟩ : Key), V.bl true) :: kvT r from rfl, valV_pos rfl]
      simp
    · have ne : ¬ (Sum.inr (⟨x.toArray⟩ : Str) : Key) = Sum.inr ⟨t.toArray⟩ := fun z => e (str_inj (Sum.inr.inj z))
      rw [show kvT (x :: r) = ((Sum.inr ⟨x.toArray⟩ : Key), V.bl true) :: kvT r from rfl, valV_neg ne, ih]
      have : (t ∈ x :: r) ↔ t ∈ r := ⟨fun h => (List.mem_cons.mp h).resolve_left fun z => e z.symm, List.mem_cons_of_mem _⟩
      exact decide_eq_decide.mpr this.symm
theorem kvT_put {ts : List (List Nat)} {t : List Nat} (h : ¬ t ∈ ts) : putK (kvT ts) (Sum.inr ⟨t.toArray⟩) (V.bl true) = kvT (ts ++ [t]) := by
  have hn : valV (kvT ts) (Sum.inr ⟨t.toArray⟩) = none := by
    cases hv : valV (kvT ts) (Sum.inr ⟨t.toArray⟩) with
    | none => rfl
    | some v =>
      have := kvT_val ts t
      rw [hv, decide_eq_false h] at this
      cases this
  rw [putK_new _ hn]
  unfold kvT
  rw [List.map_append]
  rfl
/-! what holds of rows and tails -/
def OverM (ms : List Nat) (l : List Nat) : Prop := ∀ c ∈ l, c ∈ ms
theorem newS_fold (k : Nat) (P : List (List Nat) × List (List Nat) → Prop) (hs : ∀ st r, P st → P (newF k st r)) : ∀ (rows : List (List Nat)) (st : List (List Nat) × List (List Nat)), P st → P (rows.foldl (newF k) st)
  | [], _, h => h
  | r :: rs, st, h => newS_fold k P hs rs _ (hs st r h)
theorem newS_foldM (k : Nat) (P : List (List Nat) × List (List Nat) → Prop) : ∀ (rows : List (List Nat)) (st : List (List Nat) × List (List Nat)), (∀ st r, r ∈ rows → P st → P (newF k st r)) → P st → P (rows.foldl (newF k) st)
  | [], _, _, h => h
  | r :: rs, st, hs, h => newS_foldM k P rs _ (fun st x hx => hs st x (List.mem_cons_of_mem _ hx)) (hs st r List.mem_cons_self h)
theorem tailK_over {ms : List Nat} {k : Nat} {l : List Nat} (h : OverM ms l) : OverM ms (tailK k l) := fun c hc => h c (List.mem_of_mem_drop hc)
theorem tailK_len (k : Nat) (l : List Nat) : (tailK k l).length ≤ k := by unfold tailK; rw [List.length_drop]; omega
/-- all texts of up to k marks -/
def allT (ms : List Nat) : Nat → List (List Nat)
  | 0 => [[]]
  | k + 1 => [] :: (ms.flatMap fun c => (allT ms k).map fun t => c :: t)
theorem allT_mem {ms : List Nat} : ∀ {k : Nat} {l : List Nat}, OverM ms l → l.length ≤ k → l ∈ allT ms k
  | 0, [], _, _ => by simp [allT]
  | 0, _ :: _, _, h => by simp at h
  | k + 1, [], _, _ => by simp [allT]
  | k + 1, c :: l, h, hl => by
    have h1 : l ∈ allT ms k := allT_mem (fun x hx => h x (List.mem_cons_of_mem _ hx)) (by simpa using hl)
    have h2 : c ∈ ms := h c List.mem_cons_self
    rw [allT]
    refine List.mem_cons_of_mem _ (List.mem_flatMap.mpr ⟨c, h2, List.mem_map.mpr ⟨l, h1, rfl⟩⟩)
theorem flat_len {α β : Type} (f : α → List β) (n : Nat) : ∀ l : List α, (∀ x ∈ l, (f x).length ≤ n) → (l.flatMap f).length ≤ l.length * n
  | [], _ => Nat.zero_le _
  | x :: l, h => by
    rw [List.flatMap_cons, List.length_append, List.length_cons, Nat.add_mul, Nat.one_mul]
    have := flat_len f n l fun y hy => h y (List.mem_cons_of_mem _ hy)
    have := h x List.mem_cons_self
    omega
theorem allT_len (ms : List Nat) (hm : ms.length ≤ 3) : ∀ k, k ≤ 3 → (allT ms k).length ≤ 40
  | 0, _ => by simp [allT]
  | k + 1, hk => by
    have b : ∀ k, k ≤ 2 → (allT ms k).length ≤ 13 := by
      have b0 : (allT ms 0).length ≤ 1 := by simp [allT]
      have st : ∀ j n, (allT ms j).length ≤ n → (allT ms (j + 1)).length ≤ 1 + 3 * n := fun j n h => by
        rw [allT, List.length_cons]
        have h1 := flat_len (fun c => (allT ms j).map fun t => c :: t) n ms fun c _ => by rw [List.length_map]; exact h
        have h2 : ms.length * n ≤ 3 * n := Nat.mul_le_mul_right n hm
        omega
      intro k hk
      match k, hk with
      | 0, _ => omega
      | 1, _ => exact Nat.le_trans (st 0 1 b0) (by decide)
      | 2, _ => exact Nat.le_trans (st 1 4 (Nat.le_trans (st 0 1 b0) (by decide))) (by decide)
    have h := b k (by omega)
    rw [allT, List.length_cons]
    have h1 := flat_len (fun c => (allT ms k).map fun t => c :: t) 13 ms fun c _ => by rw [List.length_map]; exact h
    omega
theorem nodup_len {α : Type} [DecidableEq α] : ∀ {l m : List α}, l.Nodup → (∀ x ∈ l, x ∈ m) → l.length ≤ m.length
  | [], _, _, _ => Nat.zero_le _
  | x :: l, m, hn, h => by
    obtain ⟨h1, h2⟩ := List.nodup_cons.mp hn
    have hx := h x List.mem_cons_self
    have := nodup_len (l := l) (m := m.erase x) h2 fun y hy => (List.mem_erase_of_ne (fun z => h1 (by rw [← z]; exact hy))).mpr (h y (List.mem_cons_of_mem _ hy))
    rw [List.length_erase_of_mem hx] at this
    have : 0 < m.length := List.length_pos_of_mem hx
    rw [List.length_cons]
    omega
structure ItOk (ms : List Nat) (k : Nat) (st : List (List Nat) × List (List Nat)) : Prop where
  nd : st.2.Nodup
  tl : ∀ t ∈ st.2, OverM ms t ∧ t.length ≤ k
  rw : ∀ r ∈ st.1, OverM ms r ∧ r.length ≤ st.2.length
  ln : st.1.length ≤ st.2.length
theorem ItOk.le {ms : List Nat} {k : Nat} {st : List (List Nat) × List (List Nat)} (h : ItOk ms k st) (hm : ms.length ≤ 3) (hk : k ≤ 3) : st.2.length ≤ 40 :=
  Nat.le_trans (nodup_len h.nd fun t ht => allT_mem (h.tl t ht).1 (h.tl t ht).2) (allT_len ms hm k hk)
theorem newF_len (k : Nat) (st : List (List Nat) × List (List Nat)) (r : List Nat) : (newF k st r).2.length + st.1.length = st.2.length + (newF k st r).1.length := by
  unfold newF
  split
  · exact Nat.add_comm _ _ ▸ rfl
  · simp only [List.length_append, List.length_singleton]; omega
theorem newS_len (k : Nat) (rows ts : List (List Nat)) : (newS k rows ts).2.length = ts.length + (newS k rows ts).1.length := by
  unfold newS
  refine newS_fold k (fun st => st.2.length = ts.length + st.1.length) (fun st r h => ?_) rows ([], ts) rfl
  have := newF_len k st r
  omega
theorem ItOk.step {f : List Nat → Bool} {ms : List Nat} {k : Nat} {st : List (List Nat) × List (List Nat)} (h : ItOk ms k st) : ItOk ms k (stepA f ms k st) := by
  have hr : ∀ r ∈ (longR ms st.1).filter fun r => !f r, OverM ms r ∧ r.length ≤ st.2.length + 1 := fun r hr => by
    have hr := (List.mem_filter.mp hr).1
    unfold longR at hr
    obtain ⟨r0, h0, hr⟩ := List.mem_flatMap.mp hr
    obtain ⟨c, hc, rfl⟩ := List.mem_map.mp hr
    obtain ⟨o, l⟩ := h.rw r0 h0
    refine ⟨fun x hx => ?_, by rw [List.length_append, List.length_singleton]; omega⟩
    rcases List.mem_append.mp hx with hx | hx
    · exact o x hx
    · rw [List.mem_singleton.mp hx]; exact hc
  have key := newS_foldM k (fun s => s.2.Nodup ∧ (∀ t ∈ s.2, OverM ms t ∧ t.length ≤ k) ∧ (∀ r ∈ s.1, OverM ms r ∧ r.length ≤ st.2.length + 1)) ((longR ms st.1).filter fun r => !f r) ([], st.2) (fun s r hm ⟨a1, a2, a3⟩ => ?_) ⟨h.nd, h.tl, fun r hr => by cases hr⟩
  · obtain ⟨a1, a2, a3⟩ := key
    have hl := newS_len k ((longR ms st.1).filter fun r => !f r) st.2
    refine ⟨a1, a2, fun r hr => ?_, ?_⟩
    · obtain ⟨o, l⟩ := a3 r hr
      refine ⟨o, ?_⟩
      have hp : 0 < (stepA f ms k st).1.length := List.length_pos_of_mem hr
      have hl' : (stepA f ms k st).2.length = st.2.length + (stepA f ms k st).1.length := hl
      omega
    · have hl' : (stepA f ms k st).2.length = st.2.length + (stepA f ms k st).1.length := hl
      omega
  · unfold newF
    obtain ⟨o, l⟩ := hr r hm
    by_cases ht : tailK k r ∈ s.2
    · rw [if_pos ht]; exact ⟨a1, a2, a3⟩
    · rw [if_neg ht]
      refine ⟨?_, fun t hx => ?_, fun x hx => ?_⟩
      · rw [List.nodup_append]
        refine ⟨a1, List.nodup_cons.mpr ⟨by simp, List.nodup_nil⟩, fun a ha b hb => ?_⟩
        rw [List.mem_singleton.mp hb]
        exact fun z => ht (z ▸ ha)
      · rcases List.mem_append.mp hx with hx | hx
        · exact a2 t hx
        · rw [List.mem_singleton.mp hx]; exact ⟨tailK_over o, tailK_len k r⟩
      · rcases List.mem_append.mp hx with hx | hx
        · exact a3 x hx
        · rw [List.mem_singleton.mp hx]; exact ⟨o, l⟩
theorem itA_ok (f : List Nat → Bool) (ms : List Nat) (k : Nat) : ∀ n, ItOk ms k (itA f ms k n)
  | 0 => ⟨List.nodup_cons.mpr ⟨by simp, List.nodup_nil⟩, fun t ht => by rw [List.mem_singleton.mp ht]; exact ⟨fun c hc => (by cases hc), Nat.zero_le _⟩, fun r hr => by rw [List.mem_singleton.mp hr]; exact ⟨fun c hc => (by cases hc), Nat.zero_le _⟩, Nat.le_refl _⟩
  | n + 1 => (itA_ok f ms k n).step
/-! ### rows that part two rules -/
theorem tailK_short {k : Nat} {l : List Nat} (h : l.length ≤ k) : tailK k l = l := by
  unfold tailK
  rw [Nat.sub_eq_zero_of_le h, List.drop_zero]
theorem tailK_idem (k : Nat) (l : List Nat) : tailK k (tailK k l) = tailK k l := tailK_short (tailK_len k l)
theorem tailK_long {k : Nat} {l : List Nat} (c : Nat) (h : k ≤ l.length) : tailK k l ++ [c] = (l ++ [c]).drop (l.length - k) := by
  unfold tailK
  rw [List.drop_append_of_le_length (by omega)]
theorem tailK_snoc (k : Nat) (l : List Nat) (c : Nat) : tailK k (l ++ [c]) = tailK k (tailK k l ++ [c]) := by
  by_cases h : l.length ≤ k
  · rw [tailK_short h]
  · rw [tailK_long c (by omega)]
    unfold tailK
    rw [List.drop_drop, List.length_drop, List.length_append, List.length_singleton]
    congr 1
    omega
def depK (k : Nat) (f : List Nat → Bool) : Prop := ∀ l c, f (l ++ [c]) = f (tailK k l ++ [c])
theorem R.dep {r : R} (hf : r.fine) {k : Nat} (h : r.reach ≤ (k : Int) + 1) : depK k r.bad := fun l c => by
  by_cases hl : l.length ≤ k
  · rw [tailK_short hl]
  · rw [tailK_long c (by omega), R.bad_last r hf (l ++ [c]) (k + 1) (by omega) (by rw [List.length_append, List.length_singleton]; omega)]
    congr 2
    rw [List.length_append, List.length_singleton]
    omega
inductive Cl (f g : List Nat → Bool) (ms : List Nat) : List Nat → Prop
  | nil : Cl f g ms []
  | snoc {l : List Nat} {c : Nat} (h : Cl f g ms l) (hc : c ∈ ms) (hf : f (l ++ [c]) = false) (hg : g (l ++ [c]) = false) : Cl f g ms (l ++ [c])
def PartAt (f g : List Nat → Bool) (ms : List Nat) (n : Nat) : Prop := ∃ l c, Cl f g ms l ∧ l.length = n ∧ c ∈ ms ∧ f (l ++ [c]) ≠ g (l ++ [c])
def First (f g : List Nat → Bool) (ms : List Nat) (n : Nat) : Prop := PartAt f g ms n ∧ ∀ m < n, ¬ PartAt f g ms m
theorem First.uniq {f g : List Nat → Bool} {ms : List Nat} {n m : Nat} (h1 : First f g ms n) (h2 : First f g ms m) : n = m := by
  rcases Nat.lt_trichotomy n m with h | h | h
  · exact absurd h1.1 (h2.2 n h)
  · exact h
  · exact absurd h2.1 (h1.2 m h)
structure BI (f g : List Nat → Bool) (ms : List Nat) (k n : Nat) (rows ts : List (List Nat)) : Prop where
  no : ∀ m < n, ¬ PartAt f g ms m
  rep : ∀ r ∈ rows, ∃ l, Cl f g ms l ∧ l.length = n ∧ tailK k l = tailK k r
  all : ∀ l, Cl f g ms l → l.length ≤ n → tailK k l ∈ ts
  cls : ∀ t ∈ ts, (∃ r ∈ rows, tailK k r = t) ∨ ∀ c ∈ ms, f (t ++ [c]) = g (t ++ [c]) ∧ (f (t ++ [c]) = false → tailK k (t ++ [c]) ∈ ts)
section
variable {f g : List Nat → Bool} {ms : List Nat} {k n : Nat} {rows ts : List (List Nat)}
theorem BI.zero : BI f g ms k 0 [[]] [[]] := by
  refine ⟨fun m hm => absurd hm (Nat.not_lt_zero _), fun r hr => ⟨[], .nil, rfl, by rw [List.mem_singleton.mp hr]⟩, fun l _ hl => ?_, fun t ht => .inl ⟨[], List.mem_singleton_self _, ?_⟩⟩
  · obtain rfl : l = [] := List.length_eq_zero_iff.mp (by omega)
    rw [tailK_short (Nat.zero_le _)]
    exact List.mem_singleton_self _
  · rw [List.mem_singleton.mp ht, tailK_short (Nat.zero_le _)]
theorem BI.part (h : BI f g ms k n rows ts) (df : depK k f) (dg : depK k g) {r : List Nat} {c : Nat} (hr : r ∈ rows) (hc : c ∈ ms) (hd : f (r ++ [c]) ≠ g (r ++ [c])) : First f g ms n := by
  obtain ⟨l, hl, hn, e⟩ := h.rep r hr
  refine ⟨⟨l, c, hl, hn, hc, ?_⟩, h.no⟩
  rw [df l c, dg l c, e, ← df r c, ← dg r c]
  exact hd
theorem BI.step {rows' ts' : List (List Nat)} (h : BI f g ms k n rows ts) (df : depK k f) (dg : depK k g) (hs : ∀ r ∈ rows, ∀ c ∈ ms, f (r ++ [c]) = g (r ++ [c])) (hsub : ∀ t ∈ ts, t ∈ ts')
    (hal : ∀ r ∈ rows, ∀ c ∈ ms, f (r ++ [c]) = false → tailK k (r ++ [c]) ∈ ts') (hfr : ∀ t ∈ ts', t ∈ ts ∨ ∃ r ∈ rows', tailK k r = t) (hin : ∀ r' ∈ rows', ∃ r ∈ rows, ∃ c ∈ ms, f (r ++ [c]) = false ∧ tailK k r' = tailK k (r ++ [c])) : BI f g ms k (n + 1) rows' ts' := by
  have key : ∀ l, Cl f g ms l → l.length ≤ n → ∀ c ∈ ms, f (l ++ [c]) = g (l ++ [c]) ∧ (f (l ++ [c]) = false → tailK k (l ++ [c]) ∈ ts') := fun l hl hn c hc => by
    rcases h.cls _ (h.all l hl hn) with ⟨r, hr, e⟩ | hcl
    · rw [df l c, dg l c, tailK_snoc, ← e, ← df r c, ← dg r c, ← tailK_snoc]
      exact ⟨hs r hr c hc, hal r hr c hc⟩
    · obtain ⟨h1, h2⟩ := hcl c hc
      rw [df l c, dg l c, tailK_snoc]
      exact ⟨h1, fun z => hsub _ (h2 z)⟩
  refine ⟨fun m hm ⟨l, c, hl, hlm, hc, hd⟩ => hd (key l hl (by omega) c hc).1, fun r' hr' => ?_, fun l hl hln => ?_, fun t ht => ?_⟩
  · obtain ⟨r, hr, c, hc, hf, e⟩ := hin r' hr'
    obtain ⟨l, hl, hn, e2⟩ := h.rep r hr
    have hf' : f (l ++ [c]) = false := by rw [df l c, e2, ← df r c]; exact hf
    refine ⟨l ++ [c], .snoc hl hc hf' ?_, by rw [List.length_append, hn]; rfl, by rw [tailK_snoc, e2, ← tailK_snoc, e]⟩
    rw [← (key l hl (by omega) c hc).1]
    exact hf'
  · cases hl with
    | nil => exact hsub _ (h.all [] .nil (Nat.zero_le _))
    | @snoc l c hl hc hf hg => exact (key l hl (by rw [List.length_append, List.length_singleton] at hln; omega) c hc).2 hf
  · rcases hfr t ht with h1 | h1
    · rcases h.cls t h1 with ⟨r, hr, e⟩ | hcl
      · refine .inr fun c hc => ?_
        have h2 := hs r hr c hc
        have h3 := hal r hr c hc
        rw [df r c, e] at h2 h3
        rw [dg r c, e] at h2
        rw [tailK_snoc, e] at h3
        exact ⟨h2, h3⟩
      · exact .inr fun c hc => ⟨(hcl c hc).1, fun z => hsub _ ((hcl c hc).2 z)⟩
    · exact .inl h1
theorem BI.done (h : BI f g ms k n [] ts) (df : depK k f) (dg : depK k g) : ∀ m, ¬ PartAt f g ms m := by
  have hcl : ∀ t ∈ ts, ∀ c ∈ ms, f (t ++ [c]) = g (t ++ [c]) ∧ (f (t ++ [c]) = false → tailK k (t ++ [c]) ∈ ts) := fun t ht => (h.cls t ht).resolve_left fun ⟨r, hr, _⟩ => by cases hr
  have hal : ∀ l, Cl f g ms l → tailK k l ∈ ts := fun l hl => by
    induction hl with
    | nil => exact h.all [] .nil (Nat.zero_le _)
    | @snoc l c hl hc hf hg ih =>
      rw [tailK_snoc]
      refine (hcl _ ih c hc).2 ?_
      rw [← df l c]
      exact hf
  rintro m ⟨l, c, hl, _, hc, hd⟩
  refine hd ?_
  rw [df l c, dg l c]
  exact (hcl _ (hal l hl) c hc).1
end
theorem fold_sub (k : Nat) : ∀ (rows : List (List Nat)) (st : List (List Nat) × List (List Nat)) (t : List Nat), t ∈ st.2 → t ∈ (rows.foldl (newF k) st).2
  | [], _, _, h => h
  | r :: rs, st, t, h => fold_sub k rs _ t (by unfold newF; split; exact h; exact List.mem_append_left _ h)
theorem fold_all (k : Nat) : ∀ (rows : List (List Nat)) (st : List (List Nat) × List (List Nat)) (x : List Nat), x ∈ rows → tailK k x ∈ (rows.foldl (newF k) st).2
  | r :: rs, st, x, h => by
    rcases List.mem_cons.mp h with rfl | h
    · refine fold_sub k rs _ _ ?_
      unfold newF
      split
      · assumption
      · exact List.mem_append_right _ (List.mem_singleton_self _)
    · exact fold_all k rs _ x h
theorem newS_from (k : Nat) (rows ts : List (List Nat)) : ∀ t ∈ (newS k rows ts).2, t ∈ ts ∨ ∃ r ∈ (newS k rows ts).1, tailK k r = t := by
  unfold newS
  refine newS_fold k (fun st => ∀ t ∈ st.2, t ∈ ts ∨ ∃ r ∈ st.1, tailK k r = t) (fun st r h => ?_) rows ([], ts) fun t ht => .inl ht
  unfold newF
  split
  · exact h
  · intro t ht
    rcases List.mem_append.mp ht with ht | ht
    · rcases h t ht with z | ⟨x, hx, e⟩
      · exact .inl z
      · exact .inr ⟨x, List.mem_append_left _ hx, e⟩
    · exact .inr ⟨r, List.mem_append_right _ (List.mem_singleton_self _), (List.mem_singleton.mp ht).symm⟩
theorem newS_in (k : Nat) (rows ts : List (List Nat)) : ∀ r ∈ (newS k rows ts).1, r ∈ rows := by
  unfold newS
  refine newS_foldM k (fun st => ∀ r ∈ st.1, r ∈ rows) rows ([], ts) (fun st r hr h => ?_) (fun r hr => by cases hr)
  unfold newF
  split
  · exact h
  · intro x hx
    rcases List.mem_append.mp hx with hx | hx
    · exact h x hx
    · rw [List.mem_singleton.mp hx]; exact hr
theorem mem_longR {ms : List Nat} {rows : List (List Nat)} {x : List Nat} : x ∈ longR ms rows ↔ ∃ r ∈ rows, ∃ c ∈ ms, x = r ++ [c] := by
  unfold longR
  rw [List.mem_flatMap]
  refine ⟨fun ⟨r, hr, hx⟩ => ?_, fun ⟨r, hr, c, hc, e⟩ => ⟨r, hr, List.mem_map.mpr ⟨c, hc, e.symm⟩⟩⟩
  obtain ⟨c, hc, e⟩ := List.mem_map.mp hx
  exact ⟨r, hr, c, hc, e.symm⟩
theorem BI.go {f g : List Nat → Bool} {ms : List Nat} {k n : Nat} {rows ts : List (List Nat)} (h : BI f g ms k n rows ts) (df : depK k f) (dg : depK k g) (hs : ∀ x ∈ longR ms rows, f x = g x) : BI f g ms k (n + 1) (newS k ((longR ms rows).filter fun x => !f x) ts).1 (newS k ((longR ms rows).filter fun x => !f x) ts).2 := by
  refine h.step df dg (fun r hr c hc => hs _ (mem_longR.mpr ⟨r, hr, c, hc, rfl⟩)) (fun t ht => fold_sub k _ ([], ts) t ht) (fun r hr c hc hf => fold_all k _ ([], ts) _ (List.mem_filter.mpr ⟨mem_longR.mpr ⟨r, hr, c, hc, rfl⟩, by rw [hf]; rfl⟩)) (newS_from k _ ts) fun r' hr' => ?_
  obtain ⟨h1, h2⟩ := List.mem_filter.mp (newS_in k _ ts r' hr')
  obtain ⟨r, hr, c, hc, rfl⟩ := mem_longR.mp h1
  exact ⟨r, hr, c, hc, by simpa using h2, rfl⟩
theorem BI.tails {f g : List Nat → Bool} {ms : List Nat} {k n : Nat} {rows ts : List (List Nat)} (h : BI f g ms k n rows ts) : BI f g ms k n (rows.map (tailK k)) ts := by
  refine ⟨h.no, fun r hr => ?_, h.all, fun t ht => ?_⟩
  · obtain ⟨x, hx, rfl⟩ := List.mem_map.mp hr
    obtain ⟨l, h1, h2, h3⟩ := h.rep x hx
    exact ⟨l, h1, h2, by rw [tailK_idem]; exact h3⟩
  · rcases h.cls t ht with ⟨r, hr, e⟩ | z
    · exact .inl ⟨tailK k r, List.mem_map.mpr ⟨r, hr, rfl⟩, by rw [tailK_idem]; exact e⟩
    · exact .inr z
/-- days: rows kept by their ends alone -/
def itD (f : List Nat → Bool) (ms : List Nat) (k : Nat) : Nat → List (List Nat) × List (List Nat)
  | 0 => ([[]], [[]])
  | n + 1 => ((stepA f ms k (itD f ms k n)).1.map (tailK k), (stepA f ms k (itD f ms k n)).2)
theorem ItOk.tails {ms : List Nat} {k : Nat} {st : List (List Nat) × List (List Nat)} (h : ItOk ms k st) : ItOk ms k (st.1.map (tailK k), st.2) := by
  refine ⟨h.nd, h.tl, fun r hr => ?_, by rw [List.length_map]; exact h.ln⟩
  obtain ⟨x, hx, rfl⟩ := List.mem_map.mp hr
  obtain ⟨o, l⟩ := h.rw x hx
  refine ⟨tailK_over o, Nat.le_trans ?_ l⟩
  unfold tailK
  rw [List.length_drop]
  omega
theorem itD_ok (f : List Nat → Bool) (ms : List Nat) (k : Nat) : ∀ n, ItOk ms k (itD f ms k n)
  | 0 => itA_ok f ms k 0
  | n + 1 => ((itD_ok f ms k n).step).tails
theorem newS_pick (k : Nat) (p : List Nat → Bool) (L ts : List (List Nat)) (x : List Nat) : newS k ((L ++ [x]).filter p) ts = if p x = true then newF k (newS k (L.filter p) ts) x else newS k (L.filter p) ts := by
  rw [List.filter_append, List.filter_cons, List.filter_nil]
  split
  · exact newS_snoc _ _ _ _
  · rw [List.append_nil]

def sp_longer : Sp := fun vs H Q _ => ∃ (rl : Addr) (rows : List (List Nat)) (ms : List Nat), vs = [.ref rl, T ms] ∧ H rl = some (.lst (rows.map T)) ∧ rows.length ≤ 40 ∧ (∀ r ∈ rows, r.length ≤ 40) ∧ ms.length ≤ 3 ∧ ∀ D H', H D = none → Same H H' → H' D = some (.lst ((longR ms rows).map T)) → Q (.ref D) H'
def sp_newt : Sp := fun vs H Q _ => ∃ (rl D : Addr) (rows ts : List (List Nat)) (k : Nat), vs = [.ref rl, .int (k : Int), .ref D] ∧ H rl = some (.lst (rows.map T)) ∧ H D = some (.dK (kvT ts)) ∧ rows.length ≤ 200 ∧ (∀ r ∈ rows, r.length ≤ 100) ∧ ts.length ≤ 100 ∧
  ∀ N H', H N = none → But D H H' → H' N = some (.lst ((newS k rows ts).1.map T)) → H' D = some (.dK (kvT (newS k rows ts).2)) → Q (.ref N) H'
def kept (a b : R) : Nat := ((if b.reach > a.reach then b.reach else a.reach) - 1).toNat
def alT : List Nat := [97, 108, 105, 107, 101]
theorem flat_take {α β : Type} (f : α → List β) (l : List α) {i : Nat} {x : α} (h : l[i]? = some x) : (l.take (i + 1)).flatMap f = (l.take i).flatMap f ++ f x := by
  rw [List.take_add_one, h, List.flatMap_append]
  show _ ++ (f x ++ []) = _
  rw [List.append_nil]
theorem filter_take {α : Type} (p : α → Bool) (l : List α) {i : Nat} {x : α} (h : l[i]? = some x) : (l.take (i + 1)).filter p = (l.take i).filter p ++ (if p x = true then [x] else []) := by
  rw [List.take_add_one, h, List.filter_append]
  show _ ++ ([x].filter p) = _
  rw [List.filter_cons, List.filter_nil]
theorem get_T {rows : List (List Nat)} {i : Nat} {x : V} (h : (rows.map T)[i]? = some x) : ∃ r, rows[i]? = some r ∧ x = T r := by
  rw [List.getElem?_map] at h
  cases hr : rows[i]? with
  | none => rw [hr] at h; cases h
  | some r => rw [hr] at h; exact ⟨r, rfl, (Option.some.inj h).symm⟩
section
variable {P : Program} {w : World} {K : PySem.W.Frag} {mg : Str → Option Value} {base : Heap} {C_Never C_Most C_Least C_Both C_Either C_Not : Addr}

theorem g_longer_rows (tx : Tx K mg C_Never C_Most C_Least C_Both C_Either C_Not) : FnG P w K mg base "longer_rows" 1 ["rows", "marks"] sp_longer := by
  refine tx.f_longer_rows.g sc_longer_rows (fun _ _ _ _ _ _ us hl => match us, hl with | [_, _], _ => rfl) (fun vs H Q E h => ?_) (fun f cdv A outer s H vs Q E hr h => ?_)
  · obtain ⟨rl, rows, ms, rfl, _⟩ := h
    rfl
  · obtain ⟨rl, rows, ms, rfl, h1, hl, hrl, hm, q⟩ := h
    refine ⟨_, (pss_cons (ps_set (i := 2) sc_longer_rows.nd rfl (Or.inl rfl) (pe_lst pa_nil))
      (pss_cons (ps_for PassesOwn.never rfl (pi_listK (K := K) rfl (pv 0)) (pg_name (i := 3) sc_longer_rows.nd rfl (Or.inr rfl)) (pss_one (ps_aug (i := 2) sc_longer_rows.nd rfl (Or.inl rfl) (pe_comp (osc := defScope s_longer_rows) (ON := ["rows", "marks", "longer", "row"]) (N := ["mark", "row"]) (js := [none, some 3]) ⟨rfl, by decide +kernel, by decide +kernel, by decide +kernel, rfl, by decide +kernel⟩ rfl rfl rfl (pi_txt (pv 1)) (fun _ _ _ _ _ => pg_name (i := 0) (show List.Nodup (["mark", "row"] : List Str) from by decide +kernel) rfl (Or.inl rfl)) (fun _ _ _ _ _ => pifs_nil) (fun _ _ _ _ _ => (pe_op op_catS (pv 1) (pv 0)))) ip_addL)))
      (pss_one (ps_ret (pv 2))))), ?_⟩
    walk_at "st"
    walk_at "rd"
    intro D nD
    obtain ⟨H1, e1, hD, s1⟩ := newl (xs := []) nD
    rw [← e1]
    have h11 := s1 _ _ h1
    walk_at "rd"
    refine for_list (K := K) (xs := rows.map T) (fun i σ H2 => Here (∃ v, σ = [some (.ref rl), some (T ms), some (.ref D), v] ∧ H2 D = some (.lst (((rows.take i).flatMap fun r => ms.map fun c => r ++ [c]).map T)) ∧ Same H H2)) (Here.mk ⟨none, rfl, hD, s1⟩) (fun i σ H2 _ hv => by obtain ⟨_, _, _, s2⟩ := hv.out; exact SqL.of (s2 _ _ h1)) ?_ ?_
    · rintro i x σ H2 hx hv
      obtain ⟨v, rfl, hD2, s2⟩ := hv.out
      obtain ⟨r, hr1, rfl⟩ := get_T hx
      have hrr := hrl r (List.mem_of_getElem? hr1)
      have hfl : ((((rows.take i).flatMap fun r => ms.map fun c => r ++ [c]).map T).length) ≤ 120 := by
        rw [List.length_map]
        have := flat_len (fun r : List Nat => ms.map fun c => r ++ [c]) 3 (rows.take i) fun x _ => by rw [List.length_map]; exact hm
        rw [List.length_take] at this
        have h3 : min i rows.length * 3 ≤ 40 * 3 := Nat.mul_le_mul_right 3 (by omega)
        omega
      walk_at "rd"
      refine comp_map (fun x => match x with | .str ⟨⟨l⟩⟩ => T (r ++ l) | v => v) (hands_txt ms) (by rw [List.length_map]; omega) (fun x hm' H' s' R hR => ?_) (fun D2 H3 nD2 s3 hD3 => ?_)
      · obtain ⟨c, hc, rfl⟩ := List.mem_map.mp hm'
        walk_at "rd"
        exact hR H' (Same.refl _)
      have hD2' := s3 _ _ hD2
      have e3 : ((ms.map fun c => T [c]).map fun x => match x with | .str ⟨⟨l⟩⟩ => T (r ++ l) | v => v) = (ms.map fun c => r ++ [c]).map T := by
        rw [List.map_map, List.map_map]
        rfl
      rw [e3] at hD3
      have hl3 : ((ms.map fun c => r ++ [c]).map T).length ≤ 3 := by rw [List.length_map, List.length_map]; exact hm
      walk_at "rd"
      refine Here.mk ⟨some (T r), rfl, ?_, (s2.trans s3).upd nD⟩
      rw [upd_same, flat_take _ _ hr1, List.map_append]
    · rintro σ H2 hv
      obtain ⟨v, rfl, hD2, s2⟩ := hv.out
      rw [List.length_map, List.take_of_length_le (Nat.le_refl _)] at hD2
      walk_at "rd"
      exact q D H2 nD s2 hD2

theorem g_rows_of_new_tails (tx : Tx K mg C_Never C_Most C_Least C_Both C_Either C_Not) : FnG P w K mg base "rows_of_new_tails" 2 ["rows", "kept", "tails"] sp_newt := by
  have G_last_marks := g_last_marks (P := P) (w := w) (base := base) tx
  refine tx.f_rows_of_new_tails.g sc_rows_of_new_tails (fun _ _ _ _ _ _ us hl => match us, hl with | [_, _, _], _ => rfl) (fun vs H Q E h => ?_) (fun f cdv A outer s H vs Q E hr h => ?_)
  · obtain ⟨rl, D, rows, ts, k, rfl, _⟩ := h
    rfl
  · obtain ⟨rl, D, rows, ts, k, rfl, h1, hD, hl, hrl, htl, q⟩ := h
    refine ⟨_, (pss_cons (ps_set (i := 3) sc_rows_of_new_tails.nd rfl (Or.inl rfl) (pe_lst pa_nil))
      (pss_cons (ps_for PassesOwn.never rfl (pi_listK (K := K) rfl (pv 0)) (pg_name (i := 4) sc_rows_of_new_tails.nd rfl (Or.inl rfl)) (pss_cons (ps_set (i := 5) sc_rows_of_new_tails.nd rfl (Or.inl rfl) (pe_fn G_last_marks (hr.mono (by decide)) (pa_cons (pv 4) (pa_cons (pv 1) pa_nil))))
      (pss_one (ps_if (pt_cmp (pc_dnotin (hu_of hr) (pv 5) (pv 2)) rfl) (pss_cons (ps_dput (hu_of hr) (pv 2) (pv 5) pe_bl rfl)
      (pss_one (ps_expr (pe_bm PySem.F.plainAttrs_list PySem.F.slot_list_append PySem.F.type_list_append mt_append (pv 3) (pa_cons (pv 4) pa_nil))))) pss_nil))))
      (pss_one (ps_ret (pv 3))))), ?_⟩
    walk_at "st"
    walk_at "rd"
    intro N nN
    have nDN : D ≠ N := ne_of_none hD nN
    obtain ⟨H1, e1, hN, s1⟩ := newl (xs := []) nN
    rw [← e1]
    have h11 := s1 _ _ h1
    walk_at "rd"
    refine for_list (K := K) (xs := rows.map T) (fun i σ H2 => Here (∃ v1 v2, σ = [some (.ref rl), some (.int (k : Int)), some (.ref D), some (.ref N), v1, v2] ∧ H2 N = some (.lst ((newS k (rows.take i) ts).1.map T)) ∧ H2 D = some (.dK (kvT (newS k (rows.take i) ts).2)) ∧ But D H H2)) (Here.mk ⟨none, none, rfl, hN, s1 _ _ hD, fun a u _ e => s1 a u e⟩) (fun i σ H2 _ hv => by obtain ⟨_, _, _, _, _, s2⟩ := hv.out; exact SqL.of (s2 _ _ (ne_of h1 hD (fun z => by cases z)) h1)) ?_ ?_
    · rintro i x σ H2 hx hv
      obtain ⟨v1, v2, rfl, hN2, hD2, s2⟩ := hv.out
      obtain ⟨r, hr1, rfl⟩ := get_T hx
      have hrr := hrl r (List.mem_of_getElem? hr1)
      have htk : newS k (rows.take (i + 1)) ts = newF k (newS k (rows.take i) ts) r := by rw [List.take_add_one, hr1]; exact newS_snoc _ _ _ _
      have hln := newS_len k (rows.take i) ts
      have hlk : (newS k (rows.take i) ts).1.length ≤ 200 := by
        have h3 := newS_fold k (fun st => True) (fun _ _ _ => trivial) (rows.take i) ([], ts) trivial
        have h4 : ∀ (l : List (List Nat)) (st : List (List Nat) × List (List Nat)), (l.foldl (newF k) st).1.length ≤ st.1.length + l.length := by
          intro l
          induction l with
          | nil => intro st; exact Nat.le_refl _
          | cons x l ih =>
            intro st
            refine Nat.le_trans (ih _) ?_
            have : (newF k st x).1.length ≤ st.1.length + 1 := by
              unfold newF
              split
              · omega
              · rw [List.length_append, List.length_singleton]; omega
            rw [List.length_cons]
            omega
        have := h4 (rows.take i) ([], ts)
        rw [List.length_take] at this
        have h5 : (newS k (rows.take i) ts).1.length ≤ 0 + min i rows.length := this
        omega
      generalize newS k (rows.take i) ts = st at htk hln hN2 hD2 hlk
      have ek : r.drop (r.length - ((k : Int)).toNat) = tailK k r := by rw [Int.toNat_natCast]; rfl
      have hg : DGet H2 D (T (r.drop (r.length - ((k : Int)).toNat))) (valV (kvT st.2) (Sum.inr ⟨(tailK k r).toArray⟩)) := by rw [ek]; exact DGet.k (k := Sum.inr ⟨(tailK k r).toArray⟩) hD2
      have hkl : (kvT st.2).length < sizeLine := by
        unfold kvT
        rw [List.length_map]
        exact Nat.lt_of_lt_of_le (show st.2.length < 400 by omega) (by decide)
      have hp : DPut H2 D (T (r.drop (r.length - ((k : Int)).toNat))) (.bl true) (upd H2 D (.dK (putK (kvT st.2) (Sum.inr ⟨(tailK k r).toArray⟩) (.bl true)))) := by rw [ek]; exact DPut.k (k := Sum.inr ⟨(tailK k r).toArray⟩) hD2 hkl
      have hN3 : upd H2 D (.dK (putK (kvT st.2) (Sum.inr ⟨(tailK k r).toArray⟩) (.bl true))) N = some (.lst (st.1.map T)) := by rw [upd_ne nDN.symm]; exact hN2
      have hl3 : (st.1.map T).length ≤ 1000 := by rw [List.length_map]; omega
      walk_at "rd"
      rw [kvT_val]
      refine ite2 (fun z => ?_) (fun z => ?_)
      · have z' : ¬ tailK k r ∈ st.2 := fun y => by rw [decide_eq_true y] at z; cases z
        walk_at "rd"
        have e : newF k st r = (st.1 ++ [r], st.2 ++ [tailK k r]) := by unfold newF; rw [if_neg z']
        rw [kvT_put z'] at hN3 ⊢
        refine Here.mk ⟨_, _, rfl, ?_, ?_, fun a u na ea => ?_⟩
        · rw [upd_same, htk, e, List.map_append]; rfl
        · rw [upd_ne nDN, upd_same, htk, e]
        · rw [upd_ne (ne_of_none ea nN), upd_ne na]; exact s2 a u na ea
      · have z' : tailK k r ∈ st.2 := Decidable.byContradiction fun y => z (by rw [decide_eq_false y]; rfl)
        walk_at "rd"
        have e : newF k st r = st := by unfold newF; rw [if_pos z']
        exact Here.mk ⟨_, _, rfl, by rw [htk, e]; exact hN2, by rw [htk, e]; exact hD2, s2⟩
    · rintro σ H2 hv
      obtain ⟨v1, v2, rfl, hN2, hD2, s2⟩ := hv.out
      rw [List.length_map, List.take_of_length_le (Nat.le_refl _)] at hN2 hD2
      walk_at "rd"
      exact q N H2 nN s2 hN2 hD2
end

def paT : List Nat := [112, 97, 114, 116, 101, 100]
def sp_alike2 (c6 : Cs) : Sp := fun vs H Q _ => ∃ (pa pb : Addr) (a b : R) (ms : List Nat), vs = [.ref pa, .ref pb, T ms] ∧ RuleAt c6 H a pa ∧ RuleAt c6 H b pb ∧ a.fine ∧ b.fine ∧ a.depth ≤ 20 ∧ b.depth ≤ 20 ∧ a.reach ≤ 4 ∧ b.reach ≤ 4 ∧ ms.length ≤ 3 ∧
  (∀ (t : Addr) (row : List Nat) (n : Nat) H', H t = none → Same H H' → H' t = some (.tup [T paT, T row]) → row.length = n + 1 → row.length ≤ 1000 → First a.bad b.bad ms n → Q (.ref t) H') ∧
  (∀ (t l : Addr) H', H t = none → Same H H' → H' t = some (.tup [T alT, .ref l]) → (∀ n, ¬ PartAt a.bad b.bad ms n) → Q (.ref t) H')
section
variable {P : Program} {w : World} {K : PySem.W.Frag} {mg : Str → Option Value} {base : Heap} {C_Never C_Most C_Least C_Both C_Either C_Not : Addr}

theorem g_alike (tx : Tx K mg C_Never C_Most C_Least C_Both C_Either C_Not) : FnG P w K mg base "alike" 30 ["rule", "other", "marks"] (sp_alike2 (cs6 C_Never C_Most C_Least C_Both C_Either C_Not)) := by
  have G_longer_rows := g_longer_rows (P := P) (w := w) (base := base) tx
  have G_rows_of_new_tails := g_rows_of_new_tails (P := P) (w := w) (base := base) tx
  refine tx.f_alike.g sc_alike (fun _ _ _ _ _ _ us hl => match us, hl with | [_, _, _], _ => rfl) (fun vs H Q E h => ?_) (fun f cdv A outer s H vs Q E hr h => ?_)
  · obtain ⟨pa, pb, a, b, ms, rfl, _⟩ := h
    rfl
  · obtain ⟨pa, pb, a, b, ms, rfl, ha, hb, fa, fb, da, db, ra, rb, hm, q1, q2⟩ := h
    refine ⟨_, (pss_cons (ps_set (i := 3) sc_alike.nd rfl (Or.inl rfl) (pe_op op_sub (pe_callB (call_max2 rfl) rfl tx.z_max bt_max (pa_cons (pe_mt0D (P := P) (w := w) (K := K) (mg := mg) (base := base) hr (pv 0) rfl rfl rfl rfl rfl) (pa_cons (pe_mt0D (P := P) (w := w) (K := K) (mg := mg) (base := base) hr (pv 1) rfl rfl rfl rfl rfl) pa_nil))) pe_int))
      (pss_cons (ps_set (i := 4) sc_alike.nd rfl (Or.inl rfl) (pe_disp (pps_cons (pe_txt (l := []) (by decide +kernel)) pe_bl pps_nil) rfl rfl (by simp) (by decide)))
      (pss_cons (ps_set (i := 5) sc_alike.nd rfl (Or.inl rfl) (pe_lst (pa_cons (pe_txt (l := []) (by decide +kernel)) pa_nil)))
      (pss_cons (ps_while PassesOwn.never (pt_truth (pv 5) (fun _ => rfl)) (pss_cons (ps_set (i := 6) sc_alike.nd rfl (Or.inl rfl) (pe_lst pa_nil))
      (pss_cons (ps_for PassesOwn.never rfl (pi_listK (K := K) rfl (pe_fn G_longer_rows (hr.mono (by decide)) (pa_cons (pv 5) (pa_cons (pv 2) pa_nil)))) (pg_name (i := 7) sc_alike.nd rfl (Or.inl rfl)) (pss_cons (ps_set (i := 8) sc_alike.nd rfl (Or.inl rfl) (pe_mtD (P := P) (w := w) (K := K) (mg := mg) (base := base) hr (pv 0) (pa_cons (pv 7) pa_nil) rfl rfl rfl rfl rfl))
      (pss_cons (ps_if (pt_cmpR op_ne (pv 8) (pe_mtD (P := P) (w := w) (K := K) (mg := mg) (base := base) hr (pv 1) (pa_cons (pv 7) pa_nil) rfl rfl rfl rfl rfl) (nomark _)) (pss_one (ps_ret (pe_tup (pa_cons (pe_txt (l := [112, 97, 114, 116, 101, 100]) (by decide +kernel)) (pa_cons (pv 7) pa_nil))))) pss_nil)
      (pss_one (ps_if (pt_not (pt_val (pv 8))) (pss_one (ps_expr (pe_bm PySem.F.plainAttrs_list PySem.F.slot_list_append PySem.F.type_list_append mt_append (pv 6) (pa_cons (pv 7) pa_nil)))) pss_nil)))))
      (pss_cons (ps_set (i := 5) sc_alike.nd rfl (Or.inl rfl) (pe_fn G_rows_of_new_tails (hr.mono (by decide)) (pa_cons (pv 6) (pa_cons (pv 3) (pa_cons (pv 4) pa_nil)))))
      (pss_one (ps_if (pt_cmpR op_gt (pe_callB call_lenD rfl tx.z_len PySem.boot_len (pa_cons (pv 4) pa_nil)) (pe_globI rfl tx.k_MOST_TAILS) (nomark _)) (pss_one ps_never) pss_nil))))))
      (pss_one (ps_ret (pe_tup (pa_cons (pe_txt (l := [97, 108, 105, 107, 101]) (by decide +kernel)) (pa_cons (pe_callB (call_sortedD rfl) rfl tx.z_sorted bt_sorted (pa_cons (pv 4) pa_nil)) pa_nil))))))))), ?_⟩
    walk_at "st"
    clear G_longer_rows G_rows_of_new_tails
    obtain ⟨dxa, fsa, oa, na1, na2, _⟩ := ha.obj
    obtain ⟨dxb, fsb, ob, nb1, nb2, _⟩ := hb.obj
    have Fa := g_far (P := P) (w := w) (base := base) tx a
    have Fb := g_far (P := P) (w := w) (base := base) tx b
    have Ba := g_bad (P := P) (w := w) (base := base) tx a
    have Bb := g_bad (P := P) (w := w) (base := base) tx b
    have wa := R.far17 fa
    have wb := R.far17 fb
    have ek : ((if b.reach > a.reach then b.reach else a.reach) - 1 : Int) = ((kept a b : Nat) : Int) := by
      unfold kept
      rw [Int.toNat_of_nonneg (by split <;> omega)]
    have hk3 : kept a b ≤ 3 := by
      have : ((kept a b : Nat) : Int) ≤ 3 := by rw [← ek]; split <;> omega
      omega
    have dfa : depK (kept a b) a.bad := R.dep fa (by rw [← ek]; split <;> omega)
    have dfb : depK (kept a b) b.bad := R.dep fb (by rw [← ek]; split <;> omega)
    have dK1 : 1 + a.depth ≤ 29 := by omega
    have dK2 : 1 + b.depth ≤ 29 := by omega
    have dK3 : 5 + a.depth ≤ 29 := by omega
    have dK4 : 5 + b.depth ≤ 29 := by omega
    walk_at "rd"
    intro D nD
    refine ⟨upd_same, [(Sum.inr ⟨#[]⟩, .bl true)], rfl, (by decide), ?_⟩
    obtain ⟨H1, e1⟩ : ∃ H1, H1 = upd (upd H D (.dK [])) D (.dK (mergeK [] [(Sum.inr ⟨#[]⟩, .bl true)])) := ⟨_, rfl⟩
    rw [← e1]
    have hD1 : H1 D = some (.dK (kvT [[]])) := by rw [e1, upd_same]; rfl
    have s1 : Same H H1 := by rw [e1]; exact (same_new nD _).upd nD
    clear e1
    walk_at "rd"
    intro rl nrl
    obtain ⟨H2, e2, hrl, s2⟩ := newl (xs := [T []]) nrl
    rw [← e2]
    refine ⟨fun m σ H' => Here (∃ n r v1 v2 v3, σ = [some (.ref pa), some (.ref pb), some (T ms), some (.int (kept a b : Nat)), some (.ref D), some (.ref r), v1, v2, v3] ∧ H' D = some (.dK (kvT (itA a.bad ms (kept a b) n).2)) ∧ H' r = some (.lst ((itA a.bad ms (kept a b) n).1.map T)) ∧ Same H H' ∧ BI a.bad b.bad ms (kept a b) n (itA a.bad ms (kept a b) n).1 (itA a.bad ms (kept a b) n).2 ∧ (∀ x ∈ (itA a.bad ms (kept a b) n).1, x.length = n) ∧ m = (40 - (itA a.bad ms (kept a b) n).2.length) + (if (itA a.bad ms (kept a b) n).1 = [] then 0 else 1)), ⟨_, Here.mk ⟨0, rl, none, none, none, ?_, s2 _ _ hD1, hrl, s1.trans s2, BI.zero, (fun x hx => by rw [List.mem_singleton.mp hx]; rfl), rfl⟩⟩, ?_⟩
    · exact congrArg (fun z => [some (.ref pa), some (.ref pb), some (T ms), some (.int z), some (.ref D), some (.ref rl), none, none, none]) ek
    rintro m σ H3 hv
    obtain ⟨n, r, v1, v2, v3, rfl, hD3, hr3, s3, hBI, hLn, rfl⟩ := hv.out
    have hok := itA_ok a.bad ms (kept a b) n
    have hstep : itA a.bad ms (kept a b) (n + 1) = stepA a.bad ms (kept a b) (itA a.bad ms (kept a b) n) := rfl
    have hokS := itA_ok a.bad ms (kept a b) (n + 1)
    have hle := hok.le hm hk3
    have hleS := hokS.le hm hk3
    refine ⟨_, rfl, _, Or.inl ⟨_, SqL.of hr3, rfl⟩, ?_⟩
    by_cases he : (itA a.bad ms (kept a b) n).1 = []
    · have hf : (!((itA a.bad ms (kept a b) n).1.map T).isEmpty) = false := by rw [he]; rfl
      rw [hf]
      have hks : (kvT (itA a.bad ms (kept a b) n).2).map (·.1) = ((itA a.bad ms (kept a b) n).2.map fun t => (⟨t.toArray⟩ : Str)).map Sum.inr := by
        unfold kvT
        rw [List.map_map, List.map_map]
        rfl
      have hsl : ((itA a.bad ms (kept a b) n).2.map fun t => (⟨t.toArray⟩ : Str)).length < 64 := by rw [List.length_map]; omega
      walk_at "rd"
      intro l ss nl hp hs
      obtain ⟨H4, e4, hl4, s4⟩ := newl (xs := ss.map V.str) nl
      rw [← e4]
      walk_at "rd"
      intro t nt
      rw [he] at hBI
      exact q2 t l _ ((s3.trans s4).free nt) ((s3.trans s4).trans (same_new nt _)) upd_same (hBI.done dfa dfb)
    · have hf : (!((itA a.bad ms (kept a b) n).1.map T).isEmpty) = true := by
        cases h : (itA a.bad ms (kept a b) n).1 with
        | nil => exact absurd h he
        | cons _ _ => rfl
      rw [hf]
      refine ⟨fun σ' H' => Here (∃ r v1 v2 v3, σ' = [some (.ref pa), some (.ref pb), some (T ms), some (.int (kept a b : Nat)), some (.ref D), some (.ref r), v1, v2, v3] ∧ H' D = some (.dK (kvT (itA a.bad ms (kept a b) (n + 1)).2)) ∧ H' r = some (.lst ((itA a.bad ms (kept a b) (n + 1)).1.map T)) ∧ Same H H' ∧ BI a.bad b.bad ms (kept a b) (n + 1) (itA a.bad ms (kept a b) (n + 1)).1 (itA a.bad ms (kept a b) (n + 1)).2 ∧ (∀ x ∈ (itA a.bad ms (kept a b) (n + 1)).1, x.length = n + 1)), fun σ' H' h' => ?_, ?_⟩
      · obtain ⟨r', u1, u2, u3, rfl, k1, k2, k3, k4, k5⟩ := h'.out
        refine ⟨_, ?_, Here.mk ⟨n + 1, r', u1, u2, u3, rfl, k1, k2, k3, k4, k5, rfl⟩⟩
        have hl : (itA a.bad ms (kept a b) (n + 1)).2.length = (itA a.bad ms (kept a b) n).2.length + (itA a.bad ms (kept a b) (n + 1)).1.length := newS_len _ _ _
        rw [if_neg he]
        by_cases h0 : (itA a.bad ms (kept a b) (n + 1)).1 = []
        · rw [if_pos h0]
          rw [h0] at hl
          have : (itA a.bad ms (kept a b) (n + 1)).2.length = (itA a.bad ms (kept a b) n).2.length := hl
          omega
        · rw [if_neg h0]
          have : 0 < (itA a.bad ms (kept a b) (n + 1)).1.length := List.length_pos_iff.mpr h0
          omega
      have hr1 : (itA a.bad ms (kept a b) n).1.length ≤ 40 := by have := hok.ln; omega
      have hr2 : ∀ x ∈ (itA a.bad ms (kept a b) n).1, x.length ≤ 40 := fun x hx => by have := (hok.rw x hx).2; omega
      generalize itA a.bad ms (kept a b) n = st at *
      walk_at "rd"
      intro g ng
      obtain ⟨H4, e4, hg, s4⟩ := newl (xs := []) ng
      rw [← e4]
      have hr4 := s4 _ _ hr3
      walk_at "rd"
      intro D5 H5 nD5 s5 hD5
      have lL : (longR ms st.1).length ≤ 120 := by
        have h1 := flat_len (fun r : List Nat => ms.map fun c => r ++ [c]) 3 st.1 fun x _ => by rw [List.length_map]; exact hm
        have h3 : st.1.length * 3 ≤ 40 * 3 := Nat.mul_le_mul_right 3 hr1
        exact Nat.le_trans h1 (by omega)
      have lR : ∀ x ∈ longR ms st.1, x.length ≤ 41 := fun x hx => by
        unfold longR at hx
        obtain ⟨r0, h0, hx⟩ := List.mem_flatMap.mp hx
        obtain ⟨c, hc, rfl⟩ := List.mem_map.mp hx
        have := hr2 r0 h0
        rw [List.length_append, List.length_singleton]
        omega
      have hS0 : stepA a.bad ms (kept a b) st = newS (kept a b) ((longR ms st.1).filter fun r => !a.bad r) st.2 := rfl
      have hPart : ∀ x ∈ longR ms st.1, a.bad x ≠ b.bad x → First a.bad b.bad ms n ∧ x.length = n + 1 := fun x hx hd => by
        obtain ⟨r0, h0, c, hc, rfl⟩ := mem_longR.mp hx
        exact ⟨hBI.part dfa dfb h0 hc hd, by rw [List.length_append, hLn r0 h0]; rfl⟩
      have hGo : (∀ x ∈ longR ms st.1, a.bad x = b.bad x) → BI a.bad b.bad ms (kept a b) (n + 1) (stepA a.bad ms (kept a b) st).1 (stepA a.bad ms (kept a b) st).2 := fun h => hBI.go dfa dfb h
      have hLn' : ∀ x ∈ (stepA a.bad ms (kept a b) st).1, x.length = n + 1 := fun x hx => by
        obtain ⟨r0, h0, c, hc, rfl⟩ := mem_longR.mp (List.mem_filter.mp (newS_in _ _ _ x hx)).1
        rw [List.length_append, hLn r0 h0]
        rfl
      generalize longR ms st.1 = L at lL lR hD5 hS0 hPart hGo
      have ngD : g ≠ D5 := ne_of_none hg nD5
      have nrg : ∀ x u, H3 x = some u → x ≠ g := fun x u e => ne_of_none e ng
      refine ⟨D5, rfl, ⟨_, SqL.of hD5⟩, ?_⟩
      refine for_list (K := K) (xs := L.map T) (fun i σ H6 => Here (∃ v2 v3, σ = [some (.ref pa), some (.ref pb), some (T ms), some (.int (kept a b : Nat)), some (.ref D), some (.ref r), some (.ref g), v2, v3] ∧ H6 g = some (.lst (((L.take i).filter fun r => !a.bad r).map T)) ∧ Same H3 H6 ∧ H6 D5 = some (.lst (L.map T)) ∧ ∀ x ∈ L.take i, a.bad x = b.bad x)) (Here.mk ⟨_, _, rfl, s5 _ _ hg, s4.trans s5, hD5, fun x hx => (by cases hx)⟩) (fun i σ H6 _ hv => by obtain ⟨_, _, _, _, _, h, _⟩ := hv.out; exact SqL.of h) ?_ ?_
      · rintro i x σ H6 hx hv
        obtain ⟨v2, v3, rfl, hg6, s6, hD6, hEq⟩ := hv.out
        obtain ⟨l, hl1, rfl⟩ := get_T hx
        have hll := lR l (List.mem_of_getElem? hl1)
        have hll' : l.length ≤ 1000 := by omega
        have S6 := s3.trans s6
        have ha6 := ha.same S6
        have oa6 := S6 _ _ oa
        have eft := filter_take (fun r => !a.bad r) L hl1
        have hgl : (((L.take i).filter fun r => !a.bad r).map T).length ≤ 1000 := by
          rw [List.length_map]
          have := List.length_filter_le (fun r => !a.bad r) (L.take i)
          rw [List.length_take] at this
          omega
        walk_at "rd"
        intro H7 s7
        have hb7 := hb.same (S6.trans s7)
        have ob7 := (S6.trans s7) _ _ ob
        walk_at "rd"
        intro H8 s8
        have hg8 := (s7.trans s8) _ _ hg6
        walk_at "rd"
        refine ite2 (fun u => ?_) (fun u => ?_)
        · have u' : a.bad l ≠ b.bad l := fun y => by rw [y, decide_eq_true rfl] at u; cases u
          obtain ⟨p1, p2⟩ := hPart l (List.mem_of_getElem? hl1) u'
          walk_at "rd"
          intro t nt
          have S8 := (S6.trans s7).trans s8
          exact q1 t l n _ (S8.free nt) (S8.trans (same_new nt _)) upd_same p2 (by omega) p1
        have u' : a.bad l = b.bad l := Decidable.byContradiction fun y => u (by rw [decide_eq_false fun v => y (V.bl.inj v)]; rfl)
        have hEq' : ∀ x ∈ L.take (i + 1), a.bad x = b.bad x := fun x hx => by
          rw [List.take_add_one, hl1] at hx
          rcases List.mem_append.mp hx with hx | hx
          · exact hEq x hx
          · rw [List.mem_singleton.mp hx]; exact u'
        walk_at "rd"
        refine ite2 (fun z => ?_) (fun z => ?_)
        · walk_at "rd"
          refine Here.mk ⟨_, _, rfl, ?_, ((s6.trans s7).trans s8).upd ng, ?_, hEq'⟩
          · rw [upd_same, eft, if_pos z, List.map_append]; rfl
          · rw [upd_ne ngD.symm]; exact (s7.trans s8) _ _ hD6
        · walk_at "rd"
          refine Here.mk ⟨_, _, rfl, ?_, (s6.trans s7).trans s8, (s7.trans s8) _ _ hD6, hEq'⟩
          rw [hg8, eft, if_neg z, List.append_nil]
      · rintro σ H6 hv
        obtain ⟨v2, v3, rfl, hg6, s6, hD6, hEq⟩ := hv.out
        rw [List.length_map, List.take_of_length_le (Nat.le_refl _)] at hg6 hEq
        have hBI' := hGo hEq
        have hD7 := s6 _ _ hD3
        have lF : (L.filter fun r => !a.bad r).length ≤ 200 := Nat.le_trans (List.length_filter_le _ _) (by omega)
        have rF : ∀ x ∈ L.filter fun r => !a.bad r, x.length ≤ 100 := fun x hx => by have := lR x (List.mem_filter.mp hx).1; omega
        have l2 : st.2.length ≤ 100 := by omega
        walk_at "rd"
        intro N H7 nN b7 hN7 hD8
        rw [← hS0, ← hstep] at hN7 hD8
        rw [← hstep] at hBI' hLn'
        have hkl : ((kvT (itA a.bad ms (kept a b) (n + 1)).2).length : Int) ≤ 400 := by
          unfold kvT
          rw [List.length_map]
          omega
        walk_at "rd"
        refine ite2 (fun z => ?_) (fun z => ?_)
        · exact absurd (of_decide_eq_true z) (by omega)
        · walk_at "rd"
          exact Here.mk ⟨N, _, _, _, rfl, hD8, hN7, (fun x u e => b7 x u (ne_of_none e nD) ((s3.trans s6) x u e)), hBI', hLn'⟩
end

/-! ### the rules drawn -/
def sp_marks : Sp := fun vs H Q _ => ∃ c, vs = [.int c] ∧ ∀ (ms : List Nat) H', 2 ≤ ms.length → ms.length ≤ 3 → Same H H' → Q (T ms) H'
theorem sixM (a b : Nat) (i : Int) (h0 : 0 ≤ i) (h : i < 6) : ∃ l : List Nat, atI [T ([45] ++ [a]), T ([a] ++ [45]), T ([a] ++ [b]), T ([45] ++ [a] ++ [b]), T ([b] ++ [45] ++ [a]), T ([b] ++ [a] ++ [45])] i = some (T l) ∧ 2 ≤ l.length ∧ l.length ≤ 3 := by
  obtain ⟨c, h1, h2⟩ := at_some [T ([45] ++ [a]), T ([a] ++ [45]), T ([a] ++ [b]), T ([45] ++ [a] ++ [b]), T ([b] ++ [45] ++ [a]), T ([b] ++ [a] ++ [45])] i h0 h
  have hm := List.mem_of_getElem? h2
  simp only [List.mem_cons, List.not_mem_nil, or_false] at hm
  rcases hm with rfl | rfl | rfl | rfl | rfl | rfl
  all_goals exact ⟨_, h1, by simp, by simp⟩
section
variable {P : Program} {w : World} {K : PySem.W.Frag} {mg : Str → Option Value} {base : Heap} {C_Never C_Most C_Least C_Both C_Either C_Not : Addr}

theorem g_law_marks (tx : Tx K mg C_Never C_Most C_Least C_Both C_Either C_Not) : FnG P w K mg base "_law_marks" 1 ["_law_cell"] sp_marks := by
  refine tx.f_law_marks.g sc_law_marks (fun _ _ _ _ _ _ us hl => match us, hl with | [_], _ => rfl) (fun vs H Q E h => ?_) (fun f cdv A outer s H vs Q E hr h => ?_)
  · obtain ⟨c, rfl, _⟩ := h
    rfl
  · obtain ⟨c, rfl, q⟩ := h
    refine ⟨_, (pss_cons (ps_set (i := 1) sc_law_marks.nd rfl (Or.inl rfl) (pe_txt (l := [65, 66, 67, 68, 69, 70, 71, 72, 73, 74, 75, 76, 77, 78, 79, 80, 81, 82, 83, 84, 85, 86, 87, 88, 89, 90]) (by decide +kernel)))
      (pss_cons (ps_set (i := 2) sc_law_marks.nd rfl (Or.inl rfl) (pe_ix ix_txt (pv 1) (pe_op op_mod (pv 0) pe_int) (fun _ _ => rfl)))
      (pss_cons (ps_set (i := 3) sc_law_marks.nd rfl (Or.inl rfl) (pe_ix ix_txt (pv 1) (pe_op op_mod (pe_op op_add (pe_op op_add (pe_op op_mod (pv 0) pe_int) pe_int) (pe_op op_mod (pe_op op_fdiv (pv 0) pe_int) pe_int)) pe_int) (fun _ _ => rfl)))
      (pss_cons (ps_set (i := 4) sc_law_marks.nd rfl (Or.inl rfl) (pe_lst (pa_cons (pe_op op_catS (pe_txt (l := [45]) (by decide +kernel)) (pv 2)) (pa_cons (pe_op op_catS (pv 2) (pe_txt (l := [45]) (by decide +kernel))) (pa_cons (pe_op op_catS (pv 2) (pv 3)) (pa_cons (pe_op op_catS (pe_op op_catS (pe_txt (l := [45]) (by decide +kernel)) (pv 2)) (pv 3)) (pa_cons (pe_op op_catS (pe_op op_catS (pv 3) (pe_txt (l := [45]) (by decide +kernel))) (pv 2)) (pa_cons (pe_op op_catS (pe_op op_catS (pv 3) (pv 2)) (pe_txt (l := [45]) (by decide +kernel))) pa_nil))))))))
      (pss_one (ps_ret (pe_ix (ix_listK (K := K) rfl) (pv 4) (pe_op op_mod (pe_op op_fdiv (pv 0) pe_int) pe_int) (fun _ _ => rfl)))))))), ?_⟩
    walk_at "st"
    obtain ⟨a, ha, _⟩ := at_some [65, 66, 67, 68, 69, 70, 71, 72, 73, 74, 75, 76, 77, 78, 79, 80, 81, 82, 83, 84, 85, 86, 87, 88, 89, 90] (c % 26) (Int.emod_nonneg _ (by decide)) (Int.emod_lt_of_pos _ (by decide))
    obtain ⟨b, hb, _⟩ := at_some [65, 66, 67, 68, 69, 70, 71, 72, 73, 74, 75, 76, 77, 78, 79, 80, 81, 82, 83, 84, 85, 86, 87, 88, 89, 90] ((c % 26 + 1 + c / 26 % 25) % 26) (Int.emod_nonneg _ (by decide)) (Int.emod_lt_of_pos _ (by decide))
    walk_at "rd"
    intro pl npl
    obtain ⟨l, h1, h2, h3⟩ := sixM a b (c / 650 % 6) (Int.emod_nonneg _ (by decide)) (Int.emod_lt_of_pos _ (by decide))
    obtain ⟨H1, e1, hp1, s1⟩ := newl (xs := [T ([45] ++ [a]), T ([a] ++ [45]), T ([a] ++ [b]), T ([45] ++ [a] ++ [b]), T ([b] ++ [45] ++ [a]), T ([b] ++ [a] ++ [45])]) npl
    rw [← e1]
    walk_at "rd"
    exact q l H1 h2 h3 s1
end

/-! ### the rules drawn -/
def Gd (r : R) : Prop := r.fine ∧ r.reach ≤ 4
def sp_plain4 (c6 : Cs) : Sp := fun vs H Q _ => ∃ c ms, vs = [.int c, T ms] ∧ 2 ≤ ms.length ∧ ms.length ≤ 3 ∧ ∀ (r : R) p H', Gd r → r.depth = 0 → Same H H' → RuleAt c6 H' r p → Q (.ref p) H'
def sp_rule4 (K : PySem.W.Frag) (c6 : Cs) : Sp := fun vs H Q _ => ∃ (cs : Addr) (ms : List Nat) (ns : List Int), vs = [.ref cs, T ms] ∧ SqL K H cs (ns.map V.int) ∧ ns.length ≤ 5 ∧ 2 ≤ ms.length ∧ ms.length ≤ 3 ∧ ∀ (r : R) p H', Gd r → r.depth ≤ 5 → Same H H' → RuleAt c6 H' r p → Q (.ref p) H'
def sp_after (c6 : Cs) : Sp := fun vs H Q _ => ∃ m wd, vs = [T m, T wd] ∧ 1 ≤ m.length ∧ m.length ≤ 4 ∧ wd.length ≤ 3 ∧ ∀ (r : R) p H', Gd r → r.depth ≤ 2 → Same H H' → RuleAt c6 H' r p → Q (.ref p) H'
def sp_chain (c6 : Cs) : Sp := fun vs H Q _ => ∃ c ms, vs = [.int c, T ms] ∧ 2 ≤ ms.length ∧ ms.length ≤ 3 ∧ ∀ (r : R) p H', Gd r → r.depth ≤ 3 → Same H H' → RuleAt c6 H' r p → Q (.ref p) H'
theorem five (o : Nat) (i : Int) (h0 : 0 ≤ i) (h : i < 5) : ∃ l : List Nat, atI [T [o], T [o], T [35], T [45], T [35, 45]] i = some (T l) ∧ l.length ≤ 2 := by
  obtain ⟨c, h1, h2⟩ := at_some [T [o], T [o], T [35], T [45], T [35, 45]] i h0 h
  have hm := List.mem_of_getElem? h2
  simp only [List.mem_cons, List.not_mem_nil, or_false] at hm
  rcases hm with rfl | rfl | rfl | rfl | rfl
  all_goals exact ⟨_, h1, by simp⟩
theorem fiveW (a b : Nat) (i : Int) (h0 : 0 ≤ i) (h : i < 5) : ∃ l : List Nat, atI [T [b], T ([b] ++ [a]), T ([a] ++ [b]), T ([b] ++ [a] ++ [a]), T ([b] ++ [b])] i = some (T l) ∧ l.length ≤ 3 := by
  obtain ⟨c, h1, h2⟩ := at_some [T [b], T ([b] ++ [a]), T ([a] ++ [b]), T ([b] ++ [a] ++ [a]), T ([b] ++ [b])] i h0 h
  have hm := List.mem_of_getElem? h2
  simp only [List.mem_cons, List.not_mem_nil, or_false] at hm
  rcases hm with rfl | rfl | rfl | rfl | rfl
  all_goals exact ⟨_, h1, by simp⟩
theorem twoOf (p q : Addr) (i : Int) (h0 : 0 ≤ i) (h : i < 2) : ∃ r, atI [V.ref p, V.ref q] i = some (.ref r) ∧ (r = p ∨ r = q) := by
  obtain ⟨c, h1, h2⟩ := at_some [V.ref p, V.ref q] i h0 h
  have hm := List.mem_of_getElem? h2
  simp only [List.mem_cons, List.not_mem_nil, or_false] at hm
  rcases hm with rfl | rfl
  · exact ⟨p, h1, .inl rfl⟩
  · exact ⟨q, h1, .inr rfl⟩
/-! ### the stack of rules -/
def HeldR (c6 : Cs) (H : Hp) (h : Addr) (zs : List (R × Addr)) (n : Nat) : Prop := H h = some (.lst (zs.map fun z => V.ref z.2)) ∧ ∀ z ∈ zs, RuleAt c6 H z.1 z.2 ∧ Gd z.1 ∧ z.1.depth + zs.length ≤ n
theorem HeldR.len {c6 : Cs} {H : Hp} {h : Addr} {zs : List (R × Addr)} {n : Nat} (k : HeldR c6 H h zs n) : zs.length ≤ n := by
  cases zs with
  | nil => exact Nat.zero_le _
  | cons z r => have := (k.2 z List.mem_cons_self).2.2; omega
theorem HeldR.mono {c6 : Cs} {H : Hp} {h : Addr} {zs : List (R × Addr)} {n m : Nat} (k : HeldR c6 H h zs n) (hm : n ≤ m) : HeldR c6 H h zs m :=
  ⟨k.1, fun z hz => ⟨(k.2 z hz).1, (k.2 z hz).2.1, Nat.le_trans (k.2 z hz).2.2 hm⟩⟩
theorem HeldR.same {c6 : Cs} {H H' : Hp} {h : Addr} {zs : List (R × Addr)} {n : Nat} (k : HeldR c6 H h zs n) (s : Same H H') : HeldR c6 H' h zs n :=
  ⟨s _ _ k.1, fun z hz => ⟨(k.2 z hz).1.same s, (k.2 z hz).2⟩⟩
theorem HeldR.push {c6 : Cs} {H : Hp} {h : Addr} {zs : List (R × Addr)} {n m : Nat} {r : R} {p : Addr} (k : HeldR c6 H h zs n) (hr : RuleAt c6 H r p) (hf : Gd r) (hn : n + 1 ≤ m) (hd : r.depth + zs.length + 1 ≤ m) :
    HeldR c6 (upd H h (.lst (zs.map (fun z => V.ref z.2) ++ [.ref p]))) h (zs ++ [(r, p)]) m := by
  refine ⟨by rw [upd_same, List.map_append]; rfl, fun z hz => ?_⟩
  rw [List.length_append, List.length_singleton]
  rcases List.mem_append.mp hz with hz | hz
  · obtain ⟨a, b, c⟩ := k.2 z hz
    exact ⟨a.lst k.1, b, by omega⟩
  · obtain rfl : z = (r, p) := by simpa using hz
    exact ⟨hr.lst k.1, hf, by show r.depth + _ ≤ _; omega⟩
theorem HeldR.pop {c6 : Cs} {H : Hp} {h : Addr} {zs : List (R × Addr)} {n : Nat} {z : R × Addr} (k : HeldR c6 H h (zs ++ [z]) n) :
    HeldR c6 (upd H h (.lst (((zs ++ [z]).map fun z => V.ref z.2).dropLast))) h zs (n - 1) ∧ RuleAt c6 (upd H h (.lst (((zs ++ [z]).map fun z => V.ref z.2).dropLast))) z.1 z.2 ∧ Gd z.1 ∧ z.1.depth + zs.length + 1 ≤ n ∧
    ((zs ++ [z]).map fun z => V.ref z.2)[((zs ++ [z]).map fun z => V.ref z.2).length - 1]? = some (V.ref z.2) := by
  have e : ((zs ++ [z]).map fun z => V.ref z.2).dropLast = zs.map fun z => V.ref z.2 := by rw [List.map_append]; exact List.dropLast_concat
  obtain ⟨a, b, c⟩ := k.2 z (by simp)
  rw [List.length_append, List.length_singleton] at c
  refine ⟨⟨by rw [upd_same, e], fun y hy => ?_⟩, a.lst k.1, b, by omega, ?_⟩
  · obtain ⟨a, b, c⟩ := k.2 y (by simp [hy])
    rw [List.length_append, List.length_singleton] at c
    exact ⟨a.lst k.1, b, by omega⟩
  · rw [List.map_append, List.length_append]
    simp
theorem snoc_of {α : Type} {zs : List α} (h : zs ≠ []) : ∃ ys z, zs = ys ++ [z] := ⟨zs.dropLast, zs.getLast h, (List.dropLast_concat_getLast h).symm⟩
def lenAt (H : Hp) (h : Addr) : Nat := match H h with
  | some (.lst xs) => xs.length
  | _ => 0
theorem lenAt_of {H : Hp} {h : Addr} {xs : List V} (e : H h = some (.lst xs)) : lenAt H h = xs.length := by unfold lenAt; rw [e]
theorem Gd.both {x y : R} (hx : Gd x) (hy : Gd y) : Gd (.both x y) := ⟨⟨hx.1, hy.1⟩, by have := hx.2; have := hy.2; simp only [R.reach]; split <;> omega⟩
theorem Gd.either {x y : R} (hx : Gd x) (hy : Gd y) : Gd (.either x y) := ⟨⟨hx.1, hy.1⟩, by have := hx.2; have := hy.2; simp only [R.reach]; split <;> omega⟩
theorem Gd.neg {x : R} (hx : Gd x) : Gd (.neg x) := ⟨hx.1, hx.2⟩
theorem Gd.nev {w : List Nat} (h1 : 1 ≤ w.length) (h2 : w.length ≤ 4) : Gd (.nev w) := ⟨⟨h1, by omega⟩, by show (w.length : Int) ≤ 4; omega⟩
/-- the one of the two that was taken -/
theorem joinedG {c6 : Cs} {H : Hp} {x y : R} {p1 p2 r : Addr} (h : r = p1 ∨ r = p2) (h1 : RuleAt c6 H (.both x y) p1) (h2 : RuleAt c6 H (.either x y) p2) (hx : Gd x) (hy : Gd y) : ∃ z : R, RuleAt c6 H z r ∧ Gd z ∧ z.depth = max x.depth y.depth + 1 := by
  rcases h with rfl | rfl
  · exact ⟨_, h1, hx.both hy, rfl⟩
  · exact ⟨_, h2, hx.either hy, rfl⟩
section
variable {P : Program} {w : World} {K : PySem.W.Frag} {mg : Str → Option Value} {base : Heap} {C_Never C_Most C_Least C_Both C_Either C_Not : Addr}

theorem g_law_plain (tx : Tx K mg C_Never C_Most C_Least C_Both C_Either C_Not) : FnG P w K mg base "_law_plain" 3 ["_law_cell", "_law_marks_here"] (sp_plain4 (cs6 C_Never C_Most C_Least C_Both C_Either C_Not)) := by
  have G_Never := tx.c_Never.g (g_Never_init (P := P) (w := w) (base := base) tx)
  have G_Most := tx.c_Most.g (g_Most_init (P := P) (w := w) (base := base) tx)
  have G_Least := tx.c_Least.g (g_Least_init (P := P) (w := w) (base := base) tx)
  refine tx.f_law_plain.g sc_law_plain (fun _ _ _ _ _ _ us hl => match us, hl with | [_, _], _ => rfl) (fun vs H Q E h => ?_) (fun f cdv A outer s H vs Q E hr h => ?_)
  · obtain ⟨c, ms, rfl, _⟩ := h
    rfl
  · obtain ⟨c, ms, rfl, hm2, hm3, q⟩ := h
    refine ⟨_, (pss_cons (ps_set (i := 2) sc_law_plain.nd rfl (Or.inl rfl) (pe_ix ix_txt (pv 1) (pe_op op_mod (pe_op op_fdiv (pv 0) pe_int) (pe_callB call_lenS rfl tx.z_len PySem.boot_len (pa_cons (pv 1) pa_nil))) (fun _ _ => rfl)))
      (pss_cons (ps_if (pt_cmpR op_eq (pe_op op_mod (pv 0) pe_int) pe_int (nomark _)) (pss_cons (ps_set (i := 3) sc_law_plain.nd rfl (Or.inl rfl) (pv 2))
      (pss_cons (ps_for PassesOwn.never rfl (pi_range1 rfl tx.z_range (pa_cons (pe_op op_mod (pe_op op_fdiv (pv 0) pe_int) pe_int) pa_nil)) (pg_name (i := 4) sc_law_plain.nd rfl (Or.inl rfl)) (pss_one (ps_set (i := 3) sc_law_plain.nd rfl (Or.inl rfl) (pe_op op_catS (pv 3) (pe_ix ix_txt (pe_op op_catS (pe_txt (l := [35]) (by decide +kernel)) (pv 1)) (pe_op op_mod (pe_op op_and (pe_op op_shr (pe_op op_fdiv (pv 0) pe_int) (pe_op op_mul pe_int (pv 4))) pe_int) (pe_op op_add pe_int (pe_callB call_lenS rfl tx.z_len PySem.boot_len (pa_cons (pv 1) pa_nil)))) (fun _ _ => rfl))))))
      (pss_one (ps_ret (pe_mkI (r := rNev (cs6 C_Never C_Most C_Least C_Both C_Either C_Not)) G_Never (hr.mono (by decide)) mk_nev (pa_cons (pv 3) pa_nil)))))) pss_nil)
      (pss_cons (ps_set (i := 5) sc_law_plain.nd rfl (Or.inl rfl) (pe_ix (ix_listK (K := K) rfl) (pe_lst (pa_cons (pv 2) (pa_cons (pv 2) (pa_cons (pe_txt (l := [35]) (by decide +kernel)) (pa_cons (pe_txt (l := [45]) (by decide +kernel)) (pa_cons (pe_txt (l := [35, 45]) (by decide +kernel)) pa_nil)))))) (pe_op op_mod (pe_op op_fdiv (pv 0) pe_int) pe_int) (fun _ _ => rfl)))
      (pss_cons (ps_if (pt_cmpR op_eq (pe_op op_mod (pv 0) pe_int) pe_int (nomark _)) (pss_one (ps_ret (pe_mkI (r := rMost (cs6 C_Never C_Most C_Least C_Both C_Either C_Not)) G_Most (hr.mono (by decide)) mk_most (pa_cons (pe_op op_mod (pe_op op_fdiv (pv 0) pe_int) pe_int) (pa_cons (pv 5) (pa_cons (pe_op op_add pe_int (pe_op op_mod (pe_op op_fdiv (pv 0) pe_int) pe_int)) pa_nil)))))) pss_nil)
      (pss_one (ps_ret (pe_mkI (r := rLeast (cs6 C_Never C_Most C_Least C_Both C_Either C_Not)) G_Least (hr.mono (by decide)) mk_least (pa_cons (pe_op op_mod (pe_op op_fdiv (pv 0) pe_int) pe_int) (pa_cons (pv 5) (pa_cons (pe_op op_add pe_int (pe_op op_mod (pe_op op_fdiv (pv 0) pe_int) pe_int)) pa_nil)))))))))), ?_⟩
    walk_at "st"
    clear G_Never G_Most G_Least
    have l0 : (0 : Int) < (ms.length : Int) := by omega
    have hms : ms.length ≤ 1000 := by omega
    obtain ⟨o, ho, _⟩ := at_some ms (c / 3 % (ms.length : Int)) (Int.emod_nonneg _ (by omega)) (Int.emod_lt_of_pos _ l0)
    have n0 : 0 ≤ c / 9 % 4 := Int.emod_nonneg _ (by decide)
    have n1 : c / 9 % 4 < 4 := Int.emod_lt_of_pos _ (by decide)
    walk_at "rd"
    refine ite2 (fun _ => ?_) (fun _ => ?_)
    · walk_at "rd"
      refine for_range (n := (c / 9 % 4).toNat) (fun i σ H2 => Here (∃ (v : Option V) (wd : List Nat), σ = [some (.int c), some (T ms), some (T [o]), some (T wd), v, none] ∧ wd.length = i + 1 ∧ H2 = H)) (Here.mk ⟨none, [o], rfl, rfl, rfl⟩) ?_ ?_
      · rintro i σ H2 hi hv
        obtain ⟨v, wd, rfl, hw, eH⟩ := hv.out
        rw [eH]
        have l2 : (0 : Int) < 1 + (ms.length : Int) := by omega
        have l3 : (0 : Int) ≤ 2 * (0 + (i : Int)) := by omega
        have l4 : (0 : Int) < 36 := by decide
        generalize hbb : Builtin.bitAnd (c / 36 / 2 ^ (2 * (0 + (i : Int))).toNat) 3 = bb
        obtain ⟨d, hd, _⟩ := at_some ([35] ++ ms) (bb % (1 + (ms.length : Int))) (Int.emod_nonneg _ (by omega)) (by have := Int.emod_lt_of_pos bb l2; rw [List.length_append]; show _ < ((1 + ms.length : Nat) : Int); omega)
        rw [← hbb] at hd
        walk_at "rd"
        exact Here.mk ⟨_, wd ++ [d], rfl, by rw [List.length_append, hw]; rfl, rfl⟩
      · rintro σ H2 hv
        obtain ⟨v, wd, rfl, hw, eH⟩ := hv.out
        rw [eH]
        walk_at "rd"
        intro p H' s' h'
        exact q (.nev wd) p H' (.nev (by omega) (by omega)) rfl s' h'
    · obtain ⟨m, hm, hml⟩ := five o (c / 9 % 5) (Int.emod_nonneg _ (by decide)) (Int.emod_lt_of_pos _ (by decide))
      have hd0 : 0 ≤ c / 180 % 4 := Int.emod_nonneg _ (by decide)
      have hd1 : c / 180 % 4 < 4 := Int.emod_lt_of_pos _ (by decide)
      walk_at "rd"
      intro pl npl
      obtain ⟨H1, e1, hp1, s1⟩ := newl (xs := [T [o], T [o], T [35], T [45], T [35, 45]]) npl
      rw [← e1]
      walk_at "rd"
      refine ite2 (fun _ => ?_) (fun _ => ?_)
      · walk_at "rd"
        intro p H' s' h'
        exact q (.most (c / 45 % 4) m (1 + c / 180 % 4)) p H' ⟨⟨by omega, by omega⟩, by show 1 + c / 180 % 4 ≤ 4; omega⟩ rfl (s1.trans s') h'
      · walk_at "rd"
        intro p H' s' h'
        exact q (.least (c / 45 % 4) m (1 + c / 180 % 4)) p H' ⟨⟨by omega, by omega⟩, by show 1 + c / 180 % 4 ≤ 4; omega⟩ rfl (s1.trans s') h'

theorem g_law_rule (tx : Tx K mg C_Never C_Most C_Least C_Both C_Either C_Not) : FnG P w K mg base "_law_rule" 4 ["_law_cells", "_law_marks_here"] (sp_rule4 K (cs6 C_Never C_Most C_Least C_Both C_Either C_Not)) := by
  have G_law_plain := g_law_plain (P := P) (w := w) (base := base) tx
  have G_Never := tx.c_Never.g (g_Never_init (P := P) (w := w) (base := base) tx)
  have G_Both := tx.c_Both.g (g_Both_init (P := P) (w := w) (base := base) tx)
  have G_Either := tx.c_Either.g (g_Either_init (P := P) (w := w) (base := base) tx)
  have G_Not := tx.c_Not.g (g_Not_init (P := P) (w := w) (base := base) tx)
  refine tx.f_law_rule.g sc_law_rule (fun _ _ _ _ _ _ us hl => match us, hl with | [_, _], _ => rfl) (fun vs H Q E h => ?_) (fun f cdv A outer s H vs Q E hr h => ?_)
  · obtain ⟨cs, ms, ns, rfl, _⟩ := h
    rfl
  · obtain ⟨cs, ms, ns, rfl, hS, hns, hm2, hm3, q⟩ := h
    refine ⟨_, (pss_cons (ps_set (i := 2) sc_law_rule.nd rfl (Or.inl rfl) (pe_lst pa_nil))
      (pss_cons (ps_for PassesOwn.never rfl (pi_listK (K := K) rfl (pv 0)) (pg_name (i := 3) sc_law_rule.nd rfl (Or.inl rfl)) (pss_cons (ps_set (i := 4) sc_law_rule.nd rfl (Or.inl rfl) (pe_op op_mod (pv 3) pe_int))
      (pss_one (ps_if (PW.pt (pw_or (pt_cmpR op_lt (pv 4) pe_int (nomark _)) (pw_or1 (pt_cmpR (op_eqE (K := K) rfl hr.units0) (pv 2) (pe_lst pa_nil) (nomark _))))) (pss_one (ps_expr (pe_bm PySem.F.plainAttrs_list PySem.F.slot_list_append PySem.F.type_list_append mt_append (pv 2) (pa_cons (pe_fn G_law_plain (hr.mono (by decide)) (pa_cons (pe_op op_fdiv (pv 3) pe_int) (pa_cons (pv 1) pa_nil))) pa_nil)))) (pss_one (ps_if (pt_cmpR op_eq (pv 4) pe_int (nomark _)) (pss_one (ps_expr (pe_bm PySem.F.plainAttrs_list PySem.F.slot_list_append PySem.F.type_list_append mt_append (pv 2) (pa_cons (pe_mkI (r := rNot (cs6 C_Never C_Most C_Least C_Both C_Either C_Not)) G_Not (hr.mono (by decide)) mk_not (pa_cons (pe_bm0 PySem.F.plainAttrs_list PySem.F.slot_list_pop PySem.F.type_list_pop mt_pop (pv 2)) pa_nil)) pa_nil)))) (pss_one (ps_if (pt_cmpR op_gt (pe_callB (call_len_seqK (K := K) rfl) rfl tx.z_len PySem.boot_len (pa_cons (pv 2) pa_nil)) pe_int (nomark _)) (pss_cons (ps_set (i := 5) sc_law_rule.nd rfl (Or.inl rfl) (pe_bm0 PySem.F.plainAttrs_list PySem.F.slot_list_pop PySem.F.type_list_pop mt_pop (pv 2)))
      (pss_cons (ps_set (i := 6) sc_law_rule.nd rfl (Or.inl rfl) (pe_bm0 PySem.F.plainAttrs_list PySem.F.slot_list_pop PySem.F.type_list_pop mt_pop (pv 2)))
      (pss_one (ps_expr (pe_bm PySem.F.plainAttrs_list PySem.F.slot_list_append PySem.F.type_list_append mt_append (pv 2) (pa_cons (pe_ix (ix_listK (K := K) rfl) (pe_lst (pa_cons (pe_mkI (r := rBoth (cs6 C_Never C_Most C_Least C_Both C_Either C_Not)) G_Both (hr.mono (by decide)) mk_both (pa_cons (pv 6) (pa_cons (pv 5) pa_nil))) (pa_cons (pe_mkI (r := rEither (cs6 C_Never C_Most C_Least C_Both C_Either C_Not)) G_Either (hr.mono (by decide)) mk_either (pa_cons (pv 6) (pa_cons (pv 5) pa_nil))) pa_nil))) (pe_op op_sub (pv 4) pe_int) (fun _ _ => rfl)) pa_nil)))))) pss_nil))))))))
      (pss_cons (ps_while PassesOwn.never (pt_cmpR op_gt (pe_callB (call_len_seqK (K := K) rfl) rfl tx.z_len PySem.boot_len (pa_cons (pv 2) pa_nil)) pe_int (nomark _)) (pss_cons (ps_set (i := 5) sc_law_rule.nd rfl (Or.inl rfl) (pe_bm0 PySem.F.plainAttrs_list PySem.F.slot_list_pop PySem.F.type_list_pop mt_pop (pv 2)))
      (pss_cons (ps_set (i := 6) sc_law_rule.nd rfl (Or.inl rfl) (pe_bm0 PySem.F.plainAttrs_list PySem.F.slot_list_pop PySem.F.type_list_pop mt_pop (pv 2)))
      (pss_one (ps_expr (pe_bm PySem.F.plainAttrs_list PySem.F.slot_list_append PySem.F.type_list_append mt_append (pv 2) (pa_cons (pe_ix (ix_listK (K := K) rfl) (pe_lst (pa_cons (pe_mkI (r := rBoth (cs6 C_Never C_Most C_Least C_Both C_Either C_Not)) G_Both (hr.mono (by decide)) mk_both (pa_cons (pv 6) (pa_cons (pv 5) pa_nil))) (pa_cons (pe_mkI (r := rEither (cs6 C_Never C_Most C_Least C_Both C_Either C_Not)) G_Either (hr.mono (by decide)) mk_either (pa_cons (pv 6) (pa_cons (pv 5) pa_nil))) pa_nil))) (pe_op op_mod (pe_callB (call_len_seqK (K := K) rfl) rfl tx.z_len PySem.boot_len (pa_cons (pv 2) pa_nil)) pe_int) (fun _ _ => rfl)) pa_nil)))))))
      (pss_one (ps_ret (pe_ix (ix_listK (K := K) rfl) (pe_op op_cat (pv 2) (pe_lst (pa_cons (pe_mkI (r := rNev (cs6 C_Never C_Most C_Least C_Both C_Either C_Not)) G_Never (hr.mono (by decide)) mk_nev (pa_cons (pe_ix ix_txt (pv 1) pe_int (fun _ _ => rfl)) pa_nil)) pa_nil))) pe_int (fun _ _ => rfl))))))), ?_⟩
    walk_at "st"
    clear G_law_plain G_Never G_Both G_Either G_Not
    have hms : ms.length ≤ 1000 := by omega
    walk_at "rd"
    intro hp nhp
    obtain ⟨H1, e1, hh1, s1⟩ := newl (xs := []) nhp
    rw [← e1]
    have hS1 := s1.seq hS
    walk_at "rd"
    refine for_list (xs := ns.map V.int) (fun i σ H2 => Here (∃ v1 v2 v3 v4 zs, σ = [some (.ref cs), some (T ms), some (.ref hp), v1, v2, v3, v4] ∧ HeldR (cs6 C_Never C_Most C_Least C_Both C_Either C_Not) H2 hp zs i ∧ Same H H2))
      (Here.mk ⟨none, none, none, none, [], rfl, ⟨hh1, fun z hz => by cases hz⟩, s1⟩) (fun i σ H2 _ hv => by obtain ⟨_, _, _, _, _, _, _, s⟩ := hv.out; exact s.seq hS) ?_ ?_
    · rintro i x σ H2 hx hv
      obtain ⟨v1, v2, v3, v4, zs, rfl, hk, ss⟩ := hv.out
      have hi : i < ns.length := by have := (List.getElem?_eq_some_iff.mp hx).1; rwa [List.length_map] at this
      obtain ⟨n, rfl⟩ : ∃ n, x = .int n := by
        obtain ⟨n, _, e⟩ := List.mem_map.mp (List.mem_of_getElem? hx)
        exact ⟨n, e.symm⟩
      have w0 : 0 ≤ n % 8 := Int.emod_nonneg _ (by decide)
      have w1 : n % 8 < 8 := Int.emod_lt_of_pos _ (by decide)
      have hzl := hk.len
      have hh := hk.1
      -- a plain one is put on
      have pl : ∀ (H3 : Hp) (r : R) (p : Addr), Gd r → r.depth = 0 → Same H2 H3 → RuleAt (cs6 C_Never C_Most C_Least C_Both C_Either C_Not) H3 r p → H3 hp = some (.lst (zs.map fun z => V.ref z.2)) ∧ HeldR (cs6 C_Never C_Most C_Least C_Both C_Either C_Not) (upd H3 hp (.lst (zs.map (fun z => V.ref z.2) ++ [.ref p]))) hp (zs ++ [(r, p)]) (i + 1) ∧ Same H (upd H3 hp (.lst (zs.map (fun z => V.ref z.2) ++ [.ref p]))) := fun H3 r p g d s3 h3 => ⟨(hk.same s3).1, (hk.same s3).push h3 g (Nat.le_refl _) (by omega), (ss.trans s3).upd nhp⟩
      walk_at "rd"
      refine ite2 (fun _ => ?_) (fun c5 => ?_)
      · walk_at "rd"
        intro r p H3 g d s3 h3
        obtain ⟨a1, a2, a3⟩ := pl H3 r p g d s3 h3
        walk_at "rd"
        exact Here.mk ⟨_, _, _, _, _, rfl, a2, a3⟩
      have c5' : ¬ n % 8 < 5 := fun z => c5 (decide_eq_true z)
      walk_at "rd"
      intro l nl
      obtain ⟨H3, e3, hl3, s3⟩ := newl (xs := []) nl
      rw [← e3]
      have hh3 := s3 _ _ hh
      walk_at "rd"
      refine ite2 (fun _ => ?_) (fun hne => ?_)
      · walk_at "rd"
        intro r p H4 g d s4 h4
        obtain ⟨a1, a2, a3⟩ := pl H4 r p g d (s3.trans s4) h4
        walk_at "rd"
        exact Here.mk ⟨_, _, _, _, _, rfl, a2, a3⟩
      have hne' : zs ≠ [] := fun z => hne (by subst z; rfl)
      have hk3 := hk.same s3
      have ss3 := ss.trans s3
      obtain ⟨ys, z, rfl⟩ := snoc_of hne'
      obtain ⟨k1, rz, fz, dz, lz⟩ := hk3.pop
      rw [List.length_append, List.length_singleton] at hzl
      have hh1 := k1.1
      clear pl hk hh s3 ss e3
      walk_at "rd"
      refine ite2 (fun _ => ?_) (fun c6 => ?_)
      · -- held.append(Not(held.pop()))
        walk_at "rd"
        intro p dx H4 s4 h4 _
        have k2 := k1.same s4
        have hh2 := k2.1
        walk_at "rd"
        exact Here.mk ⟨_, _, _, _, ys ++ [(.neg z.1, p)], rfl, k2.push h4 fz.neg (by omega) (by show z.1.depth + 1 + _ + 1 ≤ _; omega), ((ss3.upd nhp).trans s4).upd nhp⟩
      have c6' : ¬ n % 8 = 5 := fun y => c6 (by rw [y]; rfl)
      walk_at "rd"
      refine ite2 (fun c => ?_) (fun _ => ?_)
      · -- two are joined
        have c' : (1 : Int) < ((((ys ++ [z]).map fun z => V.ref z.2).length : Nat) : Int) := of_decide_eq_true c
        rw [List.length_map, List.length_append, List.length_singleton] at c'
        have hys : ys ≠ [] := fun e => by rw [e, List.length_nil] at c'; omega
        obtain ⟨xs, y, rfl⟩ := snoc_of hys
        obtain ⟨k2, ry, fy, dy, ly⟩ := k1.pop
        have rz2 := rz.lst (ys := (((xs ++ [y]).map fun z => V.ref z.2).dropLast)) k1.1
        rw [List.length_append, List.length_singleton] at dz hzl
        have hh2 := k2.1
        walk_at "rd"
        intro p1 d1 H4 s4 h4 _
        have ry4 := ry.same s4
        have rz4 := rz2.same s4
        walk_at "rd"
        intro p2 d2 H5 s5 h5 _
        have h45 := h4.same s5
        obtain ⟨r, hr1, hr2⟩ := twoOf p1 p2 (n % 8 - 6) (by omega) (by omega)
        walk_at "rd"
        intro l2 nl2
        obtain ⟨H6, e6, hl6, s6⟩ := newl (xs := [.ref p1, .ref p2]) nl2
        rw [← e6]
        have k4 := ((k2.same s4).same s5).same s6
        have hh4 := k4.1
        obtain ⟨u, hu, gu, du⟩ := joinedG hr2 (h45.same s6) (h5.same s6) fy fz
        walk_at "rd"
        exact Here.mk ⟨_, _, _, _, xs ++ [(u, r)], rfl, k4.push hu gu (by omega) (by omega), ((((((ss3.upd nhp).upd nhp).trans s4).trans s5).trans s6).upd nhp)⟩
      · walk_at "rd"
        exact Here.mk ⟨_, _, _, _, ys ++ [z], rfl, hk3.mono (Nat.le_succ _), ss3⟩
    rintro σ H2 hv
    obtain ⟨v1, v2, v3, v4, zs, rfl, hk, ss⟩ := hv.out
    rw [List.length_map] at hk
    refine while_by (fun σ H3 => Here (∃ v1 v2 v3 v4 zs, σ = [some (.ref cs), some (T ms), some (.ref hp), v1, v2, v3, v4] ∧ HeldR (cs6 C_Never C_Most C_Least C_Both C_Either C_Not) H3 hp zs 5 ∧ Same H H3)) (fun _ H3 => lenAt H3 hp)
      (Here.mk ⟨v1, v2, v3, v4, zs, rfl, hk.mono (by omega), ss⟩) ?_ ?_
    · rintro σ H3 hv
      obtain ⟨v1, v2, v3, v4, zs, rfl, hk, ss⟩ := hv.out
      have hh := hk.1
      have hzl := hk.len
      walk_at "rd"
      refine ite2 (fun c => ?_) (fun c => ?_)
      · have c' : (1 : Int) < ((((zs).map fun z => V.ref z.2).length : Nat) : Int) := of_decide_eq_true c
        rw [List.length_map] at c'
        obtain ⟨ys, z, rfl⟩ := snoc_of (zs := zs) (fun e => by rw [e, List.length_nil] at c'; omega)
        obtain ⟨k1, rz, fz, dz, lz⟩ := hk.pop
        have hh1 := k1.1
        rw [List.length_append, List.length_singleton] at c' hzl
        have hys : ys ≠ [] := fun e => by rw [e, List.length_nil] at c'; omega
        obtain ⟨xs, y, rfl⟩ := snoc_of hys
        obtain ⟨k2, ry, fy, dy, ly⟩ := k1.pop
        have rz2 := rz.lst (ys := (((xs ++ [y]).map fun z => V.ref z.2).dropLast)) k1.1
        rw [List.length_append, List.length_singleton] at dz hzl
        have hh2 := k2.1
        walk_at "rd"
        intro p1 d1 H4 s4 h4 _
        have ry4 := ry.same s4
        have rz4 := rz2.same s4
        walk_at "rd"
        intro p2 d2 H5 s5 h5 _
        have h45 := h4.same s5
        walk_at "rd"
        intro l2 nl2
        obtain ⟨H6, e6, hl6, s6⟩ := newl (xs := [.ref p1, .ref p2]) nl2
        rw [← e6]
        have k4 := ((k2.same s4).same s5).same s6
        have hh4 := k4.1
        obtain ⟨r, hr1, hr2⟩ := twoOf p1 p2 ((((xs.map fun z => V.ref z.2).length : Nat) : Int) % 2) (Int.emod_nonneg _ (by decide)) (Int.emod_lt_of_pos _ (by decide))
        obtain ⟨u, hu, gu, du⟩ := joinedG hr2 (h45.same s6) (h5.same s6) fy fz
        walk_at "rd"
        have kf := k4.push (m := 5) hu gu (by omega) (by omega)
        refine ⟨Here.mk ⟨_, _, _, _, xs ++ [(u, r)], rfl, kf, (((((ss.upd nhp).upd nhp).trans s4).trans s5).trans s6).upd nhp⟩, ?_⟩
        show lenAt _ hp < lenAt H3 hp
        rw [lenAt_of kf.1, lenAt_of hh]
        simp
      · have c' : ¬ ((1 : Int) < (((zs.map fun z => V.ref z.2).length : Nat) : Int)) := of_decide_eq_false (Bool.eq_false_iff.mpr c)
        rw [List.length_map] at c'
        obtain ⟨m0, hm0, _⟩ := at_some ms 0 (by omega) (by omega)
        walk_at "rd"
        intro p H4 s4 h4
        have hh4 := s4 _ _ hh
        walk_at "rd"
        intro l nl
        obtain ⟨H5, e5, hl5, s5⟩ := newl (xs := [.ref p]) nl
        rw [← e5]
        have hh5 := s5 _ _ hh4
        walk_at "rd"
        intro l2 nl2
        obtain ⟨H6, e6, hl6, s6⟩ := newl (xs := (zs.map fun z => V.ref z.2) ++ [.ref p]) nl2
        rw [← e6]
        have S6 := ((ss.trans s4).trans s5).trans s6
        cases zs with
        | nil =>
          have e0 : atI ((([] : List (R × Addr)).map fun z => V.ref z.2) ++ [.ref p]) 0 = some (V.ref p) := by simp [atI, ixN]
          walk_at "rd"
          exact q _ p H6 (.nev (w := [m0]) (Nat.le_refl 1) (by show 1 ≤ 4; omega)) (Nat.zero_le _) S6 ((h4.same s5).same s6)
        | cons z r =>
          have e0 : atI (((z :: r).map fun z => V.ref z.2) ++ [.ref p]) ((0 : Nat) : Int) = some (V.ref z.2) := atI_nat rfl
          obtain ⟨a1, a2, a3⟩ := hk.2 z List.mem_cons_self
          walk_at "rd"
          exact q z.1 z.2 H6 a2 (by omega) S6 (((a1.same s4).same s5).same s6)
    · rintro σ H' Q1 Q2 hQ ⟨v, e1, p, ys, e2, h, i, j, e3, e4, k, e5, h2⟩
      exact ⟨v, e1, p, ys, e2, h, i, j, e3, e4, k, e5, hQ _ _ h2⟩

theorem g_law_after (tx : Tx K mg C_Never C_Most C_Least C_Both C_Either C_Not) : FnG P w K mg base "_law_after" 3 ["_law_mark", "_law_word"] (sp_after (cs6 C_Never C_Most C_Least C_Both C_Either C_Not)) := by
  have G_Never := tx.c_Never.g (g_Never_init (P := P) (w := w) (base := base) tx)
  have G_Either := tx.c_Either.g (g_Either_init (P := P) (w := w) (base := base) tx)
  have G_Not := tx.c_Not.g (g_Not_init (P := P) (w := w) (base := base) tx)
  refine tx.f_law_after.g sc_law_after (fun _ _ _ _ _ _ us hl => match us, hl with | [_, _], _ => rfl) (fun vs H Q E h => ?_) (fun f cdv A outer s H vs Q E hr h => ?_)
  · obtain ⟨m, wd, rfl, _⟩ := h
    rfl
  · obtain ⟨m, wd, rfl, hm1, hm4, hw, q⟩ := h
    refine ⟨_, (pss_one (ps_ret (pe_mkI (r := rEither (cs6 C_Never C_Most C_Least C_Both C_Either C_Not)) G_Either (hr.mono (by decide)) mk_either (pa_cons (pe_mkI (r := rNot (cs6 C_Never C_Most C_Least C_Both C_Either C_Not)) G_Not (hr.mono (by decide)) mk_not (pa_cons (pe_mkI (r := rNev (cs6 C_Never C_Most C_Least C_Both C_Either C_Not)) G_Never (hr.mono (by decide)) mk_nev (pa_cons (pe_op op_catS (pv 1) (pe_txt (l := [63]) (by decide +kernel))) pa_nil)) pa_nil)) (pa_cons (pe_mkI (r := rNev (cs6 C_Never C_Most C_Least C_Both C_Either C_Not)) G_Never (hr.mono (by decide)) mk_nev (pa_cons (pv 0) pa_nil)) pa_nil))))), ?_⟩
    walk_at "st"
    clear G_Never G_Either G_Not
    walk_at "rd"
    intro p1 H1 s1 h1
    walk_at "rd"
    intro p2 d2 H2 s2 h2 _
    walk_at "rd"
    intro p3 H3 s3 h3
    have h23 := h2.same s3
    walk_at "rd"
    intro p4 d4 H4 s4 h4 _
    exact q _ p4 H4 (Gd.either (Gd.neg (.nev (by rw [List.length_append]; show 1 ≤ wd.length + 1; omega) (by rw [List.length_append]; show wd.length + 1 ≤ 4; omega))) (.nev hm1 hm4)) (Nat.le_refl 2) (((s1.trans s2).trans s3).trans s4) h4

theorem g_law_chain (tx : Tx K mg C_Never C_Most C_Least C_Both C_Either C_Not) : FnG P w K mg base "_law_chain" 4 ["_law_cell", "_law_marks_here"] (sp_chain (cs6 C_Never C_Most C_Least C_Both C_Either C_Not)) := by
  have G_law_after := g_law_after (P := P) (w := w) (base := base) tx
  have G_Both := tx.c_Both.g (g_Both_init (P := P) (w := w) (base := base) tx)
  refine tx.f_law_chain.g sc_law_chain (fun _ _ _ _ _ _ us hl => match us, hl with | [_, _], _ => rfl) (fun vs H Q E h => ?_) (fun f cdv A outer s H vs Q E hr h => ?_)
  · obtain ⟨c, ms, rfl, _⟩ := h
    rfl
  · obtain ⟨c, ms, rfl, hm2, hm3, q⟩ := h
    refine ⟨_, (pss_cons (ps_set (i := 2) sc_law_chain.nd rfl (Or.inl rfl) (pe_ix ix_txt (pv 1) pe_int (fun _ _ => rfl)))
      (pss_cons (ps_set (i := 3) sc_law_chain.nd rfl (Or.inl rfl) (pe_ix ix_txt (pv 1) pe_int (fun _ _ => rfl)))
      (pss_cons (ps_set (i := 4) sc_law_chain.nd rfl (Or.inl rfl) (pe_fn G_law_after (hr.mono (by decide)) (pa_cons (pv 3) (pa_cons (pe_op op_mulS1 (pv 2) (pe_op op_add pe_int (pe_op op_mod (pv 0) pe_int))) pa_nil))))
      (pss_cons (ps_if (pt_cmpR op_eq (pe_callB call_lenS rfl tx.z_len PySem.boot_len (pa_cons (pv 1) pa_nil)) pe_int (nomark _)) (pss_cons (ps_set (i := 5) sc_law_chain.nd rfl (Or.inl rfl) (pe_ix (ix_listK (K := K) rfl) (pe_lst (pa_cons (pv 3) (pa_cons (pe_op op_catS (pv 3) (pv 2)) (pa_cons (pe_op op_catS (pv 2) (pv 3)) (pa_cons (pe_op op_catS (pe_op op_catS (pv 3) (pv 2)) (pv 2)) (pa_cons (pe_op op_catS (pv 3) (pv 3)) pa_nil)))))) (pe_op op_mod (pe_op op_fdiv (pv 0) pe_int) pe_int) (fun _ _ => rfl)))
      (pss_one (ps_set (i := 4) sc_law_chain.nd rfl (Or.inl rfl) (pe_mkI (r := rBoth (cs6 C_Never C_Most C_Least C_Both C_Either C_Not)) G_Both (hr.mono (by decide)) mk_both (pa_cons (pe_fn G_law_after (hr.mono (by decide)) (pa_cons (pe_ix ix_txt (pv 1) pe_int (fun _ _ => rfl)) (pa_cons (pv 5) pa_nil))) (pa_cons (pv 4) pa_nil)))))) pss_nil)
      (pss_one (ps_ret (pv 4))))))), ?_⟩
    walk_at "st"
    clear G_law_after G_Both
    have hms : ms.length ≤ 1000 := by omega
    obtain ⟨a, ha, _⟩ := at_some ms 0 (by omega) (by omega)
    obtain ⟨b, hb, _⟩ := at_some ms 1 (by omega) (by omega)
    have c0 : 0 ≤ c % 3 := Int.emod_nonneg _ (by decide)
    have c1 : c % 3 < 3 := Int.emod_lt_of_pos _ (by decide)
    have c2 : (List.replicate (1 + c % 3).toNat a).length ≤ 3 := by rw [List.length_replicate]; omega
    walk_at "rd"
    intro r p H1 g d s1 h1
    walk_at "rd"
    refine ite2 (fun e3 => ?_) (fun _ => ?_)
    · have e3' : (3 : Nat) = ms.length := by
        have : V.int (ms.length : Int) = V.int 3 := of_decide_eq_true e3
        have := V.int.inj this
        omega
      obtain ⟨m2, hm, _⟩ := at_some ms 2 (by omega) (by omega)
      obtain ⟨l, hl, hl3⟩ := fiveW a b (c / 3 % 5) (Int.emod_nonneg _ (by decide)) (Int.emod_lt_of_pos _ (by decide))
      walk_at "rd"
      intro pl npl
      obtain ⟨H2, e2, hp2, s2⟩ := newl (xs := [T [b], T ([b] ++ [a]), T ([a] ++ [b]), T ([b] ++ [a] ++ [a]), T ([b] ++ [b])]) npl
      rw [← e2]
      have h12 := h1.same s2
      walk_at "rd"
      intro r2 p2 H3 g2 d2 s3 h3
      have h13 := h12.same s3
      walk_at "rd"
      intro p4 d4 H4 s4 h4 _
      walk_at "rd"
      exact q _ p4 H4 (g2.both g) (by simp only [R.depth]; omega) (((s1.trans s2).trans s3).trans s4) h4
    · walk_at "rd"
      exact q r p H1 g (by omega) s1 h1
end

def sp_parted (c6 : Cs) : Sp := fun vs H Q _ => ∃ (pa pb : Addr) (a b : R) (ms : List Nat), vs = [.ref pa, .ref pb, T ms] ∧ RuleAt c6 H a pa ∧ RuleAt c6 H b pb ∧ Gd a ∧ Gd b ∧ a.depth ≤ 20 ∧ b.depth ≤ 20 ∧ ms.length ≤ 3 ∧
  (∀ (n : Nat) H', First a.bad b.bad ms n → Same H H' → Q (.int ((n : Int) + 1)) H') ∧ (∀ H', (∀ n, ¬ PartAt a.bad b.bad ms n) → Same H H' → Q (.int 0) H')
theorem cut_last3 (l : List Nat) : cutN l (some (-3)) none = tailK 3 l := by
  unfold cutN tailK
  have e : HT.sIx l.length 0 (some (-3)) = l.length - 3 := by
    show (if (-3 : Int) < 0 then ((-3 : Int) + (l.length : Int)).toNat else min (-3 : Int).toNat l.length) = _
    rw [if_pos (by decide)]
    omega
  rw [e, HT.sIx_none]
  exact List.take_of_length_le (by rw [List.length_drop]; exact Nat.le_refl _)
theorem newS_len1 (k : Nat) (rows ts : List (List Nat)) : (newS k rows ts).1.length ≤ rows.length := by
  have h4 : ∀ (l : List (List Nat)) (st : List (List Nat) × List (List Nat)), (l.foldl (newF k) st).1.length ≤ st.1.length + l.length := by
    intro l
    induction l with
    | nil => intro st; exact Nat.le_refl _
    | cons x l ih =>
      intro st
      refine Nat.le_trans (ih _) ?_
      have : (newF k st x).1.length ≤ st.1.length + 1 := by
        unfold newF
        split
        · omega
        · rw [List.length_append, List.length_singleton]; omega
      rw [List.length_cons]
      omega
  have := h4 rows ([], ts)
  have h5 : (newS k rows ts).1.length ≤ 0 + rows.length := this
  omega
structure InA (a b : R) (ts L rows : List (List Nat)) (g D r : Addr) (H H6 : Hp) : Prop where
  g : H6 g = some (.lst (((newS 3 (L.filter fun x => !b.bad x) ts).1.map (tailK 3)).map T))
  d : H6 D = some (.dK (kvT (newS 3 (L.filter fun x => !b.bad x) ts).2))
  r : H6 r = some (.lst (rows.map T))
  s : Same H H6
  e : ∀ x ∈ L, a.bad x = b.bad x
section
variable {P : Program} {w : World} {K : PySem.W.Frag} {mg : Str → Option Value} {base : Heap} {C_Never C_Most C_Least C_Both C_Either C_Not : Addr}

theorem g_law_days_till_parted (tx : Tx K mg C_Never C_Most C_Least C_Both C_Either C_Not) : FnG P w K mg base "_law_days_till_parted" 30 ["_law_rule_here", "_law_other", "_law_marks_here"] (sp_parted (cs6 C_Never C_Most C_Least C_Both C_Either C_Not)) := by
  refine tx.f_law_days_till_parted.g sc_law_days_till_parted (fun _ _ _ _ _ _ us hl => match us, hl with | [_, _, _], _ => rfl) (fun vs H Q E h => ?_) (fun f cdv A outer s H vs Q E hr h => ?_)
  · obtain ⟨pa, pb, a, b, ms, rfl, _⟩ := h
    rfl
  · obtain ⟨pa, pb, a, b, ms, rfl, ha, hb, ga, gb, da, db, hm, q1, q2⟩ := h
    refine ⟨_, (pss_cons (ps_set (i := 3) sc_law_days_till_parted.nd rfl (Or.inl rfl) (pe_lst (pa_cons (pe_txt (l := []) (by decide +kernel)) pa_nil)))
      (pss_cons (ps_set (i := 4) sc_law_days_till_parted.nd rfl (Or.inl rfl) (pe_disp (pps_cons (pe_txt (l := []) (by decide +kernel)) pe_bl pps_nil) rfl rfl (by simp) (by decide)))
      (pss_cons (ps_set (i := 5) sc_law_days_till_parted.nd rfl (Or.inl rfl) pe_int)
      (pss_cons (ps_while PassesOwn.never (pt_cmpR (op_neE (K := K) rfl hr.units0) (pv 3) (pe_lst pa_nil) (nomark _)) (pss_cons (ps_set (i := 5) sc_law_days_till_parted.nd rfl (Or.inl rfl) (pe_op op_add (pv 5) pe_int))
      (pss_cons (ps_set (i := 6) sc_law_days_till_parted.nd rfl (Or.inl rfl) (pe_lst pa_nil))
      (pss_cons (ps_for PassesOwn.never rfl (pi_listK (K := K) rfl (pv 3)) (pg_name (i := 7) sc_law_days_till_parted.nd rfl (Or.inl rfl)) (pss_one (ps_for PassesOwn.never rfl (pi_txt (pv 2)) (pg_name (i := 8) sc_law_days_till_parted.nd rfl (Or.inl rfl)) (pss_cons (ps_if (pt_cmpR op_ne (pe_mtD (P := P) (w := w) (K := K) (mg := mg) (base := base) hr (pv 0) (pa_cons (pe_op op_catS (pv 7) (pv 8)) pa_nil) rfl rfl rfl rfl rfl) (pe_mtD (P := P) (w := w) (K := K) (mg := mg) (base := base) hr (pv 1) (pa_cons (pe_op op_catS (pv 7) (pv 8)) pa_nil) rfl rfl rfl rfl rfl) (nomark _)) (pss_one (ps_ret (pv 5))) pss_nil)
      (pss_cons (ps_set (i := 9) sc_law_days_till_parted.nd rfl (Or.inl rfl) (pe_slice sl_txt (pe_op op_catS (pv 7) (pv 8)) (po_some (pe_un un_neg pe_int)) po_none))
      (pss_one (ps_if (PW.pt (pw_and (pt_not (pt_val (pe_mtD (P := P) (w := w) (K := K) (mg := mg) (base := base) hr (pv 1) (pa_cons (pe_op op_catS (pv 7) (pv 8)) pa_nil) rfl rfl rfl rfl rfl))) (pw_and1 (pt_cmp (pc_dnotin (hu_of hr) (pv 9) (pv 4)) rfl)))) (pss_cons (ps_dput (hu_of hr) (pv 4) (pv 9) pe_bl rfl)
      (pss_one (ps_expr (pe_bm PySem.F.plainAttrs_list PySem.F.slot_list_append PySem.F.type_list_append mt_append (pv 6) (pa_cons (pv 9) pa_nil))))) pss_nil)))))))
      (pss_one (ps_set (i := 3) sc_law_days_till_parted.nd rfl (Or.inl rfl) (pv 6)))))))
      (pss_one (ps_ret pe_int)))))), ?_⟩
    walk_at "st"
    obtain ⟨dxa, fsa, oa, na1, na2, _⟩ := ha.obj
    obtain ⟨dxb, fsb, ob, nb1, nb2, _⟩ := hb.obj
    have Ba := g_bad (P := P) (w := w) (base := base) tx a
    have Bb := g_bad (P := P) (w := w) (base := base) tx b
    have dfa : depK 3 a.bad := R.dep ga.1 (by have := ga.2; omega)
    have dfb : depK 3 b.bad := R.dep gb.1 (by have := gb.2; omega)
    have dK3 : 5 + a.depth ≤ 29 := by omega
    have dK4 : 5 + b.depth ≤ 29 := by omega
    have hms : ms.length ≤ 1000 := by omega
    walk_at "rd"
    intro rl nrl
    obtain ⟨H1, e1, hrl, s1⟩ := newl (xs := [T []]) nrl
    rw [← e1]
    walk_at "rd"
    intro D nD
    refine ⟨upd_same, [(Sum.inr ⟨#[]⟩, .bl true)], rfl, (by decide), ?_⟩
    obtain ⟨H2, e2⟩ : ∃ H2, H2 = upd (upd H1 D (.dK [])) D (.dK (mergeK [] [(Sum.inr ⟨#[]⟩, .bl true)])) := ⟨_, rfl⟩
    rw [← e2]
    have hD2 : H2 D = some (.dK (kvT [[]])) := by rw [e2, upd_same]; rfl
    have s2 : Same H1 H2 := by rw [e2]; exact (same_new nD _).upd nD
    have nD0 : H D = none := s1.free nD
    clear e1 e2
    walk_at "rd"
    refine ⟨fun m σ H' => Here (∃ n r v6 v7 v8 v9, σ = [some (.ref pa), some (.ref pb), some (T ms), some (.ref r), some (.ref D), some (.int (n : Nat)), v6, v7, v8, v9] ∧ H' D = some (.dK (kvT (itD b.bad ms 3 n).2)) ∧ H' r = some (.lst ((itD b.bad ms 3 n).1.map T)) ∧ Same H H' ∧ BI a.bad b.bad ms 3 n (itD b.bad ms 3 n).1 (itD b.bad ms 3 n).2 ∧ m = (40 - (itD b.bad ms 3 n).2.length) + (if (itD b.bad ms 3 n).1 = [] then 0 else 1)), ⟨_, Here.mk ⟨0, rl, none, none, none, none, rfl, hD2, s2 _ _ hrl, s1.trans s2, BI.zero, rfl⟩⟩, ?_⟩
    clear hD2 hrl s1 s2 nD nrl
    rintro m σ H3 hv
    obtain ⟨n, r, v6, v7, v8, v9, rfl, hD3, hr3, s3, hBI, rfl⟩ := hv.out
    have hok := itD_ok b.bad ms 3 n
    have hstep : itD b.bad ms 3 (n + 1) = ((stepA b.bad ms 3 (itD b.bad ms 3 n)).1.map (tailK 3), (stepA b.bad ms 3 (itD b.bad ms 3 n)).2) := rfl
    have hokS := itD_ok b.bad ms 3 (n + 1)
    have hle := hok.le hm (Nat.le_refl 3)
    have hleS := hokS.le hm (Nat.le_refl 3)
    walk_at "rd"
    intro l nl
    obtain ⟨H4, e4, hl4, s4⟩ := newl (xs := []) nl
    rw [← e4]
    have hr4 := s4 _ _ hr3
    have hD4 := s4 _ _ hD3
    clear e4
    walk_at "rd"
    refine ite2 (fun z => ?_) (fun z => ?_)
    · have he : (itD b.bad ms 3 n).1 ≠ [] := fun y => by rw [y] at z; simp at z
      refine ⟨fun σ' H' => Here (∃ r v6 v7 v8 v9, σ' = [some (.ref pa), some (.ref pb), some (T ms), some (.ref r), some (.ref D), some (.int ((n + 1 : Nat) : Int)), v6, v7, v8, v9] ∧ H' D = some (.dK (kvT (itD b.bad ms 3 (n + 1)).2)) ∧ H' r = some (.lst ((itD b.bad ms 3 (n + 1)).1.map T)) ∧ Same H H' ∧ BI a.bad b.bad ms 3 (n + 1) (itD b.bad ms 3 (n + 1)).1 (itD b.bad ms 3 (n + 1)).2), fun σ' H' h' => ?_, ?_⟩
      · obtain ⟨r', u1, u2, u3, u4, rfl, k1, k2, k3, k4⟩ := h'.out
        refine ⟨_, ?_, Here.mk ⟨n + 1, r', u1, u2, u3, u4, rfl, k1, k2, k3, k4, rfl⟩⟩
        have hl : (itD b.bad ms 3 (n + 1)).2.length = (itD b.bad ms 3 n).2.length + (itD b.bad ms 3 (n + 1)).1.length := by
          rw [hstep]
          show (stepA b.bad ms 3 (itD b.bad ms 3 n)).2.length = _ + ((stepA b.bad ms 3 (itD b.bad ms 3 n)).1.map (tailK 3)).length
          rw [List.length_map]
          exact newS_len _ _ _
        rw [if_neg he]
        by_cases h0 : (itD b.bad ms 3 (n + 1)).1 = []
        · rw [if_pos h0]
          rw [h0] at hl
          have : (itD b.bad ms 3 (n + 1)).2.length = (itD b.bad ms 3 n).2.length := hl
          omega
        · rw [if_neg h0]
          have : 0 < (itD b.bad ms 3 (n + 1)).1.length := List.length_pos_iff.mpr h0
          omega
      have hr1 : (itD b.bad ms 3 n).1.length ≤ 40 := by have := hok.ln; omega
      have hr2 : ∀ x ∈ (itD b.bad ms 3 n).1, x.length ≤ 40 := fun x hx => by have := (hok.rw x hx).2; omega
      have hts : (itD b.bad ms 3 n).2.length ≤ 40 := hle
      have S4 := s3.trans s4
      clear hv hok hokS hle hleS z he hD3 hr3 s3 s4 hl4
      generalize itD b.bad ms 3 n = st at *
      obtain ⟨rows, ts⟩ := st
      simp only at hr1 hr2 hts hr4 hD4 hBI
      walk_at "rd"
      intro g ng
      obtain ⟨H5, e5, hg5, s5⟩ := newl (xs := []) ng
      rw [← e5]
      have hr5 := s5 _ _ hr4
      have hD5 := s5 _ _ hD4
      have S5 := S4.trans s5
      have ng0 : H g = none := S4.free ng
      have hrg : r ≠ g := ne_of_none hr4 ng
      clear e5
      walk_at "rd"
      refine for_list (K := K) (xs := rows.map T) (fun i σ H6 => Here (∃ v7 v8 v9, σ = [some (.ref pa), some (.ref pb), some (T ms), some (.ref r), some (.ref D), some (.int ((n : Nat) + 1)), some (.ref g), v7, v8, v9] ∧ InA a b ts ((rows.take i).flatMap fun r => ms.map fun c => r ++ [c]) rows g D r H H6)) (Here.mk ⟨_, _, _, rfl, ⟨hg5, hD5, hr5, S5, fun x hx => by cases hx⟩⟩) (fun i σ H6 _ hv => by obtain ⟨_, _, _, _, h⟩ := hv.out; exact SqL.of h.r) ?_ ?_
      · rintro i x σ H6 hx hv
        obtain ⟨v7, v8, v9, rfl, hA⟩ := hv.out
        obtain ⟨row, hl1, rfl⟩ := get_T hx
        have hrow := hr2 row (List.mem_of_getElem? hl1)
        have hmem : row ∈ rows := List.mem_of_getElem? hl1
        have hLl : ((rows.take i).flatMap fun r => ms.map fun c => r ++ [c]).length ≤ 120 := by
          have := flat_len (fun r : List Nat => ms.map fun c => r ++ [c]) 3 (rows.take i) fun x _ => by rw [List.length_map]; exact hm
          rw [List.length_take] at this
          have h3 : min i rows.length * 3 ≤ 40 * 3 := Nat.mul_le_mul_right 3 (by omega)
          omega
        have hNext := flat_take (fun r : List Nat => ms.map fun c => r ++ [c]) rows hl1
        rw [hNext]
        clear hNext hv
        generalize ((rows.take i).flatMap fun r => ms.map fun c => r ++ [c]) = L at hA hLl ⊢
        walk_at "rd"
        refine for_txt (l := ms) (fun j σ H7 => Here (∃ v8 v9, σ = [some (.ref pa), some (.ref pb), some (T ms), some (.ref r), some (.ref D), some (.int ((n : Nat) + 1)), some (.ref g), some (T row), v8, v9] ∧ InA a b ts (L ++ (ms.take j).map fun c => row ++ [c]) rows g D r H H7)) (Here.mk ⟨_, _, rfl, by rw [List.take_zero, List.map_nil, List.append_nil]; exact hA⟩) ?_ ?_
        · rintro j c σ H7 hc hv
          obtain ⟨v8, v9, rfl, hA⟩ := hv.out
          have hcm : c ∈ ms := List.mem_of_getElem? hc
          have eN : L ++ (ms.take (j + 1)).map (fun c => row ++ [c]) = (L ++ (ms.take j).map fun c => row ++ [c]) ++ [row ++ [c]] := by
            rw [List.take_add_one, hc, List.map_append, ← List.append_assoc]
            rfl
          have hLl2 : (L ++ (ms.take j).map fun c => row ++ [c]).length ≤ 123 := by
            rw [List.length_append, List.length_map, List.length_take]; omega
          rw [eN]
          clear hv eN
          generalize (L ++ (ms.take j).map fun c => row ++ [c]) = M at hA hLl2 ⊢
          have ha7 := ha.same hA.s
          have oa7 := hA.s _ _ oa
          have hrl : (row ++ [c]).length ≤ 1000 := by rw [List.length_append, List.length_singleton]; omega
          walk_at "rd"
          intro H8 s8
          have S8 := hA.s.trans s8
          have hb8 := hb.same S8
          have ob8 := S8 _ _ ob
          walk_at "rd"
          intro H9 s9
          have S9 := S8.trans s9
          walk_at "rd"
          refine ite2 (fun u => ?_) (fun u => ?_)
          · have u' : a.bad (row ++ [c]) ≠ b.bad (row ++ [c]) := fun y => by rw [y, decide_eq_true rfl] at u; cases u
            walk_at "rd"
            exact q1 n H9 (hBI.part dfa dfb hmem hcm u') S9
          have u' : a.bad (row ++ [c]) = b.bad (row ++ [c]) := Decidable.byContradiction fun y => u (by rw [decide_eq_false fun v => y (V.bl.inj v)]; rfl)
          have hb9 := hb.same S9
          have ob9 := S9 _ _ ob
          walk_at "rd"
          intro H10 s10
          have S10 := S9.trans s10
          have s710 := (s8.trans s9).trans s10
          have hg10 := s710 _ _ hA.g
          have hd10 := s710 _ _ hA.d
          have hr10 := s710 _ _ hA.r
          have hE : ∀ x ∈ M ++ [row ++ [c]], a.bad x = b.bad x := fun x hx => by
            rcases List.mem_append.mp hx with hx | hx
            · exact hA.e x hx
            · rw [List.mem_singleton.mp hx]; exact u'
          have hP := newS_pick 3 (fun x => !b.bad x) M ts (row ++ [c])
          have hN1 := newS_len1 3 (M.filter fun x => !b.bad x) ts
          have hN2 := newS_len 3 (M.filter fun x => !b.bad x) ts
          have hN3 := List.length_filter_le (fun x => !b.bad x) M
          clear s8 s9 s10 S8 S9 hb8 ob8 hb9 ob9 ha7 oa7 hA u
          generalize newS 3 (M.filter fun x => !b.bad x) ts = W at hg10 hd10 hP hN1 hN2
          have ec := cut_last3 (row ++ [c])
          walk_at "rd"
          refine ite2 (fun u2 => ?_) (fun u2 => ?_)
          · rw [if_pos u2] at hP
            have nDg : D ≠ g := ne_of hd10 hg10 (fun z => by cases z)
            have hg : DGet H10 D (T (cutN (row ++ [c]) (some (-3)) none)) (valV (kvT W.2) (Sum.inr ⟨(tailK 3 (row ++ [c])).toArray⟩)) := by rw [ec]; exact DGet.k (k := Sum.inr ⟨(tailK 3 (row ++ [c])).toArray⟩) hd10
            have hkl : (kvT W.2).length < sizeLine := by
              unfold kvT
              rw [List.length_map]
              exact Nat.lt_of_lt_of_le (show W.2.length < 400 by omega) (by decide)
            have hp : DPut H10 D (T (cutN (row ++ [c]) (some (-3)) none)) (.bl true) (upd H10 D (.dK (putK (kvT W.2) (Sum.inr ⟨(tailK 3 (row ++ [c])).toArray⟩) (.bl true)))) := by rw [ec]; exact DPut.k (k := Sum.inr ⟨(tailK 3 (row ++ [c])).toArray⟩) hd10 hkl
            have hg11 : upd H10 D (.dK (putK (kvT W.2) (Sum.inr ⟨(tailK 3 (row ++ [c])).toArray⟩) (.bl true))) g = some (.lst ((W.1.map (tailK 3)).map T)) := by rw [upd_ne nDg.symm]; exact hg10
            have hl3 : ((W.1.map (tailK 3)).map T).length ≤ 1000 := by rw [List.length_map, List.length_map]; omega
            walk_at "rd"
            rw [kvT_val]
            refine ite2 (fun z => ?_) (fun z => ?_)
            · have z' : ¬ tailK 3 (row ++ [c]) ∈ W.2 := fun y => by rw [decide_eq_true y] at z; cases z
              walk_at "rd"
              have e : newF 3 W (row ++ [c]) = (W.1 ++ [row ++ [c]], W.2 ++ [tailK 3 (row ++ [c])]) := by unfold newF; rw [if_neg z']
              rw [kvT_put z'] at hg11 ⊢
              rw [e] at hP
              refine Here.mk ⟨_, _, rfl, ⟨?_, ?_, ?_, (S10.upd nD0).upd ng0, hE⟩⟩
              · rw [upd_same, hP, ec, List.map_append, List.map_append]; rfl
              · rw [upd_ne nDg, upd_same, hP]
              · rw [upd_ne hrg, upd_ne (ne_of hr10 hd10 (fun z => by cases z))]; exact hr10
            · have z' : tailK 3 (row ++ [c]) ∈ W.2 := Decidable.byContradiction fun y => z (by rw [decide_eq_false y]; rfl)
              walk_at "rd"
              have e : newF 3 W (row ++ [c]) = W := by unfold newF; rw [if_pos z']
              rw [e] at hP
              refine Here.mk ⟨_, _, rfl, ⟨?_, ?_, hr10, S10, hE⟩⟩
              · rw [hP]; exact hg10
              · rw [hP]; exact hd10
          · rw [if_neg u2] at hP
            walk_at "rd"
            refine Here.mk ⟨_, _, rfl, ⟨?_, ?_, hr10, S10, hE⟩⟩
            · rw [hP]; exact hg10
            · rw [hP]; exact hd10
        · rintro σ H7 hv
          obtain ⟨v8, v9, rfl, hA⟩ := hv.out
          rw [List.take_of_length_le (Nat.le_refl _)] at hA
          exact Here.mk ⟨_, _, _, rfl, hA⟩
      · rintro σ H6 hv
        obtain ⟨v7, v8, v9, rfl, hA⟩ := hv.out
        rw [List.length_map, List.take_of_length_le (Nat.le_refl _)] at hA
        have eL : (rows.flatMap fun r => ms.map fun c => r ++ [c]) = longR ms rows := rfl
        rw [eL] at hA
        have hE := hA.e
        have hF : (longR ms rows).filter (fun x => !b.bad x) = (longR ms rows).filter (fun x => !a.bad x) := List.filter_congr fun x hx => by rw [hE x hx]
        have hB := (hBI.go dfa dfb hE).tails
        rw [← hF] at hB
        have hg6 := hA.g
        have hd6 := hA.d
        have S6 := hA.s
        walk_at "rd"
        rw [hstep]
        exact Here.mk ⟨g, _, _, _, _, rfl, hd6, hg6, S6, hB⟩
    · have he : (itD b.bad ms 3 n).1 = [] := by
        cases h : (itD b.bad ms 3 n).1 with
        | nil => rfl
        | cons x y => rw [h] at z; simp at z
      rw [he] at hBI
      walk_at "rd"
      exact q2 H4 (hBI.done dfa dfb) (s3.trans s4)
end

/-- two rules drawn, where they stand -/
structure Two (c6 : Cs) (H : Hp) (pa pb : Addr) (a b : R) : Prop where
  ra : RuleAt c6 H a pa
  rb : RuleAt c6 H b pb
  ga : Gd a
  gb : Gd b
  da : a.depth ≤ 5
  db : b.depth ≤ 8
theorem neg_at {α : Type} (l : List α) (h : 1 ≤ l.length) : ∃ c, atI l (-1) = some c := by
  obtain ⟨ys, z, rfl⟩ := snoc_of (zs := l) (fun e => by rw [e] at h; simp at h)
  exact ⟨z, atI_last ys z⟩
section
variable {P : Program} {w : World} {K : PySem.W.Frag} {mg : Str → Option Value} {base : Heap} {C_Never C_Most C_Least C_Both C_Either C_Not : Addr}

theorem law_ok {f : Addr} {fd : FuncData} (tx : Tx K mg C_Never C_Most C_Least C_Both C_Either C_Not) (F : Fun K "law" "law" s_law f fd) : FnOk P w K mg base CX0 40 f fd ["_law_script"] (sp_law K) := by
  have G_law_cell_at := g_law_cell_at (P := P) (w := w) (base := base) tx
  have G_law_marks := g_law_marks (P := P) (w := w) (base := base) tx
  have G_law_plain := g_law_plain (P := P) (w := w) (base := base) tx
  have G_law_rule := g_law_rule (P := P) (w := w) (base := base) tx
  have G_law_chain := g_law_chain (P := P) (w := w) (base := base) tx
  have G_law_days_till_parted := g_law_days_till_parted (P := P) (w := w) (base := base) tx
  have G_alike := g_alike (P := P) (w := w) (base := base) tx
  have G_Never := tx.c_Never.g (g_Never_init (P := P) (w := w) (base := base) tx)
  have G_Both := tx.c_Both.g (g_Both_init (P := P) (w := w) (base := base) tx)
  have G_Either := tx.c_Either.g (g_Either_init (P := P) (w := w) (base := base) tx)
  refine F.ok sc_law (fun vs H Q E h => ?_) (fun cdv A outer s H vs Q E hr h => ?_)
  · obtain ⟨a, ns, rfl, _⟩ := h
    rfl
  · obtain ⟨sc, ns, rfl, hS, hns, q⟩ := h
    refine ⟨_, (pss_cons (ps_set (i := 1) sc_law.nd rfl (Or.inl rfl) (pe_fn G_law_marks (hr.mono (by decide)) (pa_cons (pe_fn G_law_cell_at (hr.mono (by decide)) (pa_cons (pv 0) (pa_cons pe_int pa_nil))) pa_nil)))
      (pss_cons (ps_set (i := 2) sc_law.nd rfl (Or.inl rfl) (pe_fn G_law_rule (hr.mono (by decide)) (pa_cons (pe_slice (sl_listK (K := K) rfl) (pv 0) (po_some pe_int) (po_some pe_int)) (pa_cons (pv 1) pa_nil))))
      (pss_cons (ps_set (i := 3) sc_law.nd rfl (Or.inl rfl) (pe_fn G_law_rule (hr.mono (by decide)) (pa_cons (pe_slice (sl_listK (K := K) rfl) (pv 0) (po_some pe_int) (po_some pe_int)) (pa_cons (pv 1) pa_nil))))
      (pss_cons (ps_cut (ps_if (pt_cmpR op_eq (pe_op op_mod (pe_fn G_law_cell_at (hr.mono (by decide)) (pa_cons (pv 0) (pa_cons pe_int pa_nil))) pe_int) pe_int (nomark _)) (pss_one (ps_set (i := 3) sc_law.nd rfl (Or.inl rfl) (pe_mkI (r := rBoth (cs6 C_Never C_Most C_Least C_Both C_Either C_Not)) G_Both (hr.mono (by decide)) mk_both (pa_cons (pv 2) (pa_cons (pe_fn G_law_plain (hr.mono (by decide)) (pa_cons (pe_op op_fdiv (pe_fn G_law_cell_at (hr.mono (by decide)) (pa_cons (pv 0) (pa_cons pe_int pa_nil))) pe_int) (pa_cons (pv 1) pa_nil))) pa_nil))))) pss_nil))
      (pss_cons (ps_cut (ps_if (pt_cmpR op_eq (pe_op op_mod (pe_fn G_law_cell_at (hr.mono (by decide)) (pa_cons (pv 0) (pa_cons pe_int pa_nil))) pe_int) pe_int (nomark _)) (pss_one (ps_set (i := 3) sc_law.nd rfl (Or.inl rfl) (pe_mkI (r := rBoth (cs6 C_Never C_Most C_Least C_Both C_Either C_Not)) G_Both (hr.mono (by decide)) mk_both (pa_cons (pe_mkI (r := rEither (cs6 C_Never C_Most C_Least C_Both C_Either C_Not)) G_Either (hr.mono (by decide)) mk_either (pa_cons (pv 2) (pa_cons (pe_fn G_law_plain (hr.mono (by decide)) (pa_cons (pe_op op_fdiv (pe_fn G_law_cell_at (hr.mono (by decide)) (pa_cons (pv 0) (pa_cons pe_int pa_nil))) pe_int) (pa_cons (pv 1) pa_nil))) pa_nil))) (pa_cons (pv 2) pa_nil))))) pss_nil))
      (pss_cons (ps_cut (ps_if (pt_cmpR op_eq (pe_op op_mod (pe_fn G_law_cell_at (hr.mono (by decide)) (pa_cons (pv 0) (pa_cons pe_int pa_nil))) pe_int) pe_int (nomark _)) (pss_cons (ps_set (i := 4) sc_law.nd rfl (Or.inl rfl) (pe_op op_fdiv (pe_fn G_law_cell_at (hr.mono (by decide)) (pa_cons (pv 0) (pa_cons pe_int pa_nil))) pe_int))
      (pss_cons (ps_set (i := 5) sc_law.nd rfl (Or.inl rfl) (pe_op op_catS (pe_op op_catS (pe_ix ix_txt (pv 1) (pe_un un_neg pe_int) (fun _ _ => rfl)) (pe_txt (l := [63, 63]) (by decide +kernel))) (pe_ix ix_txt (pv 1) (pe_op op_mod (pe_op op_fdiv (pv 4) pe_int) (pe_callB call_lenS rfl tx.z_len PySem.boot_len (pa_cons (pv 1) pa_nil))) (fun _ _ => rfl))))
      (pss_cons (ps_cut (ps_if (pt_cmpR op_eq (pe_op op_mod (pe_op op_fdiv (pv 4) pe_int) pe_int) pe_int (nomark _)) (pss_one (ps_set (i := 5) sc_law.nd rfl (Or.inl rfl) (pe_ix ix_txt (pv 1) (pe_un un_neg pe_int) (fun _ _ => rfl)))) pss_nil))
      (pss_cons (ps_set (i := 2) sc_law.nd rfl (Or.inl rfl) (pe_fn G_law_chain (hr.mono (by decide)) (pa_cons (pv 4) (pa_cons (pv 1) pa_nil))))
      (pss_one (ps_set (i := 3) sc_law.nd rfl (Or.inl rfl) (pe_mkI (r := rBoth (cs6 C_Never C_Most C_Least C_Both C_Either C_Not)) G_Both (hr.mono (by decide)) mk_both (pa_cons (pe_mkI (r := rNev (cs6 C_Never C_Most C_Least C_Both C_Either C_Not)) G_Never (hr.mono (by decide)) mk_nev (pa_cons (pv 5) pa_nil)) (pa_cons (pv 2) pa_nil))))))))) pss_nil))
      (pss_cons (ps_set (i := 6) sc_law.nd rfl (Or.inl rfl) (pe_fn G_law_days_till_parted (hr.mono (by decide)) (pa_cons (pv 2) (pa_cons (pv 3) (pa_cons (pv 1) pa_nil)))))
      (pss_cons (ps_set (i := 7) sc_law.nd rfl (Or.inl rfl) (pe_fn G_alike (hr.mono (by decide)) (pa_cons (pv 2) (pa_cons (pv 3) (pa_cons (pv 1) pa_nil)))))
      (pss_cons (ps_if (pt_cmpR op_eq (pv 6) pe_int (nomark _)) (pss_one (ps_ret (pe_cmpR op_eq (pe_ix (ix_tupK (K := K) rfl) (pv 7) pe_int (fun _ _ => rfl)) (pe_txt (l := [97, 108, 105, 107, 101]) (by decide +kernel)) (nomark _)))) pss_nil)
      (pss_one (ps_ret (pe_and (pe_cmpR op_eq (pe_ix (ix_tupK (K := K) rfl) (pv 7) pe_int (fun _ _ => rfl)) (pe_txt (l := [112, 97, 114, 116, 101, 100]) (by decide +kernel)) (nomark _)) (pe_and (pe_callB call_isBl rfl tx.z_isinstance bt_isinstance (pa_cons (pe_ix (ix_tupK (K := K) rfl) (pv 7) pe_int (fun _ _ => rfl)) (pa_cons (pe_ty tx.z_str bt_ty_str) pa_nil))) (pe_one (pe_cmpR op_eq (pe_callB call_lenS rfl tx.z_len PySem.boot_len (pa_cons (pe_ix (ix_tupK (K := K) rfl) (pv 7) pe_int (fun _ _ => rfl)) pa_nil)) (pv 6) (nomark _)))))))))))))))), ?_⟩
    walk_at "st"
    clear G_law_cell_at G_law_marks G_law_plain G_law_rule G_law_chain G_law_days_till_parted G_alike G_Never G_Both G_Either
    walk_at "rd"
    intro z0
    walk_at "rd"
    intro ms H1 hm2 hm3 s1
    have hS1 := s1.seq hS
    have hms : ms.length ≤ 1000 := by omega
    walk_at "rd"
    intro l1 nl1
    rw [cutV_map] at *
    have c1 := cut_span ns 2 7
    obtain ⟨H2, e2, hl2, s2⟩ := newl (xs := (cutN ns (some 2) (some 7)).map V.int) nl1
    rw [← e2]
    have hS2 := s2.seq hS1
    walk_at "rd"
    intro a pa H3 ga da s3 ha
    have hS3 := s3.seq hS2
    walk_at "rd"
    intro l2 nl2
    rw [cutV_map] at *
    have c2 := cut_span ns 7 12
    obtain ⟨H4, e4, hl4, s4⟩ := newl (xs := (cutN ns (some 7) (some 12)).map V.int) nl2
    rw [← e4]
    have hS4 := s4.seq hS3
    have ha4 := ha.same s4
    walk_at "rd"
    intro b pb H5 gb db s5 hb
    have hS5 := s5.seq hS4
    have hT5 : Two (cs6 C_Never C_Most C_Least C_Both C_Either C_Not) H5 pa pb a b := ⟨ha4.same s5, hb, ga, gb, by omega, by omega⟩
    clear hS hS1 hS2 hS3 hS4 ha ha4 hb ga gb da db s1 s2 s3 s4 s5 e2 e4 hl2 hl4 c1 c2 nl1 nl2
    -- the first if
    refine tCut.mk (fun σ' H' => Here (∃ pb b, σ' = [some (.ref sc), some (T ms), some (.ref pa), some (.ref pb), none, none, none, none] ∧ SqL K H' sc (ns.map V.int) ∧ Two (cs6 C_Never C_Most C_Least C_Both C_Either C_Not) H' pa pb a b)) ?_ ?_
    · walk_at "rd"
      intro z1
      walk_at "rd"
      have ha5 := hT5.ra
      refine ite2 (fun _ => ?_) (fun _ => ?_)
      · walk_at "rd"
        intro z2
        walk_at "rd"
        intro r p H6 g d s6 h6
        have ha6 := ha5.same s6
        walk_at "rd"
        intro p7 d7 H7 s7 h7 _
        walk_at "rd"
        exact Here.mk ⟨p7, _, rfl, s7.seq (s6.seq hS5), ⟨ha6.same s7, h7, hT5.ga, hT5.ga.both g, hT5.da, by have := hT5.da; simp only [R.depth]; omega⟩⟩
      · walk_at "rd"
        exact Here.mk ⟨pb, b, rfl, hS5, hT5⟩
    clear hT5 hS5
    rintro σ' H6 hv
    obtain ⟨pb, b, rfl, hS6, hT6⟩ := hv.out
    clear hv
    -- the second
    refine tCut.mk (fun σ' H' => Here (∃ pb b, σ' = [some (.ref sc), some (T ms), some (.ref pa), some (.ref pb), none, none, none, none] ∧ SqL K H' sc (ns.map V.int) ∧ Two (cs6 C_Never C_Most C_Least C_Both C_Either C_Not) H' pa pb a b)) ?_ ?_
    · walk_at "rd"
      intro z1
      walk_at "rd"
      have ha6 := hT6.ra
      refine ite2 (fun _ => ?_) (fun _ => ?_)
      · walk_at "rd"
        intro z2
        walk_at "rd"
        intro r p H7 g d s7 h7
        have ha7 := ha6.same s7
        walk_at "rd"
        intro p8 d8 H8 s8 h8 _
        have ha8 := ha7.same s8
        walk_at "rd"
        intro p9 d9 H9 s9 h9 _
        walk_at "rd"
        exact Here.mk ⟨p9, _, rfl, s9.seq (s8.seq (s7.seq hS6)), ⟨ha8.same s9, h9, hT6.ga, (hT6.ga.either g).both hT6.ga, hT6.da, by have := hT6.da; simp only [R.depth]; omega⟩⟩
      · walk_at "rd"
        exact Here.mk ⟨pb, b, rfl, hS6, hT6⟩
    clear hT6 hS6
    rintro σ' H7 hv
    obtain ⟨pb, b, rfl, hS7, hT7⟩ := hv.out
    clear hv
    -- the third
    refine tCut.mk (fun σ' H' => Here (∃ pa pb a b v4 v5, σ' = [some (.ref sc), some (T ms), some (.ref pa), some (.ref pb), v4, v5, none, none] ∧ Two (cs6 C_Never C_Most C_Least C_Both C_Either C_Not) H' pa pb a b)) ?_ ?_
    · walk_at "rd"
      intro z1
      walk_at "rd"
      refine ite2 (fun _ => ?_) (fun _ => ?_)
      · walk_at "rd"
        intro z2
        obtain ⟨m1, hm1⟩ := neg_at ms (by omega)
        obtain ⟨m2, hm22, _⟩ := at_some ms (z2 / 4 / 30 % (ms.length : Int)) (Int.emod_nonneg _ (by omega)) (Int.emod_lt_of_pos _ (by omega))
        walk_at "rd"
        refine tCut.mk (fun σ' H' => Here (∃ wd : List Nat, σ' = [some (.ref sc), some (T ms), some (.ref pa), some (.ref pb), some (.int (z2 / 4)), some (T wd), none, none] ∧ 1 ≤ wd.length ∧ wd.length ≤ 4 ∧ H' = H7)) ?_ ?_
        · walk_at "rd"
          refine ite2 (fun _ => ?_) (fun _ => ?_)
          · walk_at "rd"
            exact Here.mk ⟨[m1], rfl, by simp, by simp, rfl⟩
          · walk_at "rd"
            exact Here.mk ⟨_, rfl, by simp, by simp, rfl⟩
        rintro σ' H' hv
        obtain ⟨wd, rfl, w1, w4, eH⟩ := hv.out
        rw [eH]
        clear hv eH
        walk_at "rd"
        intro r p H8 g d s8 h8
        walk_at "rd"
        intro p9 H9 s9 h9
        have h89 := h8.same s9
        walk_at "rd"
        intro p10 d10 H10 s10 h10 _
        walk_at "rd"
        exact Here.mk ⟨p, p10, r, _, _, _, rfl, ⟨h89.same s10, h10, g, Gd.both (.nev w1 w4) g, by omega, by simp only [R.depth]; omega⟩⟩
      · walk_at "rd"
        exact Here.mk ⟨pa, pb, a, b, _, _, rfl, hT7⟩
    clear hT7 hS7 hns
    clear a pa b pb
    rintro σ' H8 hv
    obtain ⟨pa, pb, a, b, v4, v5, rfl, hT⟩ := hv.out
    clear hv
    obtain ⟨ha, hb, ga, gb, da, db⟩ := hT
    have da20 : a.depth ≤ 20 := by omega
    have db20 : b.depth ≤ 20 := by omega
    have fa := ga.1
    have fb := gb.1
    have ra := ga.2
    have rb := gb.2
    walk_at "rd"
    refine ⟨fun n H9 hF s9 => ?_, fun H9 hN s9 => ?_⟩
    · have ha9 := ha.same s9
      have hb9 := hb.same s9
      walk_at "rd"
      refine ⟨fun t row m H10 nt s10 ht hrow hr0 hF2 => ?_, fun t l H10 nt s10 ht hN => absurd hF.1 (hN n)⟩
      obtain rfl := hF.uniq hF2
      walk_at "rd"
      rw [show ((row.length : Nat) : Int) = (n : Int) + 1 by omega, decide_eq_true rfl]
      exact q _
    · have ha9 := ha.same s9
      have hb9 := hb.same s9
      walk_at "rd"
      refine ⟨fun t row m H10 nt s10 ht hrow hr0 hF2 => absurd hF2.1 (hN m), fun t l H10 nt s10 ht _ => ?_⟩
      walk_at "rd"
      exact q _
end

theorem all_mk {l : PySem.W.OpenLaw} {w : World} {K : PySem.W.Frag} {h : Heap} {mg : Str → Option Value} {fa C_Never C_Most C_Least C_Both C_Either C_Not q1 q2 q3 q4 q5 q6 q7 q8 q9 q10 q11 q12 q13 q14 q15 q16 q17 q18 q19 q20 q21 q22 q23 q24 q25 q26 q27 q28 q29 q30 q31 q32 q33 : Addr} (X : K.In h) (G : h.Ns mainGlobals mg) (hfa : mg "law" = some (.ref fa))
    {od1 an1 od2 an2 od3 an3 od4 an4 od5 an5 od6 an6 od7 an7 od8 an8 od9 an9 od10 an10 od11 an11 od12 an12 od13 an13 od14 an14 od15 an15 od16 an16 od17 an17 od18 an18 od19 an19 od20 an20 od21 an21 od22 an22 od23 an23 od24 an24 od25 an25 od26 an26 od27 an27 od28 an28 od29 an29 od30 an30 od31 an31 od32 an32 od33 an33 : Option Addr} {sl1 sl2 sl3 sl4 sl5 sl6 sl7 sl8 sl9 sl10 sl11 sl12 sl13 sl14 sl15 sl16 sl17 sl18 sl19 sl20 sl21 sl22 sl23 sl24 sl25 sl26 sl27 sl28 sl29 sl30 sl31 sl32 sl33 : Array (Option Value)} {oc1 kV1 dc1 pm1 cd1 ct1 oc2 kV2 dc2 pm2 cd2 ct2 oc3 kV3 dc3 pm3 cd3 ct3 oc4 kV4 dc4 pm4 cd4 ct4 oc5 kV5 dc5 pm5 cd5 ct5 oc6 kV6 dc6 pm6 cd6 ct6 oc7 kV7 dc7 pm7 cd7 ct7 oc8 kV8 dc8 pm8 cd8 ct8 oc9 kV9 dc9 pm9 cd9 ct9 oc10 kV10 dc10 pm10 cd10 ct10 oc11 kV11 dc11 pm11 cd11 ct11 oc12 kV12 dc12 pm12 cd12 ct12 oc13 kV13 dc13 pm13 cd13 ct13 oc14 kV14 dc14 pm14 cd14 ct14 oc15 kV15 dc15 pm15 cd15 ct15 oc16 kV16 dc16 pm16 cd16 ct16 oc17 kV17 dc17 pm17 cd17 ct17 oc18 kV18 dc18 pm18 cd18 ct18 oc19 kV19 dc19 pm19 cd19 ct19 oc20 kV20 dc20 pm20 cd20 ct20 oc21 kV21 dc21 pm21 cd21 ct21 oc22 kV22 dc22 pm22 cd22 ct22 oc23 kV23 dc23 pm23 cd23 ct23 oc24 kV24 dc24 pm24 cd24 ct24 oc25 kV25 dc25 pm25 cd25 ct25 oc26 kV26 dc26 pm26 cd26 ct26 oc27 kV27 dc27 pm27 cd27 ct27 oc28 kV28 dc28 pm28 cd28 ct28 oc29 kV29 dc29 pm29 cd29 ct29 oc30 kV30 dc30 pm30 cd30 ct30 oc31 kV31 dc31 pm31 cd31 ct31 oc32 kV32 dc32 pm32 cd32 ct32 oc33 kV33 dc33 pm33 cd33 ct33 : Value}
    {tk_MOST_TAILS : Tok}
    (g_Never : PySem.W.nsIn K mainGlobals "Never" = some (some (.ref C_Never)))
    (g_Most : PySem.W.nsIn K mainGlobals "Most" = some (some (.ref C_Most)))
    (g_Least : PySem.W.nsIn K mainGlobals "Least" = some (some (.ref C_Least)))
    (g_Both : PySem.W.nsIn K mainGlobals "Both" = some (some (.ref C_Both)))
    (g_Either : PySem.W.nsIn K mainGlobals "Either" = some (some (.ref C_Either)))
    (g_Not : PySem.W.nsIn K mainGlobals "Not" = some (some (.ref C_Not)))
    (a1 : PySem.W.nsIn K mainGlobals "fits" = some (some (.ref q1)))
    (l1 : K.lookup q1 = some ⟨oc1, od1, .func (PySem.W.fnOf "fits" "fits" (defArgs s_fits) (defBody s_fits) (defScope s_fits) .none kV1 dc1 pm1 an1 cd1 ct1), sl1⟩)
    (c1 : PySem.W.codeIn K cd1 "fits" = true)
    (k1 : PySem.W.keepIn K (.ref q1) = true)
    (a2 : PySem.W.nsIn K mainGlobals "last_marks" = some (some (.ref q2)))
    (l2 : K.lookup q2 = some ⟨oc2, od2, .func (PySem.W.fnOf "last_marks" "last_marks" (defArgs s_last_marks) (defBody s_last_marks) (defScope s_last_marks) .none kV2 dc2 pm2 an2 cd2 ct2), sl2⟩)
    (c2 : PySem.W.codeIn K cd2 "last_marks" = true)
    (k2 : PySem.W.keepIn K (.ref q2) = true)
    (a3 : PySem.W.nsIn K mainGlobals "let_by" = some (some (.ref q3)))
    (l3 : K.lookup q3 = some ⟨oc3, od3, .func (PySem.W.fnOf "let_by" "let_by" (defArgs s_let_by) (defBody s_let_by) (defScope s_let_by) .none kV3 dc3 pm3 an3 cd3 ct3), sl3⟩)
    (c3 : PySem.W.codeIn K cd3 "let_by" = true)
    (k3 : PySem.W.keepIn K (.ref q3) = true)
    (a4 : PySem.W.nsIn K mainGlobals "count_among" = some (some (.ref q4)))
    (l4 : K.lookup q4 = some ⟨oc4, od4, .func (PySem.W.fnOf "count_among" "count_among" (defArgs s_count_among) (defBody s_count_among) (defScope s_count_among) .none kV4 dc4 pm4 an4 cd4 ct4), sl4⟩)
    (c4 : PySem.W.codeIn K cd4 "count_among" = true)
    (k4 : PySem.W.keepIn K (.ref q4) = true)
    (a5 : PySem.W.findIn K (.ref C_Never) "__init__" = some (some (.ref q5)))
    (i5 : PySem.W.isFn K (.ref q5) = true)
    (l5 : K.lookup q5 = some ⟨oc5, od5, .func (PySem.W.fnOf "__init__" "Never.__init__" (defArgs s_Never_init) (defBody s_Never_init) (defScope s_Never_init) .none kV5 dc5 pm5 an5 cd5 ct5), sl5⟩)
    (c5 : PySem.W.codeIn K cd5 "Never.__init__" = true)
    (k5 : PySem.W.keepIn K (.ref q5) = true)
    (a6 : PySem.W.findIn K (.ref C_Never) "reach" = some (some (.ref q6)))
    (i6 : PySem.W.isFn K (.ref q6) = true)
    (l6 : K.lookup q6 = some ⟨oc6, od6, .func (PySem.W.fnOf "reach" "Never.reach" (defArgs s_Never_reach) (defBody s_Never_reach) (defScope s_Never_reach) .none kV6 dc6 pm6 an6 cd6 ct6), sl6⟩)
    (c6 : PySem.W.codeIn K cd6 "Never.reach" = true)
    (k6 : PySem.W.keepIn K (.ref q6) = true)
    (a7 : PySem.W.findIn K (.ref C_Never) "bad" = some (some (.ref q7)))
    (i7 : PySem.W.isFn K (.ref q7) = true)
    (l7 : K.lookup q7 = some ⟨oc7, od7, .func (PySem.W.fnOf "bad" "Never.bad" (defArgs s_Never_bad) (defBody s_Never_bad) (defScope s_Never_bad) .none kV7 dc7 pm7 an7 cd7 ct7), sl7⟩)
    (c7 : PySem.W.codeIn K cd7 "Never.bad" = true)
    (k7 : PySem.W.keepIn K (.ref q7) = true)
    (a8 : PySem.W.findIn K (.ref C_Most) "__init__" = some (some (.ref q8)))
    (i8 : PySem.W.isFn K (.ref q8) = true)
    (l8 : K.lookup q8 = some ⟨oc8, od8, .func (PySem.W.fnOf "__init__" "Most.__init__" (defArgs s_Most_init) (defBody s_Most_init) (defScope s_Most_init) .none kV8 dc8 pm8 an8 cd8 ct8), sl8⟩)
    (c8 : PySem.W.codeIn K cd8 "Most.__init__" = true)
    (k8 : PySem.W.keepIn K (.ref q8) = true)
    (a9 : PySem.W.findIn K (.ref C_Most) "reach" = some (some (.ref q9)))
    (i9 : PySem.W.isFn K (.ref q9) = true)
    (l9 : K.lookup q9 = some ⟨oc9, od9, .func (PySem.W.fnOf "reach" "Most.reach" (defArgs s_Most_reach) (defBody s_Most_reach) (defScope s_Most_reach) .none kV9 dc9 pm9 an9 cd9 ct9), sl9⟩)
    (c9 : PySem.W.codeIn K cd9 "Most.reach" = true)
    (k9 : PySem.W.keepIn K (.ref q9) = true)
    (a10 : PySem.W.findIn K (.ref C_Most) "bad" = some (some (.ref q10)))
    (i10 : PySem.W.isFn K (.ref q10) = true)
    (l10 : K.lookup q10 = some ⟨oc10, od10, .func (PySem.W.fnOf "bad" "Most.bad" (defArgs s_Most_bad) (defBody s_Most_bad) (defScope s_Most_bad) .none kV10 dc10 pm10 an10 cd10 ct10), sl10⟩)
    (c10 : PySem.W.codeIn K cd10 "Most.bad" = true)
    (k10 : PySem.W.keepIn K (.ref q10) = true)
    (a11 : PySem.W.findIn K (.ref C_Least) "__init__" = some (some (.ref q11)))
    (i11 : PySem.W.isFn K (.ref q11) = true)
    (l11 : K.lookup q11 = some ⟨oc11, od11, .func (PySem.W.fnOf "__init__" "Least.__init__" (defArgs s_Least_init) (defBody s_Least_init) (defScope s_Least_init) .none kV11 dc11 pm11 an11 cd11 ct11), sl11⟩)
    (c11 : PySem.W.codeIn K cd11 "Least.__init__" = true)
    (k11 : PySem.W.keepIn K (.ref q11) = true)
    (a12 : PySem.W.findIn K (.ref C_Least) "reach" = some (some (.ref q12)))
    (i12 : PySem.W.isFn K (.ref q12) = true)
    (l12 : K.lookup q12 = some ⟨oc12, od12, .func (PySem.W.fnOf "reach" "Least.reach" (defArgs s_Least_reach) (defBody s_Least_reach) (defScope s_Least_reach) .none kV12 dc12 pm12 an12 cd12 ct12), sl12⟩)
    (c12 : PySem.W.codeIn K cd12 "Least.reach" = true)
    (k12 : PySem.W.keepIn K (.ref q12) = true)
    (a13 : PySem.W.findIn K (.ref C_Least) "bad" = some (some (.ref q13)))
    (i13 : PySem.W.isFn K (.ref q13) = true)
    (l13 : K.lookup q13 = some ⟨oc13, od13, .func (PySem.W.fnOf "bad" "Least.bad" (defArgs s_Least_bad) (defBody s_Least_bad) (defScope s_Least_bad) .none kV13 dc13 pm13 an13 cd13 ct13), sl13⟩)
    (c13 : PySem.W.codeIn K cd13 "Least.bad" = true)
    (k13 : PySem.W.keepIn K (.ref q13) = true)
    (a14 : PySem.W.findIn K (.ref C_Both) "__init__" = some (some (.ref q14)))
    (i14 : PySem.W.isFn K (.ref q14) = true)
    (l14 : K.lookup q14 = some ⟨oc14, od14, .func (PySem.W.fnOf "__init__" "Both.__init__" (defArgs s_Both_init) (defBody s_Both_init) (defScope s_Both_init) .none kV14 dc14 pm14 an14 cd14 ct14), sl14⟩)
    (c14 : PySem.W.codeIn K cd14 "Both.__init__" = true)
    (k14 : PySem.W.keepIn K (.ref q14) = true)
    (a15 : PySem.W.findIn K (.ref C_Either) "__init__" = some (some (.ref q15)))
    (i15 : PySem.W.isFn K (.ref q15) = true)
    (l15 : K.lookup q15 = some ⟨oc15, od15, .func (PySem.W.fnOf "__init__" "Either.__init__" (defArgs s_Either_init) (defBody s_Either_init) (defScope s_Either_init) .none kV15 dc15 pm15 an15 cd15 ct15), sl15⟩)
    (c15 : PySem.W.codeIn K cd15 "Either.__init__" = true)
    (k15 : PySem.W.keepIn K (.ref q15) = true)
    (a16 : PySem.W.findIn K (.ref C_Not) "__init__" = some (some (.ref q16)))
    (i16 : PySem.W.isFn K (.ref q16) = true)
    (l16 : K.lookup q16 = some ⟨oc16, od16, .func (PySem.W.fnOf "__init__" "Not.__init__" (defArgs s_Not_init) (defBody s_Not_init) (defScope s_Not_init) .none kV16 dc16 pm16 an16 cd16 ct16), sl16⟩)
    (c16 : PySem.W.codeIn K cd16 "Not.__init__" = true)
    (k16 : PySem.W.keepIn K (.ref q16) = true)
    (a17 : PySem.W.findIn K (.ref C_Both) "bad" = some (some (.ref q17)))
    (i17 : PySem.W.isFn K (.ref q17) = true)
    (l17 : K.lookup q17 = some ⟨oc17, od17, .func (PySem.W.fnOf "bad" "Both.bad" (defArgs s_Both_bad) (defBody s_Both_bad) (defScope s_Both_bad) .none kV17 dc17 pm17 an17 cd17 ct17), sl17⟩)
    (c17 : PySem.W.codeIn K cd17 "Both.bad" = true)
    (k17 : PySem.W.keepIn K (.ref q17) = true)
    (a18 : PySem.W.findIn K (.ref C_Either) "bad" = some (some (.ref q18)))
    (i18 : PySem.W.isFn K (.ref q18) = true)
    (l18 : K.lookup q18 = some ⟨oc18, od18, .func (PySem.W.fnOf "bad" "Either.bad" (defArgs s_Either_bad) (defBody s_Either_bad) (defScope s_Either_bad) .none kV18 dc18 pm18 an18 cd18 ct18), sl18⟩)
    (c18 : PySem.W.codeIn K cd18 "Either.bad" = true)
    (k18 : PySem.W.keepIn K (.ref q18) = true)
    (a19 : PySem.W.findIn K (.ref C_Not) "bad" = some (some (.ref q19)))
    (i19 : PySem.W.isFn K (.ref q19) = true)
    (l19 : K.lookup q19 = some ⟨oc19, od19, .func (PySem.W.fnOf "bad" "Not.bad" (defArgs s_Not_bad) (defBody s_Not_bad) (defScope s_Not_bad) .none kV19 dc19 pm19 an19 cd19 ct19), sl19⟩)
    (c19 : PySem.W.codeIn K cd19 "Not.bad" = true)
    (k19 : PySem.W.keepIn K (.ref q19) = true)
    (a20 : PySem.W.findIn K (.ref C_Both) "reach" = some (some (.ref q20)))
    (i20 : PySem.W.isFn K (.ref q20) = true)
    (l20 : K.lookup q20 = some ⟨oc20, od20, .func (PySem.W.fnOf "reach" "Both.reach" (defArgs s_Both_reach) (defBody s_Both_reach) (defScope s_Both_reach) .none kV20 dc20 pm20 an20 cd20 ct20), sl20⟩)
    (c20 : PySem.W.codeIn K cd20 "Both.reach" = true)
    (k20 : PySem.W.keepIn K (.ref q20) = true)
    (a21 : PySem.W.findIn K (.ref C_Either) "reach" = some (some (.ref q21)))
    (i21 : PySem.W.isFn K (.ref q21) = true)
    (l21 : K.lookup q21 = some ⟨oc21, od21, .func (PySem.W.fnOf "reach" "Either.reach" (defArgs s_Either_reach) (defBody s_Either_reach) (defScope s_Either_reach) .none kV21 dc21 pm21 an21 cd21 ct21), sl21⟩)
    (c21 : PySem.W.codeIn K cd21 "Either.reach" = true)
    (k21 : PySem.W.keepIn K (.ref q21) = true)
    (a22 : PySem.W.findIn K (.ref C_Not) "reach" = some (some (.ref q22)))
    (i22 : PySem.W.isFn K (.ref q22) = true)
    (l22 : K.lookup q22 = some ⟨oc22, od22, .func (PySem.W.fnOf "reach" "Not.reach" (defArgs s_Not_reach) (defBody s_Not_reach) (defScope s_Not_reach) .none kV22 dc22 pm22 an22 cd22 ct22), sl22⟩)
    (c22 : PySem.W.codeIn K cd22 "Not.reach" = true)
    (k22 : PySem.W.keepIn K (.ref q22) = true)
    (a23 : PySem.W.nsIn K mainGlobals "_law_cell_at" = some (some (.ref q23)))
    (l23 : K.lookup q23 = some ⟨oc23, od23, .func (PySem.W.fnOf "_law_cell_at" "_law_cell_at" (defArgs s_law_cell_at) (defBody s_law_cell_at) (defScope s_law_cell_at) .none kV23 dc23 pm23 an23 cd23 ct23), sl23⟩)
    (c23 : PySem.W.codeIn K cd23 "_law_cell_at" = true)
    (k23 : PySem.W.keepIn K (.ref q23) = true)
    (a24 : PySem.W.nsIn K mainGlobals "longer_rows" = some (some (.ref q24)))
    (l24 : K.lookup q24 = some ⟨oc24, od24, .func (PySem.W.fnOf "longer_rows" "longer_rows" (defArgs s_longer_rows) (defBody s_longer_rows) (defScope s_longer_rows) .none kV24 dc24 pm24 an24 cd24 ct24), sl24⟩)
    (c24 : PySem.W.codeIn K cd24 "longer_rows" = true)
    (k24 : PySem.W.keepIn K (.ref q24) = true)
    (a25 : PySem.W.nsIn K mainGlobals "rows_of_new_tails" = some (some (.ref q25)))
    (l25 : K.lookup q25 = some ⟨oc25, od25, .func (PySem.W.fnOf "rows_of_new_tails" "rows_of_new_tails" (defArgs s_rows_of_new_tails) (defBody s_rows_of_new_tails) (defScope s_rows_of_new_tails) .none kV25 dc25 pm25 an25 cd25 ct25), sl25⟩)
    (c25 : PySem.W.codeIn K cd25 "rows_of_new_tails" = true)
    (k25 : PySem.W.keepIn K (.ref q25) = true)
    (a26 : PySem.W.nsIn K mainGlobals "alike" = some (some (.ref q26)))
    (l26 : K.lookup q26 = some ⟨oc26, od26, .func (PySem.W.fnOf "alike" "alike" (defArgs s_alike) (defBody s_alike) (defScope s_alike) .none kV26 dc26 pm26 an26 cd26 ct26), sl26⟩)
    (c26 : PySem.W.codeIn K cd26 "alike" = true)
    (k26 : PySem.W.keepIn K (.ref q26) = true)
    (a27 : PySem.W.nsIn K mainGlobals "_law_marks" = some (some (.ref q27)))
    (l27 : K.lookup q27 = some ⟨oc27, od27, .func (PySem.W.fnOf "_law_marks" "_law_marks" (defArgs s_law_marks) (defBody s_law_marks) (defScope s_law_marks) .none kV27 dc27 pm27 an27 cd27 ct27), sl27⟩)
    (c27 : PySem.W.codeIn K cd27 "_law_marks" = true)
    (k27 : PySem.W.keepIn K (.ref q27) = true)
    (a28 : PySem.W.nsIn K mainGlobals "_law_plain" = some (some (.ref q28)))
    (l28 : K.lookup q28 = some ⟨oc28, od28, .func (PySem.W.fnOf "_law_plain" "_law_plain" (defArgs s_law_plain) (defBody s_law_plain) (defScope s_law_plain) .none kV28 dc28 pm28 an28 cd28 ct28), sl28⟩)
    (c28 : PySem.W.codeIn K cd28 "_law_plain" = true)
    (k28 : PySem.W.keepIn K (.ref q28) = true)
    (a29 : PySem.W.nsIn K mainGlobals "_law_rule" = some (some (.ref q29)))
    (l29 : K.lookup q29 = some ⟨oc29, od29, .func (PySem.W.fnOf "_law_rule" "_law_rule" (defArgs s_law_rule) (defBody s_law_rule) (defScope s_law_rule) .none kV29 dc29 pm29 an29 cd29 ct29), sl29⟩)
    (c29 : PySem.W.codeIn K cd29 "_law_rule" = true)
    (k29 : PySem.W.keepIn K (.ref q29) = true)
    (a30 : PySem.W.nsIn K mainGlobals "_law_after" = some (some (.ref q30)))
    (l30 : K.lookup q30 = some ⟨oc30, od30, .func (PySem.W.fnOf "_law_after" "_law_after" (defArgs s_law_after) (defBody s_law_after) (defScope s_law_after) .none kV30 dc30 pm30 an30 cd30 ct30), sl30⟩)
    (c30 : PySem.W.codeIn K cd30 "_law_after" = true)
    (k30 : PySem.W.keepIn K (.ref q30) = true)
    (a31 : PySem.W.nsIn K mainGlobals "_law_chain" = some (some (.ref q31)))
    (l31 : K.lookup q31 = some ⟨oc31, od31, .func (PySem.W.fnOf "_law_chain" "_law_chain" (defArgs s_law_chain) (defBody s_law_chain) (defScope s_law_chain) .none kV31 dc31 pm31 an31 cd31 ct31), sl31⟩)
    (c31 : PySem.W.codeIn K cd31 "_law_chain" = true)
    (k31 : PySem.W.keepIn K (.ref q31) = true)
    (a32 : PySem.W.nsIn K mainGlobals "_law_days_till_parted" = some (some (.ref q32)))
    (l32 : K.lookup q32 = some ⟨oc32, od32, .func (PySem.W.fnOf "_law_days_till_parted" "_law_days_till_parted" (defArgs s_law_days_till_parted) (defBody s_law_days_till_parted) (defScope s_law_days_till_parted) .none kV32 dc32 pm32 an32 cd32 ct32), sl32⟩)
    (c32 : PySem.W.codeIn K cd32 "_law_days_till_parted" = true)
    (k32 : PySem.W.keepIn K (.ref q32) = true)
    (a33 : PySem.W.nsIn K mainGlobals "law" = some (some (.ref q33)))
    (l33 : K.lookup q33 = some ⟨oc33, od33, .func (PySem.W.fnOf "law" "law" (defArgs s_law) (defBody s_law) (defScope s_law) .none kV33 dc33 pm33 an33 cd33 ct33), sl33⟩)
    (c33 : PySem.W.codeIn K cd33 "law" = true)
    (k33 : PySem.W.keepIn K (.ref q33) = true)
    (pg_Never : PySem.W.plainGet K C_Never Str.empty = true)
    (hd_Never : PySem.W.hasDictIn K C_Never = true)
    (po_Never : PySem.W.plainOver K C_Never = true)
    (sa_Never : PySem.W.findIn K (.ref C_Never) "__setattr__" = some (some (.builtin "object.__setattr__")))
    (mk_Never : PySem.W.makesIn K C_Never = true)
    (kc_Never : PySem.W.keepIn K (.ref C_Never) = true)
    (pg_Most : PySem.W.plainGet K C_Most Str.empty = true)
    (hd_Most : PySem.W.hasDictIn K C_Most = true)
    (po_Most : PySem.W.plainOver K C_Most = true)
    (sa_Most : PySem.W.findIn K (.ref C_Most) "__setattr__" = some (some (.builtin "object.__setattr__")))
    (mk_Most : PySem.W.makesIn K C_Most = true)
    (kc_Most : PySem.W.keepIn K (.ref C_Most) = true)
    (pg_Least : PySem.W.plainGet K C_Least Str.empty = true)
    (hd_Least : PySem.W.hasDictIn K C_Least = true)
    (po_Least : PySem.W.plainOver K C_Least = true)
    (sa_Least : PySem.W.findIn K (.ref C_Least) "__setattr__" = some (some (.builtin "object.__setattr__")))
    (mk_Least : PySem.W.makesIn K C_Least = true)
    (kc_Least : PySem.W.keepIn K (.ref C_Least) = true)
    (pg_Both : PySem.W.plainGet K C_Both Str.empty = true)
    (hd_Both : PySem.W.hasDictIn K C_Both = true)
    (po_Both : PySem.W.plainOver K C_Both = true)
    (sa_Both : PySem.W.findIn K (.ref C_Both) "__setattr__" = some (some (.builtin "object.__setattr__")))
    (mk_Both : PySem.W.makesIn K C_Both = true)
    (kc_Both : PySem.W.keepIn K (.ref C_Both) = true)
    (pg_Either : PySem.W.plainGet K C_Either Str.empty = true)
    (hd_Either : PySem.W.hasDictIn K C_Either = true)
    (po_Either : PySem.W.plainOver K C_Either = true)
    (sa_Either : PySem.W.findIn K (.ref C_Either) "__setattr__" = some (some (.builtin "object.__setattr__")))
    (mk_Either : PySem.W.makesIn K C_Either = true)
    (kc_Either : PySem.W.keepIn K (.ref C_Either) = true)
    (pg_Not : PySem.W.plainGet K C_Not Str.empty = true)
    (hd_Not : PySem.W.hasDictIn K C_Not = true)
    (po_Not : PySem.W.plainOver K C_Not = true)
    (sa_Not : PySem.W.findIn K (.ref C_Not) "__setattr__" = some (some (.builtin "object.__setattr__")))
    (mk_Not : PySem.W.makesIn K C_Not = true)
    (kc_Not : PySem.W.keepIn K (.ref C_Not) = true)
    (n_Never_word : PySem.W.findIn K (.ref C_Never) "word" = some none)
    (n_Most_many : PySem.W.findIn K (.ref C_Most) "many" = some none)
    (n_Most_marks : PySem.W.findIn K (.ref C_Most) "marks" = some none)
    (n_Most_days : PySem.W.findIn K (.ref C_Most) "days" = some none)
    (n_Least_many : PySem.W.findIn K (.ref C_Least) "many" = some none)
    (n_Least_marks : PySem.W.findIn K (.ref C_Least) "marks" = some none)
    (n_Least_days : PySem.W.findIn K (.ref C_Least) "days" = some none)
    (n_Both_left : PySem.W.findIn K (.ref C_Both) "left" = some none)
    (n_Both_right : PySem.W.findIn K (.ref C_Both) "right" = some none)
    (n_Either_left : PySem.W.findIn K (.ref C_Either) "left" = some none)
    (n_Either_right : PySem.W.findIn K (.ref C_Either) "right" = some none)
    (n_Not_inner : PySem.W.findIn K (.ref C_Not) "inner" = some none)
    (z_all : PySem.W.nsIn K mainGlobals "all" = some none)
    (z_any : PySem.W.nsIn K mainGlobals "any" = some none)
    (z_isinstance : PySem.W.nsIn K mainGlobals "isinstance" = some none)
    (z_len : PySem.W.nsIn K mainGlobals "len" = some none)
    (z_max : PySem.W.nsIn K mainGlobals "max" = some none)
    (z_range : PySem.W.nsIn K mainGlobals "range" = some none)
    (z_sorted : PySem.W.nsIn K mainGlobals "sorted" = some none)
    (z_str : PySem.W.nsIn K mainGlobals "str" = some none)
    (z_zip : PySem.W.nsIn K mainGlobals "zip" = some none)
    (k_MOST_TAILS : PySem.W.nsIn K mainGlobals "MOST_TAILS" = some (some (.int 400 tk_MOST_TAILS)))
    : ∃ fd : FuncData, (∀ (s : Shared) (v : Value), BindsTo s fd ⟨[v], []⟩ [("_law_script", v)]) ∧ ∀ base : Heap, K.In base → base.Ns mainGlobals mg → FnOk l.prog w K mg base CX0 40 fa fd ["_law_script"] (sp_law K) := by
  have e := hfa.symm.trans (PySem.W.mg_of X G a33)
  cases e
  have T : Tx K mg C_Never C_Most C_Least C_Both C_Either C_Not := ⟨⟨_, _, fun_mk (st := s_fits) l1 c1 k1, PySem.W.mg_of X G a1⟩,
    ⟨_, _, fun_mk (st := s_last_marks) l2 c2 k2, PySem.W.mg_of X G a2⟩,
    ⟨_, _, fun_mk (st := s_let_by) l3 c3 k3, PySem.W.mg_of X G a3⟩,
    ⟨_, _, fun_mk (st := s_count_among) l4 c4 k4, PySem.W.mg_of X G a4⟩,
    ⟨_, _, fun_mk (st := s_Never_init) l5 c5 k5, ⟨a5, i5, k5⟩⟩,
    ⟨_, _, fun_mk (st := s_Never_reach) l6 c6 k6, ⟨a6, i6, k6⟩⟩,
    ⟨_, _, fun_mk (st := s_Never_bad) l7 c7 k7, ⟨a7, i7, k7⟩⟩,
    ⟨_, _, fun_mk (st := s_Most_init) l8 c8 k8, ⟨a8, i8, k8⟩⟩,
    ⟨_, _, fun_mk (st := s_Most_reach) l9 c9 k9, ⟨a9, i9, k9⟩⟩,
    ⟨_, _, fun_mk (st := s_Most_bad) l10 c10 k10, ⟨a10, i10, k10⟩⟩,
    ⟨_, _, fun_mk (st := s_Least_init) l11 c11 k11, ⟨a11, i11, k11⟩⟩,
    ⟨_, _, fun_mk (st := s_Least_reach) l12 c12 k12, ⟨a12, i12, k12⟩⟩,
    ⟨_, _, fun_mk (st := s_Least_bad) l13 c13 k13, ⟨a13, i13, k13⟩⟩,
    ⟨_, _, fun_mk (st := s_Both_init) l14 c14 k14, ⟨a14, i14, k14⟩⟩,
    ⟨_, _, fun_mk (st := s_Either_init) l15 c15 k15, ⟨a15, i15, k15⟩⟩,
    ⟨_, _, fun_mk (st := s_Not_init) l16 c16 k16, ⟨a16, i16, k16⟩⟩,
    ⟨_, _, fun_mk (st := s_Both_bad) l17 c17 k17, ⟨a17, i17, k17⟩⟩,
    ⟨_, _, fun_mk (st := s_Either_bad) l18 c18 k18, ⟨a18, i18, k18⟩⟩,
    ⟨_, _, fun_mk (st := s_Not_bad) l19 c19 k19, ⟨a19, i19, k19⟩⟩,
    ⟨_, _, fun_mk (st := s_Both_reach) l20 c20 k20, ⟨a20, i20, k20⟩⟩,
    ⟨_, _, fun_mk (st := s_Either_reach) l21 c21 k21, ⟨a21, i21, k21⟩⟩,
    ⟨_, _, fun_mk (st := s_Not_reach) l22 c22 k22, ⟨a22, i22, k22⟩⟩,
    ⟨_, _, fun_mk (st := s_law_cell_at) l23 c23 k23, PySem.W.mg_of X G a23⟩,
    ⟨_, _, fun_mk (st := s_longer_rows) l24 c24 k24, PySem.W.mg_of X G a24⟩,
    ⟨_, _, fun_mk (st := s_rows_of_new_tails) l25 c25 k25, PySem.W.mg_of X G a25⟩,
    ⟨_, _, fun_mk (st := s_alike) l26 c26 k26, PySem.W.mg_of X G a26⟩,
    ⟨_, _, fun_mk (st := s_law_marks) l27 c27 k27, PySem.W.mg_of X G a27⟩,
    ⟨_, _, fun_mk (st := s_law_plain) l28 c28 k28, PySem.W.mg_of X G a28⟩,
    ⟨_, _, fun_mk (st := s_law_rule) l29 c29 k29, PySem.W.mg_of X G a29⟩,
    ⟨_, _, fun_mk (st := s_law_after) l30 c30 k30, PySem.W.mg_of X G a30⟩,
    ⟨_, _, fun_mk (st := s_law_chain) l31 c31 k31, PySem.W.mg_of X G a31⟩,
    ⟨_, _, fun_mk (st := s_law_days_till_parted) l32 c32 k32, PySem.W.mg_of X G a32⟩,
    ⟨_, _, fun_mk (st := s_law) l33 c33 k33, PySem.W.mg_of X G a33⟩,
    ⟨⟨pg_Never, hd_Never, po_Never, sa_Never⟩, PySem.W.mg_of X G g_Never, mk_Never, kc_Never⟩,
    ⟨⟨pg_Most, hd_Most, po_Most, sa_Most⟩, PySem.W.mg_of X G g_Most, mk_Most, kc_Most⟩,
    ⟨⟨pg_Least, hd_Least, po_Least, sa_Least⟩, PySem.W.mg_of X G g_Least, mk_Least, kc_Least⟩,
    ⟨⟨pg_Both, hd_Both, po_Both, sa_Both⟩, PySem.W.mg_of X G g_Both, mk_Both, kc_Both⟩,
    ⟨⟨pg_Either, hd_Either, po_Either, sa_Either⟩, PySem.W.mg_of X G g_Either, mk_Either, kc_Either⟩,
    ⟨⟨pg_Not, hd_Not, po_Not, sa_Not⟩, PySem.W.mg_of X G g_Not, mk_Not, kc_Not⟩,
    n_Never_word,
    n_Most_many,
    n_Most_marks,
    n_Most_days,
    n_Least_many,
    n_Least_marks,
    n_Least_days,
    n_Both_left,
    n_Both_right,
    n_Either_left,
    n_Either_right,
    n_Not_inner,
    PySem.W.mg_none_of X G z_all,
    PySem.W.mg_none_of X G z_any,
    PySem.W.mg_none_of X G z_isinstance,
    PySem.W.mg_none_of X G z_len,
    PySem.W.mg_none_of X G z_max,
    PySem.W.mg_none_of X G z_range,
    PySem.W.mg_none_of X G z_sorted,
    PySem.W.mg_none_of X G z_str,
    PySem.W.mg_none_of X G z_zip,
    ⟨_, PySem.W.mg_of X G k_MOST_TAILS⟩⟩
  refine ⟨PySem.W.fnOf "law" "law" (defArgs s_law) (defBody s_law) (defScope s_law) .none kV33 dc33 pm33 an33 cd33 ct33, fun s v => .of_eq rfl, fun base _ _ => ?_⟩
  exact law_ok T (fun_mk (st := s_law) l33 c33 k33)
theorem walk {l : PySem.W.OpenLaw} {q : Program} {loose : List Str} {XP : (Str → Option Value) → Heap → Prop} {YP : World → Heap → Prop} {d : DefRec} {K : Params → PySem.W.Frag} (hn : l.most = some 63) (hdf : d.params.defaults = [])
    (hY : ∀ (w : World) (h : Heap), YP w h → (K w.params).In h)
    (F : ∀ (w : World) (mg : Str → Option Value) (fa : Addr) (h : Heap), (K w.params).In h → h.Ns mainGlobals mg → mg d.name = some (.ref fa) →
      ∃ fd : FuncData, (∀ (s : Shared) (u : Value), BindsTo s fd ⟨[u], []⟩ [("_law_script", u)]) ∧ ∀ base : Heap, (K w.params).In base → base.Ns mainGlobals mg → FnOk l.prog w (K w.params) mg base CX0 40 fa fd ["_law_script"] (sp_law (K w.params))) :
    PySem.W.WalkO q loose XP YP l.row.toRowW d [] (fun f vs => PySem.call f vs) :=
  L2.walk_of (n := 63) (k := 40) (x := "_law_script") (CX := fun _ => CX0) (sp := fun w => sp_law (K w.params)) hn (by decide) hdf ⟨rfl, by decide, by decide⟩ hY F (fun _ _ a ns hl _ hS => ⟨a, ns, rfl, hS, hl, fun _ => rfl⟩) fun _ _ _ _ _ z => z
theorem walkX {q : Program} {loose : List Str} {XP : (Str → Option Value) → Heap → Prop} {K : Params → PySem.W.Frag} {as : List Addr} {n t : Nat} {r : PySem.W.RowW} {d : DefRec} {kwd : List (Str × Expr)} {run : Value → List Value → Sem Value} (e : ∀ P, as = (K P).map (·.1))
    (h : PySem.W.WalkO q loose XP (fun w hp => (K w.params).In hp) r d kwd run) : PySem.W.WalkX q loose XP (PySem.W.X.obsZ as) (PySem.W.X.valZ K n t) r d kwd run := by
  intro w s₀ s₁ mg mb G Y a o pm cd doc dV kV h1 h2 h3 h4 h5 h6 args vals as' L p1 p2 p3 p4 p5
  exact h w s₀ s₁ mg mb G (PySem.W.InK.keeps w _ _ (PySem.W.X.z_facts e Y).2.1 L.keeps) a o pm cd doc dV kV h1 h2 h3 h4 h5 h6 args vals as' p1 p2 p3 p4 p5
end K12
def PySem.W.Fast.tw5597702128341290774 : Unit := ()
def PySem.W.Fast.tw11218332932060202573 : Unit := ()
def PySem.W.Fast.tw9844032655759863711 : Unit := ()
def PySem.W.Fast.tw4004189994765949801 : Unit := ()
def PySem.W.Fast.tw7157581968685311025 : Unit := ()
def PySem.W.Fast.tw2163958434828819633 : Unit := ()
def PySem.W.Fast.tw15302802387734678476 : Unit := ()
def PySem.W.Fast.tw8007104287944091566 : Unit := ()
def PySem.W.Fast.tw11561268425176924754 : Unit := ()
def PySem.W.Fast.tw115598726474323157 : Unit := ()
def PySem.W.Fast.tw12621354428268552006 : Unit := ()
def PySem.W.Fast.tw7692933752446124269 : Unit := ()
def PySem.W.Fast.tw2873572752787050184 : Unit := ()
def PySem.W.Fast.tw10076310596227666814 : Unit := ()
def PySem.W.Fast.tw13269466738278904791 : Unit := ()
def PySem.W.Fast.tw6951397315826910766 : Unit := ()
def PySem.W.Fast.tw10660065964213670902 : Unit := ()
def PySem.W.Fast.tw3804502274188340487 : Unit := ()
def PySem.W.Fast.tw2242975072499547095 : Unit := ()
def PySem.W.Fast.tw15921500605646363038 : Unit := ()
def PySem.W.Fast.tw4488725361905742385 : Unit := ()
def PySem.W.Fast.tw8602460912869680533 : Unit := ()
def PySem.W.Fast.tw7708804673033592763 : Unit := ()
def PySem.W.Fast.tw11339277676504624112 : Unit := ()
def PySem.W.Fast.tw6349194543331321070 : Unit := ()
def PySem.W.Fast.tw14684410414355306503 : Unit := ()
def PySem.W.Fast.tw1215823277432441801 : Unit := ()
def PySem.W.Fast.tw5313840217355064505 : Unit := ()
def PySem.W.Fast.tw5372088953631674416 : Unit := ()
def PySem.W.Fast.tw4902769376133173688 : Unit := ()
def PySem.W.Fast.tw18167904919121069809 : Unit := ()
def PySem.W.Fast.tw6687556754339037938 : Unit := ()
def PySem.W.Fast.tw12776715337650066646 : Unit := ()
def PySem.W.Fast.tw16164018950343660816 : Unit := ()
def PySem.W.Fast.tw12585608811818997788 : Unit := ()
def PySem.W.Fast.tw10564735896197747304 : Unit := ()
def PySem.W.Fast.tw9655801275282524179 : Unit := ()
def PySem.W.Fast.tw4590096456292406279 : Unit := ()
def PySem.W.Fast.tw14429372508177774857 : Unit := ()
def PySem.W.Fast.tw10365091249299265194 : Unit := ()
def PySem.W.Fast.tw5458410862758425584 : Unit := ()
def PySem.W.Fast.tw14966017470665833337 : Unit := ()
def PySem.W.Fast.tw5778186482011861520 : Unit := ()
def PySem.W.Fast.tw11446911519669729893 : Unit := ()
def PySem.W.Fast.tw17519131235407678228 : Unit := ()
def PySem.W.Fast.tw1366733814525547223 : Unit := ()
def PySem.W.Fast.tw12282768983563367611 : Unit := ()
def PySem.W.Fast.tw16127727456548198799 : Unit := ()
def PySem.W.Fast.tw7896841073065536286 : Unit := ()
def PySem.W.Fast.tw5578072674908638669 : Unit := ()
def PySem.W.Fast.tw5742988996003710238 : Unit := ()
def PySem.W.Fast.tw8732607096275776524 : Unit := ()
def PySem.W.Fast.tw17647641010275998194 : Unit := ()
def PySem.W.Fast.tw15286561231451898663 : Unit := ()
def PySem.W.Fast.tw16477554788402931139 : Unit := ()
def PySem.W.Fast.tw5687774919759149325 : Unit := ()
def PySem.W.Fast.tw16839728826226550121 : Unit := ()
def PySem.W.Fast.tw9713712391603006650 : Unit := ()
def PySem.W.Fast.tw16216847379032924882 : Unit := ()
def PySem.W.Fast.tw3810767113105676632 : Unit := ()
def PySem.W.Fast.tw4370937525271776913 : Unit := ()
def PySem.W.Fast.tw7738413099902893756 : Unit := ()
def PySem.W.Fast.tw11607850796394967266 : Unit := ()
def PySem.W.Fast.tw1496840320307600884 : Unit := ()
def PySem.W.Fast.tw7319993371456005316 : Unit := ()
def PySem.W.Fast.tw7538562695529233267 : Unit := ()
def PySem.W.Fast.tw4016307593232266757 : Unit := ()
def PySem.W.Fast.tw16415698801755827890 : Unit := ()
def PySem.W.Fast.tw11009056760188478055 : Unit := ()
def PySem.W.Fast.tw3867569113888283568 : Unit := ()
def PySem.W.Fast.tw6448652941522203410 : Unit := ()
def PySem.W.Fast.tw946694158356196208 : Unit := ()
def PySem.W.Fast.tw8206568610035982651 : Unit := ()
def PySem.W.Fast.tw10367595130934695910 : Unit := ()
def PySem.W.Fast.tw17560915734409581853 : Unit := ()
def PySem.W.Fast.tw3378830268661584435 : Unit := ()
def PySem.W.Fast.tw17099503475880743621 : Unit := ()
def PySem.W.Fast.tw2282904860162088672 : Unit := ()
def PySem.W.Fast.tw9137463772228858359 : Unit := ()
def PySem.W.Fast.tw15641453585473720122 : Unit := ()
def PySem.W.Fast.tw17046738807024781673 : Unit := ()
def PySem.W.Fast.tw2070344648884826363 : Unit := ()
def PySem.W.Fast.tw9668821211042501520 : Unit := ()
def PySem.W.Fast.tw8545101262206055836 : Unit := ()
def PySem.W.Fast.tw9140345416993628179 : Unit := ()
def PySem.W.Fast.tw16864865545785869013 : Unit := ()
def PySem.W.Fast.tw2780467348930290529 : Unit := ()
def PySem.W.Fast.tw7697107032777802012 : Unit := ()
def PySem.W.Fast.tw13597748712367307256 : Unit := ()
def PySem.W.Fast.tw2759940925980584214 : Unit := ()
def PySem.W.Fast.tw13942105054356900797 : Unit := ()
def PySem.W.Fast.tw13830069962634240160 : Unit := ()
def PySem.W.Fast.tw17989906187161792417 : Unit := ()
def PySem.W.Fast.tw3812998489353778503 : Unit := ()
def PySem.W.Fast.tw12654469232288763582 : Unit := ()
def PySem.W.Fast.tw12501043903371228571 : Unit := ()
def PySem.W.Fast.tw14263322946578790488 : Unit := ()
def PySem.W.Fast.tw7177770459230361807 : Unit := ()
def PySem.W.Fast.tw14560667132787039843 : Unit := ()
def PySem.W.Fast.tw16976667061596492584 : Unit := ()
def PySem.W.Fast.tw6236166916772316932 : Unit := ()
def PySem.W.Fast.tw15152931603409848263 : Unit := ()
def PySem.W.Fast.tw7449181400685206773 : Unit := ()
def PySem.W.Fast.tw2556046208342889009 : Unit := ()
def PySem.W.Fast.tw5055135484843115133 : Unit := ()
def PySem.W.Fast.tw2718186311240388407 : Unit := ()
def PySem.W.Fast.tw11154504929263174926 : Unit := ()
def PySem.W.Fast.tw15801139025187805071 : Unit := ()
def PySem.W.Fast.tw5782832925839524568 : Unit := ()
def PySem.W.Fast.tw8182051765691588042 : Unit := ()
def PySem.W.Fast.tw17601547653424214883 : Unit := ()
def PySem.W.Fast.tw16920692225872005883 : Unit := ()
def PySem.W.Fast.tw15758340192542884174 : Unit := ()
def PySem.W.Fast.tw14563677353553150184 : Unit := ()
def PySem.W.Fast.tw7174022201926687334 : Unit := ()
def PySem.W.Fast.tw8641227912984345274 : Unit := ()
def PySem.W.Fast.tw9423166600892939559 : Unit := ()
def PySem.W.Fast.tw17133929564497952328 : Unit := ()
def PySem.W.Fast.tw3660796148114272922 : Unit := ()
def PySem.W.Fast.tw2591104890246452758 : Unit := ()
def PySem.W.Fast.tw55803490825624315 : Unit := ()
def PySem.W.Fast.tw920295043130191902 : Unit := ()
def PySem.W.Fast.tw559634370725983547 : Unit := ()
def PySem.W.Fast.tw17018081257766386342 : Unit := ()
def PySem.W.Fast.tw15126673119764562765 : Unit := ()
def PySem.W.Fast.tw17603031468938974530 : Unit := ()
def PySem.W.Fast.tw16066490796815808218 : Unit := ()
def PySem.W.Fast.tw1799019104649778754 : Unit := ()
def PySem.W.Fast.tw5144955202120829877 : Unit := ()
def PySem.W.Fast.tw595820897049031067 : Unit := ()
def PySem.W.Fast.tw8163802761250159159 : Unit := ()
def PySem.W.Fast.tw4491502944604771176 : Unit := ()
def PySem.W.Fast.tw7948375169566983677 : Unit := ()
def PySem.W.Fast.tw2518590339124535029 : Unit := ()
def PySem.W.Fast.tw10155502550768753874 : Unit := ()
def PySem.W.Fast.tw2393856400622197581 : Unit := ()
def PySem.W.Fast.tw15120554754636165017 : Unit := ()
def PySem.W.Fast.tw2153474486010550784 : Unit := ()
def PySem.W.Fast.tw16398278113410879970 : Unit := ()
def PySem.W.Fast.tw17660676233409908232 : Unit := ()
def PySem.W.Fast.tw4191698064520494667 : Unit := ()
def PySem.W.Fast.tw3360954648612042289 : Unit := ()
def PySem.W.Fast.tw11044521416989052021 : Unit := ()
def PySem.W.Fast.tw5168553047385989388 : Unit := ()
def PySem.W.Fast.tw736045581325098499 : Unit := ()
def PySem.W.Fast.tw3569206669956277913 : Unit := ()
def PySem.W.Fast.tw4195896166534082627 : Unit := ()
def PySem.W.Fast.tw9470665334838080726 : Unit := ()
def PySem.W.Fast.tw3182015605844324874 : Unit := ()
def PySem.W.Fast.tw4488653085660187377 : Unit := ()
def PySem.W.Fast.tw6527904289624679132 : Unit := ()
def PySem.W.Fast.tw13160769183296073663 : Unit := ()
def PySem.W.Fast.tw2004340737299896099 : Unit := ()
def PySem.W.Fast.tw15060706992061458467 : Unit := ()
def PySem.W.Fast.tw1295682232975839751 : Unit := ()
def PySem.W.Fast.tw2500616827998200944 : Unit := ()
def PySem.W.Fast.tw3238113622329589828 : Unit := ()
def PySem.W.Fast.tw1362551176228976317 : Unit := ()
def PySem.W.Fast.tw6660753460630572134 : Unit := ()
def PySem.W.Fast.tw2262515122923696404 : Unit := ()
def PySem.W.Fast.tw2044800500235227403 : Unit := ()
def PySem.W.Fast.tw11060960144547403502 : Unit := ()
def PySem.W.Fast.tw17472304147599924676 : Unit := ()
def PySem.W.Fast.tw12638700241150283146 : Unit := ()
def PySem.W.Fast.tw509564654433597961 : Unit := ()
def PySem.W.Fast.tw14159494270310526048 : Unit := ()
def PySem.W.Fast.tw9957055374509133978 : Unit := ()
def PySem.W.Fast.tw11345369859206018630 : Unit := ()
def PySem.W.Fast.tw3914247063165199866 : Unit := ()
def PySem.W.Fast.tw5856361197330592882 : Unit := ()
def PySem.W.Fast.tw12889609717619897234 : Unit := ()
def PySem.W.Fast.tw9098153733731785124 : Unit := ()
def PySem.W.Fast.tw17218036967296919905 : Unit := ()
def PySem.W.Fast.tw14896023902723564597 : Unit := ()
def PySem.W.Fast.tw13359399608326745218 : Unit := ()
def PySem.W.Fast.tw9943068183899584372 : Unit := ()
def PySem.W.Fast.tw14798163523044775297 : Unit := ()
def PySem.W.Fast.tw9248414900172633924 : Unit := ()
def PySem.W.Fast.tw15223226931334551779 : Unit := ()
def PySem.W.Fast.tw2765388769256467269 : Unit := ()
def PySem.W.Fast.tw13592829578476043888 : Unit := ()
def PySem.W.Fast.tw11040956210309503392 : Unit := ()
def PySem.W.Fast.tw15447552416082447979 : Unit := ()
def PySem.W.Fast.tw543825347251097906 : Unit := ()
def PySem.W.Fast.tw15959769798847664319 : Unit := ()
def PySem.W.Fast.tw11059776040988077654 : Unit := ()
def PySem.W.Fast.tw8108719344087433323 : Unit := ()
def PySem.W.Fast.tw13516214370894130934 : Unit := ()
def PySem.W.Fast.tw4685422889545400636 : Unit := ()
def PySem.W.Fast.tw12853937302180408061 : Unit := ()
def PySem.W.Fast.tw9387093352894329184 : Unit := ()
def PySem.W.Fast.tw9510560570813325691 : Unit := ()
def PySem.W.Fast.tw4988339018482019473 : Unit := ()
def PySem.W.Fast.tw12840142571566911985 : Unit := ()
def PySem.W.Fast.tw9665703355696889960 : Unit := ()
def PySem.W.Fast.tw15730821267443803687 : Unit := ()
def PySem.W.Fast.tw14041674830708440693 : Unit := ()
def PySem.W.Fast.tw2743763802683955461 : Unit := ()
def PySem.W.Fast.tw15742790543169347222 : Unit := ()
def PySem.W.Fast.tw17112648275062659303 : Unit := ()
def PySem.W.Fast.tw3262661475983146314 : Unit := ()
def PySem.W.Fast.tw3358662027774720635 : Unit := ()
def PySem.W.Fast.tw736029336540391985 : Unit := ()
def PySem.W.Fast.tw1869834533813013260 : Unit := ()
def PySem.W.Fast.tw7104701632474580641 : Unit := ()
def PySem.W.Fast.tw10303068365428238845 : Unit := ()
def PySem.W.Fast.tw3982193755261676531 : Unit := ()
def PySem.W.Fast.tw16250285876732242570 : Unit := ()
def PySem.W.Fast.tw8521553801002545655 : Unit := ()
def PySem.W.Fast.tw9368481884684367327 : Unit := ()
def PySem.W.Fast.tw11326514252661328548 : Unit := ()
def PySem.W.Fast.tw2539880378795331320 : Unit := ()
def PySem.W.Fast.tw16914718865382325800 : Unit := ()
def PySem.W.Fast.tw7131833705077246406 : Unit := ()
def PySem.W.Fast.tw503861439149859985 : Unit := ()
def PySem.W.Fast.tw18439756666492400114 : Unit := ()
def PySem.W.Fast.tw5962899638919700506 : Unit := ()
def PySem.W.Fast.tw17706385850408846692 : Unit := ()
def PySem.W.Fast.tw6613181471887504225 : Unit := ()
def PySem.W.Fast.tw8299211998472778478 : Unit := ()
def PySem.W.Fast.tw6429403666780321895 : Unit := ()
def PySem.W.Fast.tw16505071933498452904 : Unit := ()
def PySem.W.Fast.tw8534691715857901543 : Unit := ()
def PySem.W.Fast.tw774484404067343736 : Unit := ()
def PySem.W.Fast.tw5062902678078695703 : Unit := ()
def PySem.W.Fast.tw13206716748486281083 : Unit := ()
def PySem.W.Fast.tw5817694966871875454 : Unit := ()
def PySem.W.Fast.tw2980621731947316595 : Unit := ()
def PySem.W.Fast.tw6580120842885354205 : Unit := ()
def PySem.W.Fast.tw10166716095579874138 : Unit := ()
def PySem.W.Fast.tw2522632394412541362 : Unit := ()
def PySem.W.Fast.tw5495402623033099605 : Unit := ()
def PySem.W.Fast.tw17923319988787588690 : Unit := ()
def PySem.W.Fast.tw13727780975535868976 : Unit := ()
def PySem.W.Fast.tw9489732473291542240 : Unit := ()
def PySem.W.Fast.tw13713215417514064596 : Unit := ()
def PySem.W.Fast.tw6877816268263915833 : Unit := ()
def PySem.W.Fast.tw18088847783482533599 : Unit := ()
def PySem.W.Fast.tw3861201063576059514 : Unit := ()
def PySem.W.Fast.tw970932795735686167 : Unit := ()
def PySem.W.Fast.tw7844623010124829306 : Unit := ()
def PySem.W.Fast.tw2036561071133192729 : Unit := ()
def PySem.W.Fast.tw10890676909598611009 : Unit := ()
def PySem.W.Fast.tw17826085604803490051 : Unit := ()
def PySem.W.Fast.tw9054396499193305100 : Unit := ()
def PySem.W.Fast.tw5187256042784874665 : Unit := ()
def PySem.W.Fast.tw11461722046908824347 : Unit := ()
def PySem.W.Fast.tw17533920512565406201 : Unit := ()
def PySem.W.Fast.tw16394019366547900329 : Unit := ()
def PySem.W.Fast.tw1521352683739921337 : Unit := ()
def PySem.W.Fast.tw14881909897543318434 : Unit := ()
def PySem.W.Fast.tw6004361426029191197 : Unit := ()
def PySem.W.Fast.tw12598657609281418765 : Unit := ()
def PySem.W.Fast.tw10782161095787526571 : Unit := ()
def PySem.W.Fast.tw6898186822503883076 : Unit := ()
def PySem.W.Fast.tw17169919587795246580 : Unit := ()
def PySem.W.Fast.tw10952753143234193007 : Unit := ()
def PySem.W.Fast.tw12580297133775574471 : Unit := ()
def PySem.W.Fast.tw11524132185845977593 : Unit := ()
def PySem.W.Fast.tw18173982036712282254 : Unit := ()
def PySem.W.Fast.tw809310157172180358 : Unit := ()
def PySem.W.Fast.tw3385362600450843056 : Unit := ()
def PySem.W.Fast.tw3482785220880787340 : Unit := ()
def PySem.W.Fast.tw7740644284101151234 : Unit := ()
def PySem.W.Fast.tw9681011855981138858 : Unit := ()
def PySem.W.Fast.tw4994096786496750481 : Unit := ()
def PySem.W.Fast.tw6525048854418418662 : Unit := ()
def PySem.W.Fast.tw5686577993322737751 : Unit := ()
def PySem.W.Fast.tw10624591579169936739 : Unit := ()
def PySem.W.Fast.tw6841712841779518200 : Unit := ()
def PySem.W.Fast.tw30362717125834176 : Unit := ()
def PySem.W.Fast.tw9023696900272796672 : Unit := ()
def PySem.W.Fast.tw7783127008942692822 : Unit := ()
def PySem.W.Fast.tw6235661892303680987 : Unit := ()
def PySem.W.Fast.tw16466329783085467093 : Unit := ()
def PySem.W.Fast.tw3962435412828484154 : Unit := ()
def PySem.W.Fast.tw4624915351068062574 : Unit := ()
def PySem.W.Fast.tw7744128763794186708 : Unit := ()
def PySem.W.Fast.tw12802748622491198559 : Unit := ()
def PySem.W.Fast.tw8878885008724425933 : Unit := ()
def PySem.W.Fast.tw4215294070997270318 : Unit := ()
def PySem.W.Fast.tw6181664578730971608 : Unit := ()
def PySem.W.Fast.tw14948374117452478463 : Unit := ()
def PySem.W.Fast.tw16995045120428970976 : Unit := ()
def PySem.W.Fast.tw16254975944954120839 : Unit := ()
def PySem.W.Fast.tw8593933215829969093 : Unit := ()
def PySem.W.Fast.tw1607886590788057169 : Unit := ()
def PySem.W.Fast.tw14001552945016010523 : Unit := ()
def PySem.W.Fast.tw2474325803723985823 : Unit := ()
def PySem.W.Fast.tw8177518749963470860 : Unit := ()
def PySem.W.Fast.tw10276993231125118615 : Unit := ()
def PySem.W.Fast.tw8018455109365081030 : Unit := ()
def PySem.W.Fast.tw9532313326739774184 : Unit := ()
def PySem.W.Fast.tw3677248405770713294 : Unit := ()
def PySem.W.Fast.tw5308112724652307620 : Unit := ()
def PySem.W.Fast.tw14685654235001738873 : Unit := ()
def PySem.W.Fast.tw1301618456129614893 : Unit := ()
def PySem.W.Fast.tw15097595061966656930 : Unit := ()
def PySem.W.Fast.tw4028783738661308264 : Unit := ()
def PySem.W.Fast.tw9211826644581495126 : Unit := ()
def PySem.W.Fast.tw13930036496704263719 : Unit := ()
def PySem.W.Fast.tw232993916099373728 : Unit := ()
def PySem.W.Fast.tw13666347609203783705 : Unit := ()
def PySem.W.Fast.tw5853784204110188313 : Unit := ()
def PySem.W.Fast.tw8668818538071644314 : Unit := ()
def PySem.W.Fast.tw17323001195735128773 : Unit := ()
def PySem.W.Fast.tw16557940030473077104 : Unit := ()
def PySem.W.Fast.tw4814938973207922960 : Unit := ()
def PySem.W.Fast.tw14130622368282313097 : Unit := ()
def PySem.W.Fast.tw785748267704481647 : Unit := ()
def PySem.W.Fast.tw13718937824420841093 : Unit := ()
def PySem.W.Fast.tw15821553959486807605 : Unit := ()
def PySem.W.Fast.tw969845118132563389 : Unit := ()
def PySem.W.Fast.tw6597080075087792606 : Unit := ()
def PySem.W.Fast.tw11156121534267065897 : Unit := ()
def PySem.W.Fast.tw14697149168943244433 : Unit := ()
def PySem.W.Fast.tw14314657399774984004 : Unit := ()
def PySem.W.Fast.tw3295274754399924747 : Unit := ()
def PySem.W.Fast.tw3153145439960384359 : Unit := ()
def PySem.W.Fast.tw8824528475402796931 : Unit := ()
def PySem.W.Fast.tw11432649730889491266 : Unit := ()
def PySem.W.Fast.tw14663447363632101817 : Unit := ()
def PySem.W.Fast.tw7761585158920584496 : Unit := ()
def PySem.W.Fast.tw6105223679060009659 : Unit := ()
def PySem.W.Fast.tw2992286737227250953 : Unit := ()
def PySem.W.Fast.tw8536191682793307432 : Unit := ()
def PySem.W.Fast.tw8733265456398423468 : Unit := ()
def PySem.W.Fast.tw3767044899934210476 : Unit := ()
def PySem.W.Fast.tw12881529063298987632 : Unit := ()
def PySem.W.Fast.tw17946022957757740422 : Unit := ()
def PySem.W.Fast.tw7132059143673507968 : Unit := ()
def PySem.W.Fast.tw17884017634750004989 : Unit := ()
def PySem.W.Fast.tw18058482433511107223 : Unit := ()
def PySem.W.Fast.tw16620150077225917678 : Unit := ()
def PySem.W.Fast.tw7720498972278527200 : Unit := ()
def PySem.W.Fast.tw17622895671414654887 : Unit := ()
def PySem.W.Fast.tw17725481039416610760 : Unit := ()
def PySem.W.Fast.tw13336074469138267858 : Unit := ()
def PySem.W.Fast.tw1586377353535233649 : Unit := ()
def PySem.W.Fast.tw4943514666011079765 : Unit := ()
def PySem.W.Fast.tw2667191568951594822 : Unit := ()
def PySem.W.Fast.tw14939026930068696839 : Unit := ()
def PySem.W.Fast.tw4717000583411180101 : Unit := ()
def PySem.W.Fast.tw526170658340393231 : Unit := ()
def PySem.W.Fast.tw11923662969746357629 : Unit := ()
def PySem.W.Fast.tw12628752398215060184 : Unit := ()
def PySem.W.Fast.tw7442548339702678447 : Unit := ()
def PySem.W.Fast.tw1980240217615866590 : Unit := ()
def PySem.W.Fast.tw5902047370137074385 : Unit := ()
def PySem.W.Fast.tw11463361840943066753 : Unit := ()
def PySem.W.Fast.tw11662692970432926897 : Unit := ()
def PySem.W.Fast.tw4742822139611853075 : Unit := ()
def PySem.W.Fast.tw4373481510885766557 : Unit := ()
def PySem.W.Fast.tw6972572446563898646 : Unit := ()
def PySem.W.Fast.tw2092838196335204909 : Unit := ()
def PySem.W.Fast.tw3150556143029722388 : Unit := ()
def PySem.W.Fast.tw4825601187748260007 : Unit := ()
def PySem.W.Fast.tw4546007447111092786 : Unit := ()
def PySem.W.Fast.tw18424721586112866101 : Unit := ()
def PySem.W.Fast.tw8110301556675166936 : Unit := ()
def PySem.W.Fast.tw10959477405235278625 : Unit := ()
def PySem.W.Fast.tw3981772782945167622 : Unit := ()
def PySem.W.Fast.tw6657524638987566559 : Unit := ()
def PySem.W.Fast.tw14097676468583108499 : Unit := ()
def PySem.W.Fast.tw3801291802892086711 : Unit := ()
def PySem.W.Fast.tw1477211347443144894 : Unit := ()
def PySem.W.Fast.tw15613935101641586164 : Unit := ()
def PySem.W.Fast.tw2313080720882418135 : Unit := ()
def PySem.W.Fast.tw12531418741871464436 : Unit := ()
def PySem.W.Fast.tw6696050550576588476 : Unit := ()
def PySem.W.Fast.tw16212026970909686242 : Unit := ()
def PySem.W.Fast.tw17373348708882271420 : Unit := ()
def PySem.W.Fast.tw17714120411220281144 : Unit := ()
def PySem.W.Fast.tw4000198543463075313 : Unit := ()
def PySem.W.Fast.tw4650373131175100460 : Unit := ()
def PySem.W.Fast.tw13245787470475870145 : Unit := ()
def PySem.W.Fast.tw14329540326687280956 : Unit := ()
def PySem.W.Fast.tw16664949050083751529 : Unit := ()
def PySem.W.Fast.tw6743273030137462455 : Unit := ()
def PySem.W.Fast.tw15103031826172563251 : Unit := ()
def PySem.W.Fast.tw11772685476023027123 : Unit := ()
def PySem.W.Fast.tw1244238372848249550 : Unit := ()
def PySem.W.Fast.tw507376174645364753 : Unit := ()
def PySem.W.Fast.tw15757325841382727950 : Unit := ()
def PySem.W.Fast.tw1826456942048376895 : Unit := ()
def PySem.W.Fast.tw17702445884976714514 : Unit := ()
def PySem.W.Fast.tw14549618788592294879 : Unit := ()
def PySem.W.Fast.tw9197140311180728229 : Unit := ()
def PySem.W.Fast.tw16528833283616865980 : Unit := ()
def PySem.W.Fast.tw364291585200426826 : Unit := ()
def PySem.W.Fast.tw314618103928762207 : Unit := ()
def PySem.W.Fast.tw9336390117069828940 : Unit := ()
def PySem.W.Fast.tw4039024627321228005 : Unit := ()
def PySem.W.Fast.tw13472301199056017223 : Unit := ()
def PySem.W.Fast.tw8323616693558812477 : Unit := ()
def PySem.W.Fast.tw14264789616133680197 : Unit := ()
def PySem.W.Fast.tw16922369108286023421 : Unit := ()
def PySem.W.Fast.tw8000699986646306155 : Unit := ()
def PySem.W.Fast.tw4254788700475665085 : Unit := ()
open PySem PySem.W PyProof.Rows
set_option maxRecDepth 100000 in
set_option maxHeartbeats 0 in
theorem PySem.Challenge.cw_rotafair_k12_whole_no_shorter_row_holds : PySem.Challenge.rw_rotafair_k12_whole_no_shorter_row.Holds := by
  w_on; o_law; z_head; (case hw => w_witness2)
  k_fill
  refine K12.walkX (fun _ => rfl) ?_
  refine K12.walk (l := PySem.Challenge.rw_rotafair_k12_whole_no_shorter_row) rfl rfl (fun w h Y => Y) ?F
  case F =>
    intro w mg fa h KX G hmg
    refine' K12.all_mk KX G hmg ?g_Never ?g_Most ?g_Least ?g_Both ?g_Either ?g_Not ?a1 ?l1 ?c1 ?k1 ?a2 ?l2 ?c2 ?k2 ?a3 ?l3 ?c3 ?k3 ?a4 ?l4 ?c4 ?k4 ?a5 ?i5 ?l5 ?c5 ?k5 ?a6 ?i6 ?l6 ?c6 ?k6 ?a7 ?i7 ?l7 ?c7 ?k7 ?a8 ?i8 ?l8 ?c8 ?k8 ?a9 ?i9 ?l9 ?c9 ?k9 ?a10 ?i10 ?l10 ?c10 ?k10 ?a11 ?i11 ?l11 ?c11 ?k11 ?a12 ?i12 ?l12 ?c12 ?k12 ?a13 ?i13 ?l13 ?c13 ?k13 ?a14 ?i14 ?l14 ?c14 ?k14 ?a15 ?i15 ?l15 ?c15 ?k15 ?a16 ?i16 ?l16 ?c16 ?k16 ?a17 ?i17 ?l17 ?c17 ?k17 ?a18 ?i18 ?l18 ?c18 ?k18 ?a19 ?i19 ?l19 ?c19 ?k19 ?a20 ?i20 ?l20 ?c20 ?k20 ?a21 ?i21 ?l21 ?c21 ?k21 ?a22 ?i22 ?l22 ?c22 ?k22 ?a23 ?l23 ?c23 ?k23 ?a24 ?l24 ?c24 ?k24 ?a25 ?l25 ?c25 ?k25 ?a26 ?l26 ?c26 ?k26 ?a27 ?l27 ?c27 ?k27 ?a28 ?l28 ?c28 ?k28 ?a29 ?l29 ?c29 ?k29 ?a30 ?l30 ?c30 ?k30 ?a31 ?l31 ?c31 ?k31 ?a32 ?l32 ?c32 ?k32 ?a33 ?l33 ?c33 ?k33 ?pg_Never ?hd_Never ?po_Never ?sa_Never ?mk_Never ?kc_Never ?pg_Most ?hd_Most ?po_Most ?sa_Most ?mk_Most ?kc_Most ?pg_Least ?hd_Least ?po_Least ?sa_Least ?mk_Least ?kc_Least ?pg_Both ?hd_Both ?po_Both ?sa_Both ?mk_Both ?kc_Both ?pg_Either ?hd_Either ?po_Either ?sa_Either ?mk_Either ?kc_Either ?pg_Not ?hd_Not ?po_Not ?sa_Not ?mk_Not ?kc_Not ?n_Never_word ?n_Most_many ?n_Most_marks ?n_Most_days ?n_Least_many ?n_Least_marks ?n_Least_days ?n_Both_left ?n_Both_right ?n_Either_left ?n_Either_right ?n_Not_inner ?z_all ?z_any ?z_isinstance ?z_len ?z_max ?z_range ?z_sorted ?z_str ?z_zip ?k_MOST_TAILS
    (case g_Never => k_is)
    (case g_Most => k_is)
    (case g_Least => k_is)
    (case g_Both => k_is)
    (case g_Either => k_is)
    (case g_Not => k_is)
    (case a1 => k_is)
    (case l1 => k_is)
    (case c1 => k_is)
    (case k1 => k_is)
    (case a2 => k_is)
    (case l2 => k_is)
    (case c2 => k_is)
    (case k2 => k_is)
    (case a3 => k_is)
    (case l3 => k_is)
    (case c3 => k_is)
    (case k3 => k_is)
    (case a4 => k_is)
    (case l4 => k_is)
    (case c4 => k_is)
    (case k4 => k_is)
    (case a5 => k_is)
    (case i5 => k_is)
    (case l5 => k_is)
    (case c5 => k_is)
    (case k5 => k_is)
    (case a6 => k_is)
    (case i6 => k_is)
    (case l6 => k_is)
    (case c6 => k_is)
    (case k6 => k_is)
    (case a7 => k_is)
    (case i7 => k_is)
    (case l7 => k_is)
    (case c7 => k_is)
    (case k7 => k_is)
    (case a8 => k_is)
    (case i8 => k_is)
    (case l8 => k_is)
    (case c8 => k_is)
    (case k8 => k_is)
    (case a9 => k_is)
    (case i9 => k_is)
    (case l9 => k_is)
    (case c9 => k_is)
    (case k9 => k_is)
    (case a10 => k_is)
    (case i10 => k_is)
    (case l10 => k_is)
    (case c10 => k_is)
    (case k10 => k_is)
    (case a11 => k_is)
    (case i11 => k_is)
    (case l11 => k_is)
    (case c11 => k_is)
    (case k11 => k_is)
    (case a12 => k_is)
    (case i12 => k_is)
    (case l12 => k_is)
    (case c12 => k_is)
    (case k12 => k_is)
    (case a13 => k_is)
    (case i13 => k_is)
    (case l13 => k_is)
    (case c13 => k_is)
    (case k13 => k_is)
    (case a14 => k_is)
    (case i14 => k_is)
    (case l14 => k_is)
    (case c14 => k_is)
    (case k14 => k_is)
    (case a15 => k_is)
    (case i15 => k_is)
    (case l15 => k_is)
    (case c15 => k_is)
    (case k15 => k_is)
    (case a16 => k_is)
    (case i16 => k_is)
    (case l16 => k_is)
    (case c16 => k_is)
    (case k16 => k_is)
    (case a17 => k_is)
    (case i17 => k_is)
    (case l17 => k_is)
    (case c17 => k_is)
    (case k17 => k_is)
    (case a18 => k_is)
    (case i18 => k_is)
    (case l18 => k_is)
    (case c18 => k_is)
    (case k18 => k_is)
    (case a19 => k_is)
    (case i19 => k_is)
    (case l19 => k_is)
    (case c19 => k_is)
    (case k19 => k_is)
    (case a20 => k_is)
    (case i20 => k_is)
    (case l20 => k_is)
    (case c20 => k_is)
    (case k20 => k_is)
    (case a21 => k_is)
    (case i21 => k_is)
    (case l21 => k_is)
    (case c21 => k_is)
    (case k21 => k_is)
    (case a22 => k_is)
    (case i22 => k_is)
    (case l22 => k_is)
    (case c22 => k_is)
    (case k22 => k_is)
    (case a23 => k_is)
    (case l23 => k_is)
    (case c23 => k_is)
    (case k23 => k_is)
    (case a24 => k_is)
    (case l24 => k_is)
    (case c24 => k_is)
    (case k24 => k_is)
    (case a25 => k_is)
    (case l25 => k_is)
    (case c25 => k_is)
    (case k25 => k_is)
    (case a26 => k_is)
    (case l26 => k_is)
    (case c26 => k_is)
    (case k26 => k_is)
    (case a27 => k_is)
    (case l27 => k_is)
    (case c27 => k_is)
    (case k27 => k_is)
    (case a28 => k_is)
    (case l28 => k_is)
    (case c28 => k_is)
    (case k28 => k_is)
    (case a29 => k_is)
    (case l29 => k_is)
    (case c29 => k_is)
    (case k29 => k_is)
    (case a30 => k_is)
    (case l30 => k_is)
    (case c30 => k_is)
    (case k30 => k_is)
    (case a31 => k_is)
    (case l31 => k_is)
    (case c31 => k_is)
    (case k31 => k_is)
    (case a32 => k_is)
    (case l32 => k_is)
    (case c32 => k_is)
    (case k32 => k_is)
    (case a33 => k_is)
    (case l33 => k_is)
    (case c33 => k_is)
    (case k33 => k_is)
    (case pg_Never => k_is)
    (case hd_Never => k_is)
    (case po_Never => k_is)
    (case sa_Never => k_is)
    (case mk_Never => k_is)
    (case kc_Never => k_is)
    (case pg_Most => k_is)
    (case hd_Most => k_is)
    (case po_Most => k_is)
    (case sa_Most => k_is)
    (case mk_Most => k_is)
    (case kc_Most => k_is)
    (case pg_Least => k_is)
    (case hd_Least => k_is)
    (case po_Least => k_is)
    (case sa_Least => k_is)
    (case mk_Least => k_is)
    (case kc_Least => k_is)
    (case pg_Both => k_is)
    (case hd_Both => k_is)
    (case po_Both => k_is)
    (case sa_Both => k_is)
    (case mk_Both => k_is)
    (case kc_Both => k_is)
    (case pg_Either => k_is)
    (case hd_Either => k_is)
    (case po_Either => k_is)
    (case sa_Either => k_is)
    (case mk_Either => k_is)
    (case kc_Either => k_is)
    (case pg_Not => k_is)
    (case hd_Not => k_is)
    (case po_Not => k_is)
    (case sa_Not => k_is)
    (case mk_Not => k_is)
    (case kc_Not => k_is)
    (case n_Never_word => k_is)
    (case n_Most_many => k_is)
    (case n_Most_marks => k_is)
    (case n_Most_days => k_is)
    (case n_Least_many => k_is)
    (case n_Least_marks => k_is)
    (case n_Least_days => k_is)
    (case n_Both_left => k_is)
    (case n_Both_right => k_is)
    (case n_Either_left => k_is)
    (case n_Either_right => k_is)
    (case n_Not_inner => k_is)
    (case z_all => k_is)
    (case z_any => k_is)
    (case z_isinstance => k_is)
    (case z_len => k_is)
    (case z_max => k_is)
    (case z_range => k_is)
    (case z_sorted => k_is)
    (case z_str => k_is)
    (case z_zip => k_is)
    (case k_MOST_TAILS => k_is)
#print axioms PySem.Challenge.cw_rotafair_k12_whole_no_shorter_row_holds
