import PyProof.Rows.All
import Wide.All
import OpenK.AllK
import Wide.FinOn
import Lean
import PyProof.EqAt
import PyProof.EqKinds
import PyProof.TupleCall
import KE.KIntText
import PySem.Challenge.RW_rotafair_k08_whole_rules_of_texts

set_option Elab.async false
set_option linter.all false
set_option maxRecDepth 100000
/-! THE HAND LAYER, for ints, bools, texts, own classes, LISTS and tuples (index, slices, in, append, pop ..), calls, loops. Paste it whole ahead of your own text; what your proof does not reach may be deleted. -/
namespace L2
open PySem PySem.Spec PyProof.Rows

/-- a key: an int or a str -/
abbrev Key := Sum Int Str
def keyIs : Key → Value → Bool
  | .inl k, v => Value.isInt k v
  | .inr x, v => Value.isStrOf x v
def keyH (w : World) : Key → Int
  | .inl k => hashInt k
  | .inr x => hashStr w x
theorem keyIs_shape : ∀ {k : Key} {v : Value}, keyIs k v = true → (∃ i t, k = Sum.inl i ∧ v = Value.int i t) ∨ (∃ x t, k = Sum.inr x ∧ v = Value.str x t)
  | .inl i, v, h => by
    obtain ⟨t, e⟩ := Value.isInt_shape (k := i) (v := v) h
    exact .inl ⟨i, t, rfl, e⟩
  | .inr x, v, h => by
    obtain ⟨t, e⟩ := Value.isStrOf_shape (x := x) (v := v) h
    exact .inr ⟨x, t, rfl, e⟩
theorem key_ll (a b : Int) : decide ((Sum.inl a : Key) = Sum.inl b) = (a == b) := by
  by_cases e : a = b
  · subst e; simp
  · have h : ¬ (Sum.inl a : Key) = Sum.inl b := fun q => e (Sum.inl.inj q)
    rw [decide_eq_false h]
    exact (beq_eq_false_iff_ne.mpr e).symm
theorem key_rr (a b : Str) : decide ((Sum.inr a : Key) = Sum.inr b) = decide (a = b) := by
  by_cases e : a = b
  · subst e; simp
  · have h : ¬ (Sum.inr a : Key) = Sum.inr b := fun q => e (Sum.inr.inj q)
    rw [decide_eq_false h, decide_eq_false e]
theorem key_lr (a : Int) (b : Str) : decide ((Sum.inl a : Key) = Sum.inr b) = false := decide_eq_false (fun q => nomatch q)
theorem key_rl (a : Str) (b : Int) : decide ((Sum.inr a : Key) = Sum.inl b) = false := decide_eq_false (fun q => nomatch q)

def mixKind (prog : Program) (w : World) : PySem.KeyKind prog w Key where
  is := keyIs
  hash := keyH w
  inj := fun v a b ha hb => by
    rcases keyIs_shape ha with ⟨i, t, rfl, rfl⟩ | ⟨x, t, rfl, rfl⟩
    · rcases keyIs_shape hb with ⟨j, u, rfl, e⟩ | ⟨y, u, rfl, e⟩
      · injection e with e1 _; rw [e1]
      · exact nomatch e
    · rcases keyIs_shape hb with ⟨j, u, rfl, e⟩ | ⟨y, u, rfl, e⟩
      · exact nomatch e
      · injection e with e1 _; rw [e1]
  byValue := fun k v h => by
    rcases keyIs_shape h with ⟨i, t, rfl, rfl⟩ | ⟨x, t, rfl, rfl⟩ <;> rfl
  pyHash := fun hv h => by
    rcases keyIs_shape hv with ⟨i, t, rfl, rfl⟩ | ⟨x, t, rfl, rfl⟩
    · exact wpAny_pyHash_int h
    · exact wpAny_pyHash_str h
  eqBool := fun hu hv h => by
    rcases keyIs_shape hu with ⟨i, t, rfl, rfl⟩ | ⟨x, t, rfl, rfl⟩
    · rcases keyIs_shape hv with ⟨j, u, rfl, rfl⟩ | ⟨y, u, rfl, rfl⟩
      · rw [key_ll] at h; exact wpAny_eqBool_int h
      · rw [key_lr] at h; exact SeqAt.EqAt.int_str i t y u _ _ _ _ h
    · rcases keyIs_shape hv with ⟨j, u, rfl, rfl⟩ | ⟨y, u, rfl, rfl⟩
      · rw [key_rl] at h; exact SeqAt.EqAt.str_int x t j u _ _ _ _ h
      · rw [key_rr] at h; exact wpAny_eqBool_str h
  «strs» := fun k x t v h => by
    rcases keyIs_shape h with ⟨i, u, rfl, e⟩ | ⟨y, u, rfl, e⟩
    · exact nomatch e
    · injection e with e1 _
      subst e1
      cases v <;> rfl

end L2

namespace L2
open PySem PySem.Spec PyProof.Rows

/-- a value, without the heap -/
inductive V where
  | non | bl (b : Bool) | int (i : Int) | str (x : Str) | byt (b : Array UInt8) | flt (b : UInt64) | ref (a : Addr) | ty (n : String)
  deriving DecidableEq

def RelV : V → Value → Prop
  | .non, u => u = Value.none
  | .bl b, u => u = Value.bool b
  | .int i, u => ∃ t, u = Value.int i t
  | .str x, u => ∃ t, u = Value.str x t
  | .byt b, u => ∃ t, u = Value.bytes b t
  | .flt b, u => ∃ t, u = Value.float b t
  | .ref a, u => u = Value.ref a
  | .ty n, u => u = Value.type n

abbrev Vals : List V → List Value → Prop := Paired RelV
theorem Vals.length {xs : List V} {us : List Value} (r : Vals xs us) : xs.length = us.length := Paired.length r
theorem Vals.get : ∀ {xs : List V} {us : List Value} {i : Nat} {x : V}, Vals xs us → xs[i]? = some x → ∃ u, us[i]? = some u ∧ RelV x u
  | _, _, _, _, .nil, e => by simp at e
  | _, _, 0, _, .cons r _, e => by simp at e; subst e; exact ⟨_, rfl, r⟩
  | _, _, i + 1, x, .cons _ t, e => by
    obtain ⟨u, h1, h2⟩ := Vals.get (i := i) (x := x) t (by simpa using e)
    exact ⟨u, by simpa using h1, h2⟩
theorem Vals.append : ∀ {xs ys : List V} {us ws : List Value}, Vals xs us → Vals ys ws → Vals (xs ++ ys) (us ++ ws)
  | _, _, _, _, .nil, s => s
  | _, _, _, _, .cons r t, s => .cons r (Vals.append t s)
theorem Vals.take : ∀ {xs : List V} {us : List Value} (n : Nat), Vals xs us → Vals (xs.take n) (us.take n)
  | _, _, 0, _ => .nil
  | _, _, _ + 1, .nil => .nil
  | _, _, n + 1, .cons r t => .cons r (Vals.take n t)
theorem Vals.drop : ∀ {xs : List V} {us : List Value} (n : Nat), Vals xs us → Vals (xs.drop n) (us.drop n)
  | _, _, 0, r => r
  | _, _, _ + 1, .nil => .nil
  | _, _, n + 1, .cons _ t => Vals.drop n t
def RelO : Option V → Option Value → Prop
  | some v, some u => RelV v u
  | none, none => True
  | _, _ => False
def KV {κ : Type} : List (κ × V) → List (κ × Value) → Prop := Paired fun (p : κ × V) (q : κ × Value) => p.1 = q.1 ∧ RelV p.2 q.2

/-- a key of a dict (00_mix): an int or a text -/
def kV : Key → V
  | .inl i => .int i
  | .inr x => .str x

/-- what stands at a tracked address -/
inductive HO where
  /-- a list -/
  | lst (xs : List V)
  /-- a tuple (never changes) -/
  | tup (xs : List V)
  /-- a dict whose keys are ints and texts; one whose keys are tuples of ints and texts (the empty one is both) -/
  | dK (kvs : List (Key × V)) | dT (kvs : List (List Key × V))
  /-- a set of ints: its members, its size -/
  | set (S : Int → Bool) (n : Nat)
  /-- an instance of the class at C, its dict at dx, its attributes -/
  | ins (C dx : Addr) (fs : List (Str × V))
  /-- the dict of the instance at x -/
  | own (x : Addr)
  /-- the dict of an exception -/
  | xd (fs : List (Str × V))
  /-- a bound method, f of x -/
  | met (f x : Addr)
  /-- a range object lo, lo + 1, .. below hi -/
  | rng (lo hi : Int)
  /-- a thing that is known to the object (the script; a dict while a loop walks it): read, never written while it is so -/
  | frz (o : Obj) (u : HO)
  /-- a code object's table -/
  | tbl (ps : Array Value)
  /-- any other thing, by what is true of its one object (a def of one's own: SetO a S n := HO.ext fun h => ..) -/
  | ext (φ : Heap → Prop)

abbrev Hp := Addr → Option HO
def upd (H : Hp) (a : Addr) (o : HO) : Hp := fun b => if b = a then some o else H b
theorem upd_same {H : Hp} {a : Addr} {o : HO} : upd H a o a = some o := by unfold upd; rw [if_pos rfl]
theorem upd_ne {H : Hp} {a b : Addr} {o : HO} (h : b ≠ a) : upd H a o b = H b := by unfold upd; rw [if_neg h]
theorem ne_of_none {H : Hp} {a b : Addr} {o : HO} (h : H a = some o) (h' : H b = none) : a ≠ b := by
  intro e; subst e; rw [h] at h'; cases h'

section
variable (P : Program) (w : World)
def ObjOk (H : Hp) (h : Heap) (a : Addr) : HO → Prop
  | .lst xs => xs.length ≤ sizeLine ∧ ∃ (its : List Value) (n : Nat), Vals xs its ∧ h.get? a = some { cls := .type "list", data := .seq its.toArray n }
  | .tup xs => xs.length ≤ sizeLine ∧ ∃ its : List Value, Vals xs its ∧ IsTup h a its.toArray
  | .dK kvs => kvs.length ≤ sizeLine ∧ (a == sysModules) = false ∧ ∃ vs, KV kvs vs ∧ h.DictOf (mixKind P w) a vs
  | .dT kvs => kvs.length ≤ sizeLine ∧ (a == sysModules) = false ∧ ∃ xs : List (List Key × Addr × Value),
      Paired (fun (p : List Key × V) (q : List Key × Addr × Value) => p.1 = q.1 ∧ H q.2.1 = some (.tup (p.1.map kV)) ∧ RelV p.2 q.2.2) kvs xs ∧
      ∃ o es ep, h.get? a = some o ∧ o.ExactDict ∧ o.data = .dict es ep ∧ es.toList = xs.map (entryOfKey (tupleKind (mixKind P w))) ∧ (xs.map (·.1)).Nodup
  | .set S n => h.SetOf (intKind P w) a S n
  | .ins C dx fs => H dx = some (.own a) ∧ fs.length ≤ 1000 ∧ dx ≠ a ∧ h.get? a = some (PySem.W.instObj C dx) ∧
      ∃ mA, h.Ns1 dx mA ∧ (∀ f, RelO (fs.lookup f) (mA f)) ∧ PySem.Within mA (fs.map (·.1))
  | .own _ => ∃ o, h.get? a = some o
  | .xd fs => ∃ mA, h.Ns1 a mA ∧ ∀ f, RelO (fs.lookup f) (mA f)
  | .rng lo hi => ∃ t u v, h.get? a = some { cls := .type "range", data := .fields #[.int lo t, .int hi u, .int 1 v] }
  | .frz o u => h.get? a = some o ∧ ObjOk H h a u
  | .tbl ps => h.get? a = some { cls := .none, data := .fields ps }
  | .met f x => h.get? a = some (PySem.W.methodObj (.ref f) (.ref x))
  | .ext φ => φ h ∧ (∃ o, h.get? a = some o) ∧ ∀ h1 h2 : Heap, φ h1 → (∀ o, h1.get? a = some o → h2.get? a = some o) → φ h2
/-- the abstract heap is held -/
def HOk (H : Hp) (h : Heap) : Prop := ∀ a o, H a = some o → ObjOk P w H h a o
end

section
variable {P : Program} {w : World} {H H' : Hp} {h h' : Heap} {a : Addr} {o : HO}
theorem ObjOk.lt (x : ObjOk P w H h a o) : a < h.objs.size := by
  cases o with
  | lst xs => obtain ⟨_, _, _, _, e⟩ := x; exact Heap.lt_size e
  | tup xs => obtain ⟨_, _, _, p⟩ := x; exact p.lt
  | dK kvs => obtain ⟨_, _, _, _, o, _, _, e, _⟩ := x; exact Heap.lt_size e
  | dT kvs => obtain ⟨_, _, _, _, o, _, _, e, _⟩ := x; exact Heap.lt_size e
  | set S n => obtain ⟨o, _, _, _, e, _⟩ := x; exact Heap.lt_size e
  | ins C dx fs => obtain ⟨_, _, _, e, _⟩ := x; exact Heap.lt_size e
  | own y => obtain ⟨_, e⟩ := x; exact Heap.lt_size e
  | xd fs => obtain ⟨_, ⟨_, _, _, e, _⟩, _⟩ := x; exact Heap.lt_size e
  | rng lo hi => obtain ⟨_, _, _, e⟩ := x; exact Heap.lt_size e
  | frz ob u => obtain ⟨e, _⟩ := x; exact Heap.lt_size e
  | tbl ps => exact Heap.lt_size (show h.get? a = some _ from x)
  | met f y => exact Heap.lt_size (show h.get? a = some _ from x)
  | ext φ => obtain ⟨_, ⟨_, e⟩, _⟩ := x; exact Heap.lt_size e
theorem Paired.mapP {α β : Type} {F G : α → β → Prop} : ∀ {l₁ : List α} {l₂ : List β}, Paired F l₁ l₂ → (∀ a b, F a b → G a b) → Paired G l₁ l₂
  | _, _, .nil, _ => .nil
  | _, _, .cons r t, f => .cons (f _ _ r) (Paired.mapP t f)
/-- what an object's description leans on: its own object, its own dict, the tuples -/
theorem ObjOk.stay (x : ObjOk P w H h a o) (k : ∀ b u, (b = a ∨ H b = some (.own a)) → h.get? b = some u → h'.get? b = some u)
    (ho : ∀ b, H b = some (.own a) → H' b = some (.own a)) (ht : ∀ b xs, H b = some (.tup xs) → H' b = some (.tup xs)) : ObjOk P w H' h' a o := by
  induction o with
  | lst xs => obtain ⟨z, its, n, r, e⟩ := x; exact ⟨z, its, n, r, k _ _ (.inl rfl) e⟩
  | tup xs => obtain ⟨z, its, r, ob, e, c⟩ := x; exact ⟨z, its, r, ob, k _ _ (.inl rfl) e, c⟩
  | dK kvs => obtain ⟨z, y, vs, r, ob, es, ep, e, c⟩ := x; exact ⟨z, y, vs, r, ob, es, ep, k _ _ (.inl rfl) e, c⟩
  | dT kvs =>
    obtain ⟨z, y, xs, r, ob, es, ep, e, c⟩ := x
    exact ⟨z, y, xs, Paired.mapP r fun p q z => ⟨z.1, ht _ _ z.2.1, z.2.2⟩, ob, es, ep, k _ _ (.inl rfl) e, c⟩
  | set S n => obtain ⟨ob, es, ep, t, e, c⟩ := x; exact ⟨ob, es, ep, t, k _ _ (.inl rfl) e, c⟩
  | ins C dx fs =>
    obtain ⟨d, z, ne, e, mA, ⟨od, es, ep, e2, c⟩, r⟩ := x
    exact ⟨ho _ d, z, ne, k _ _ (.inl rfl) e, mA, ⟨od, es, ep, k _ _ (.inr d) e2, c⟩, r⟩
  | own y => obtain ⟨ob, e⟩ := x; exact ⟨ob, k _ _ (.inl rfl) e⟩
  | xd fs => obtain ⟨mA, ⟨od, es, ep, e, c⟩, r⟩ := x; exact ⟨mA, ⟨od, es, ep, k _ _ (.inl rfl) e, c⟩, r⟩
  | rng lo hi => obtain ⟨t, u, v, e⟩ := x; exact ⟨t, u, v, k _ _ (.inl rfl) e⟩
  | frz ob u ih => obtain ⟨e, q⟩ := x; exact ⟨k _ _ (.inl rfl) e, ih q⟩
  | tbl ps =>
    have e : h.get? a = some { cls := .none, data := .fields ps } := x
    show h'.get? a = some { cls := .none, data := .fields ps }
    exact k a _ (.inl rfl) e
  | met f y =>
    have e : h.get? a = some (PySem.W.methodObj (.ref f) (.ref y)) := x
    show h'.get? a = some (PySem.W.methodObj (.ref f) (.ref y))
    exact k a _ (.inl rfl) e
  | ext φ => obtain ⟨p, ⟨o, e⟩, st⟩ := x; exact ⟨st _ _ p fun o q => k _ _ (.inl rfl) q, ⟨o, k _ _ (.inl rfl) e⟩, st⟩
theorem HOk.lt (x : HOk P w H h) (e : H a = some o) : a < h.objs.size := (x a o e).lt
theorem HOk.fresh (x : HOk P w H h) (e : h.objs.size ≤ a) : H a = none := by
  cases q : H a with
  | none => rfl
  | some u => exact absurd (Nat.lt_of_lt_of_le (x.lt q) e) (Nat.lt_irrefl _)
/-- every object of the heap is kept -/
theorem HOk.kept (x : HOk P w H h) (k : ∀ b u, h.get? b = some u → h'.get? b = some u) : HOk P w H h' := fun a o e =>
  (x a o e).stay (fun b u _ q => k b u q) (fun _ q => q) fun _ _ q => q
/-- a new object is laid and tracked -/
theorem HOk.laid (x : HOk P w H h) (k : ∀ b u, h.get? b = some u → h'.get? b = some u) (hp : h.objs.size ≤ a) (new : ObjOk P w (upd H a o) h' a o) : HOk P w (upd H a o) h' := fun b u e => by
  have hn := x.fresh hp
  by_cases hb : b = a
  · subst hb; rw [upd_same] at e; cases e; exact new
  · rw [upd_ne hb] at e
    exact (x b u e).stay (fun c v _ q => k c v q) (fun c q => by rw [upd_ne (ne_of_none q hn)]; exact q) fun c xs q => by rw [upd_ne (ne_of_none q hn)]; exact q
end

/-- what may be read as u: it is u, or a known u -/
def Rd (H : Hp) (a : Addr) (u : HO) : Prop := H a = some u ∨ ∃ o, H a = some (.frz o u)
theorem Rd.ok {P : Program} {w : World} {H : Hp} {h : Heap} {a : Addr} {u : HO} (r : Rd H a u) (x : HOk P w H h) : ObjOk P w H h a u := by
  rcases r with r | ⟨o, r⟩
  · exact x a u r
  · obtain ⟨_, q⟩ := x a _ r
    exact q
/-- what may be written -/
def Mut : Option HO → Prop
  | some (.lst _) => True
  | some (.dK _) => True
  | some (.dT _) => True
  | some (.set _ _) => True
  | some (.ins _ _ _) => True
  | some (.ext _) => True
  | _ => False
section
variable {P : Program} {w : World} {H : Hp} {h h' : Heap} {x e : Addr} {o' : HO}
/-- the object at e is changed: x itself, or the dict of the instance x -/
theorem HOk.write (ok : HOk P w H h) (mu : Mut (H x)) (he : e = x ∨ H e = some (.own x)) (k : ∀ b u, b ≠ e → h.get? b = some u → h'.get? b = some u) (heo : ∃ u, h'.get? e = some u)
    (new : ObjOk P w (upd H x o') h' x o') : HOk P w (upd H x o') h' := fun b u q => by
  have nown : ∀ c y, H c = some (.own y) → c ≠ x := fun c y r z => by subst z; rw [r] at mu; exact mu
  have ntup : ∀ c xs, H c = some (.tup xs) → c ≠ x := fun c xs r z => by subst z; rw [r] at mu; exact mu
  by_cases hb : b = x
  · subst hb; rw [upd_same] at q; cases q; exact new
  · rw [upd_ne hb] at q
    by_cases hbe : b = e
    · have q' : H b = some (.own x) := by
        rcases he with z | z
        · exact absurd (hbe.trans z) hb
        · rw [hbe]; exact z
      rw [q] at q'; cases q'
      obtain ⟨v, hv⟩ := heo
      exact ⟨v, by rw [hbe]; exact hv⟩
    · refine (ok b u q).stay (fun c v hc r => k c v ?_ r) (fun c r => by rw [upd_ne (nown c b r)]; exact r) fun c xs r => by rw [upd_ne (ntup c xs r)]; exact r
      rcases hc with rfl | hc
      · exact hbe
      · rintro rfl
        rcases he with z | z
        · exact nown c b hc z
        · rw [hc] at z; cases z; exact hb rfl
end

/-! ### kept unless tracked; of the frames at fs (the callers') the slots may change (an exception that passes writes there); of the records at ex (iterators) nothing is said -/
structure Un (fs ex : List Addr) (H H' : Hp) (h h' : Heap) : Prop where
  keep : ∀ b o, h.get? b = some o → H b = none → b ∉ fs → b ∉ ex → h'.get? b = some o
  slot : ∀ b o, h.get? b = some o → H b = none → b ∈ fs → b ∉ ex → ∃ sl, h'.get? b = some { o with slots := sl }
  free : ∀ b o, h.get? b = some o → H b = none → b ∉ ex → H' b = none
  there : ∀ b o, h.get? b = some o → b ∉ ex → ∃ o', h'.get? b = some o'
  tups : ∀ b xs, H b = some (.tup xs) → H' b = some (.tup xs)
  frzs : ∀ b o u, H b = some (.frz o u) → H' b = some (.frz o u)
  tbls : ∀ b ps, H b = some (.tbl ps) → ∃ more, H' b = some (.tbl (ps ++ more))
section
variable {fs fs' ex ex' : List Addr} {H H1 H2 : Hp} {h h1 h2 h' : Heap} {a x e : Addr} {o : HO}
theorem Un.any (u : Un fs ex H H1 h h1) {b : Addr} {ob : Obj} (q : h.get? b = some ob) (n : H b = none) (hx : b ∉ ex) : ∃ sl, h1.get? b = some { ob with slots := sl } := by
  by_cases hb : b ∈ fs
  · exact u.slot b ob q n hb hx
  · exact ⟨ob.slots, u.keep b ob q n hb hx⟩
theorem Un.kept (k : ∀ b u, h.get? b = some u → h'.get? b = some u) : Un fs ex H H h h' :=
  ⟨fun b ob q _ _ _ => k b ob q, fun b ob q _ _ _ => ⟨ob.slots, k b ob q⟩, fun _ _ _ n _ => n, fun b ob q _ => ⟨ob, k b ob q⟩, fun _ _ q => q, fun _ _ _ q => q, fun _ ps q => ⟨#[], by rw [q]; simp⟩⟩
theorem Un.refl : Un fs ex H H h h := Un.kept fun _ _ q => q
theorem Un.laid (k : ∀ b u, h.get? b = some u → h'.get? b = some u) (hp : h.objs.size ≤ a) (hn : H a = none) : Un fs ex H (upd H a o) h h' where
  keep := fun b u q _ _ _ => k b u q
  slot := fun b u q _ _ _ => ⟨u.slots, k b u q⟩
  free := fun b u q n _ => by rw [upd_ne (Nat.ne_of_lt (Nat.lt_of_lt_of_le (Heap.lt_size q) hp))]; exact n
  there := fun b u q _ => ⟨u, k b u q⟩
  tups := fun b xs q => by rw [upd_ne (ne_of_none q hn)]; exact q
  frzs := fun b u xs q => by rw [upd_ne (ne_of_none q hn)]; exact q
  tbls := fun b ps q => ⟨#[], by rw [upd_ne (ne_of_none q hn), q]; simp⟩
theorem Un.write (mu : Mut (H x)) (he : e = x ∨ H e = some (.own x)) (k : ∀ b u, b ≠ e → h.get? b = some u → h'.get? b = some u) (heo : ∃ u, h'.get? e = some u) : Un fs ex H (upd H x o) h h' := by
  have hx : ∀ b, H b = none → b ≠ x := fun b n z => by subst z; rw [n] at mu; exact mu
  have hb : ∀ b, H b = none → b ≠ e := fun b n z => by
    subst z
    rcases he with r | r
    · exact hx b n r
    · rw [n] at r; cases r
  have hm : ∀ b u, H b = some u → ¬ Mut (some u) → b ≠ x := fun b u q nm z => by subst z; rw [q] at mu; exact nm mu
  refine ⟨fun b u q n _ _ => k b u (hb b n) q, fun b u q n _ _ => ⟨u.slots, k b u (hb b n) q⟩, fun b u q n _ => by rw [upd_ne (hx b n)]; exact n, fun b u q _ => ?_,
    fun b xs q => by rw [upd_ne (hm b _ q fun z => z)]; exact q, fun b u xs q => by rw [upd_ne (hm b _ q fun z => z)]; exact q, fun b ps q => ⟨#[], by rw [upd_ne (hm b _ q fun z => z), q]; simp⟩⟩
  by_cases hbe : b = e
  · subst hbe; exact heo
  · exact ⟨u, k b u hbe q⟩
end

/-! ### the heap without what is tracked -/
def trk (h : Heap) (H : Hp) : List Addr := (List.range h.objs.size).filter fun a => (H a).isSome
def hidT (h : Heap) (H : Hp) : Heap := PySem.W.hideAll h (trk h H)
theorem hidT_size (h : Heap) (H : Hp) : (hidT h H).objs.size = h.objs.size := PySem.W.hideAll_size _ _
theorem hidT_get {h : Heap} {H : Hp} {b : Addr} {o : Obj} (e : h.get? b = some o) (n : H b = none) : (hidT h H).get? b = some o :=
  PySem.W.hideAll_get _ e fun hm => by
    have q : (H b).isSome = true := (List.mem_filter.mp hm).2
    rw [n] at q; simp at q
theorem of_hidT {h : Heap} {H : Hp} {b : Addr} {o : Obj} (e : (hidT h H).get? b = some o) : h.get? b = some o ∧ H b = none := by
  have e' : h.get? b = some o := PySem.W.of_hideAll (trk h H) e
  refine ⟨e', ?_⟩
  cases q : H b with
  | none => rfl
  | some x =>
    have hm : b ∈ trk h H := List.mem_filter.mpr ⟨List.mem_range.mpr (Heap.lt_size e'), by simp [q]⟩
    have z : (hidT h H).get? b = none := PySem.W.hideAll_none (trk h H) hm
    rw [z] at e; cases e

/-! ### OpenK's ledger, filled with every new object but one -/
end L2

namespace L2
open PySem PySem.Spec PyProof.Rows

/-- the module's facts, over the base: the heap at the law's entry without what is tracked there -/
structure Mod (K : PySem.W.Frag) (mg : Str → Option Value) (base : Heap) : Prop where
  kin : K.In base
  glob : base.Ns mainGlobals mg
  blt : ∃ mb, base.Ns builtinsNs mb ∧ ∀ x : Str, x ≠ "__name__" → mb x = bootBuiltins x
  nolimit : base.NoLimit

/-- the context: a def's body (or a comprehension's block) running. base: fixed through the whole law; s₀, H₀: the entry; outer: the frames whose slots others may change (a def's callers); stack: all frames that run;
   ex: iterators that were made ahead of the entry and are walked here (a comprehension's); fn: the names whose cells were made at the entry (a def: all; a comprehension's block: its own); calm: not within an except suite; pn: pins that every state bears; xe: what is wanted of an exception that leaves the code -/
structure Cx where
  prog : Program
  w : World
  K : PySem.W.Frag
  mg : Str → Option Value
  base : Heap
  A : Around
  N : List Str
  s₀ : Shared
  H₀ : Hp
  env : Env
  outer : List Env
  stack : List Env
  ex : List Addr
  fn : Str → Bool
  calm : Bool
  pn : List (Addr × Obj)
  xe : Value → Shared → Prop
/-- the callers' frames -/
def frs (l : List Env) : List Addr := l.filterMap (·.frame)
abbrev Cx.fs (X : Cx) : List Addr := frs X.outer

def Vis (sc : Scope) (x : Str) : Prop := sc.names.lookup x = some .local ∨ sc.names.lookup x = some .cell ∨ sc.names.lookup x = some .free
def Loc (sc : Scope) (x : Str) : Prop := sc.names.lookup x = some .local ∨ sc.names.lookup x = some .cell
def Look (env : Env) (h : Heap) (m : Str → Option Value) (x : Str) (u : Value) : Prop :=
  (env.kindOf x = some .local ∧ m x = some u) ∨ ((env.kindOf x = some .cell ∨ env.kindOf x = some .free) ∧ ∃ c, env.cells.lookup x = some c ∧ h.IsCell c (some u))

structure Cx.Ok (X : Cx) : Prop where
  mod : Mod X.K X.mg X.base
  kind : X.env.scope.kind = .function
  glob : X.env.globals = mainGlobals
  blt : X.env.builtins = builtinsNs
  above : X.s₀.heap.objs.size ≤ X.env.locals
  inj : ∀ x y c, X.env.cells.lookup x = some c → X.env.cells.lookup y = some c → x = y
  has : ∀ x, (X.env.kindOf x = some .cell ∨ X.env.kindOf x = some .free) → ∃ c, X.env.cells.lookup x = some c
  cab : ∀ x c, X.fn x = true → X.env.cells.lookup x = some c → X.s₀.heap.objs.size ≤ c
  hd : X.calm = true → X.A.handled = none
  frames : X.A.frames = some X.stack
  stk : X.stack = X.outer ∨ (X.stack = X.env :: X.outer ∧ X.env.frame = some X.env.locals)
  exf : ∀ b ∈ X.ex, b ≠ X.env.locals ∧ ∀ x c, X.env.cells.lookup x = some c → c ≠ b
  bs : ∀ b o, X.base.get? b = some o → X.s₀.heap.get? b = some o ∧ X.H₀ b = none
  bsz : X.base.objs.size ≤ X.s₀.heap.objs.size
  noex : ∀ b o, X.base.get? b = some o → b ∉ X.ex
  exfs : ∀ b ∈ X.ex, b ∉ X.fs
  funs : X.s₀.heap.FunFrames X.base X.outer
  frf : ∀ b ∈ X.fs, X.H₀ b = none

structure Inv (X : Cx) (pins : List (Addr × Obj)) (σ : List (Option V)) (H : Hp) (s : Shared) : Prop where
  ok : X.Ok
  os : s.os = X.s₀.os
  bare : AllBare s.gens
  base : Un X.fs X.ex X.H₀ H X.s₀.heap s.heap
  loc : ∃ m, s.heap.Ns X.env.locals m ∧ ∀ (i : Nat) (x : Str) (v : V), X.N[i]? = some x → σ[i]? = some (some v) → Vis X.env.scope x → ∃ u, RelV v u ∧ Look X.env s.heap m x u
  cell : ∀ x c, X.env.cells.lookup x = some c → ∃ v, s.heap.IsCell c v
  free : H X.env.locals = none
  freeC : ∀ x c, X.env.cells.lookup x = some c → H c = none
  pin : ∀ p ∈ X.pn ++ pins, s.heap.get? p.1 = some p.2 ∧ H p.1 = none ∧ p.1 ≠ X.env.locals ∧ p.1 ∉ X.fs ∧ ∀ v, p.2.data ≠ .cell v
  hok : HOk X.prog X.w H s.heap
  len : σ.length = X.N.length

section
variable {X : Cx} {pins : List (Addr × Obj)} {σ : List (Option V)} {H H' : Hp} {s : Shared} {h' : Heap}

theorem Cx.Ok.nofr (ok : X.Ok) {b : Addr} {o : Obj} (e : X.base.get? b = some o) : b ∉ X.fs := fun hb => by
  have := (ok.funs.mem hb).1
  rw [e] at this; cases this
theorem Inv.bs (I : Inv X pins σ H s) : ∀ b o, X.base.get? b = some o → s.heap.get? b = some o ∧ H b = none := fun b o e =>
  ⟨I.base.keep b o (I.ok.bs b o e).1 (I.ok.bs b o e).2 (I.ok.nofr e) (I.ok.noex b o e), I.base.free b o (I.ok.bs b o e).1 (I.ok.bs b o e).2 (I.ok.noex b o e)⟩
theorem Inv.bk (I : Inv X pins σ H s) : ∀ b o, X.base.get? b = some o → s.heap.get? b = some o := fun b o e => (I.bs b o e).1
theorem Inv.mod (I : Inv X pins σ H s) : Mod X.K X.mg X.base := I.ok.mod
theorem Inv.kIn (I : Inv X pins σ H s) : X.K.In s.heap := I.ok.mod.kin.keeps I.bk
theorem Inv.lt (I : Inv X pins σ H s) : X.env.locals < s.heap.objs.size := let ⟨_, hn, _⟩ := I.loc; hn.lt
theorem Inv.sz (I : Inv X pins σ H s) : X.s₀.heap.objs.size ≤ s.heap.objs.size := Nat.le_trans I.ok.above (Nat.le_of_lt I.lt)
theorem Inv.nofs (I : Inv X pins σ H s) {a : Addr} (h : s.heap.objs.size ≤ a) : a ∉ X.fs := fun hb => by
  obtain ⟨_, o, ho, _⟩ := I.ok.funs.mem hb
  exact absurd (Nat.lt_of_lt_of_le (Heap.lt_size ho) (Nat.le_trans I.sz h)) (Nat.lt_irrefl _)
theorem Inv.cne (I : Inv X pins σ H s) : ∀ x c, X.env.cells.lookup x = some c → c ≠ X.env.locals := fun x c e z => by
  obtain ⟨v, o, ho, hd⟩ := I.cell x c e
  obtain ⟨m, ⟨o', es, ep, ho', hd', _⟩, _⟩ := I.loc
  rw [z, ho'] at ho; cases ho; rw [hd'] at hd; cases hd
theorem Inv.funs (I : Inv X pins σ H s) : s.heap.FunFrames X.base X.outer := by
  have all : ∀ (l : List Env), (∀ b ∈ frs l, b ∈ X.fs) → X.s₀.heap.FunFrames X.base l → s.heap.FunFrames X.base l := by
    intro l
    induction l with
    | nil => intro _ _; trivial
    | cons env r ih =>
      intro hs hl
      obtain ⟨hk, ⟨L, o, hf, hn, ho, hd⟩, hr⟩ := hl
      have hL : L ∈ X.fs := hs L (by unfold frs; rw [List.filterMap_cons, hf]; exact List.mem_cons_self)
      obtain ⟨sl, e⟩ := I.base.slot L o ho (I.ok.frf L hL) hL fun z => I.ok.exfs L z hL
      exact ⟨hk, ⟨L, _, hf, hn, e, hd⟩, ih (fun b hb => hs b (by unfold frs; rw [List.filterMap_cons, hf]; exact List.mem_cons_of_mem _ hb)) hr⟩
  exact all X.outer (fun _ hb => hb) I.ok.funs

/-- the frames that run, for a call -/
theorem Inv.stack (I : Inv X pins σ H s) : s.heap.FunFrames X.base X.stack := by
  rcases I.ok.stk with e | ⟨e, hf⟩
  · rw [e]; exact I.funs
  · rw [e]
    obtain ⟨m, hn, _⟩ := I.loc
    refine .cons (by rw [I.ok.kind]; decide) hf hn ?_ I.funs
    exact Heap.get?_none_of_le (Nat.le_trans I.ok.bsz I.ok.above)
theorem Inv.stkSub (I : Inv X pins σ H s) : ∀ b ∈ frs X.stack, b ∈ X.env.locals :: X.fs := fun b hb => by
  rcases I.ok.stk with e | ⟨e, hf⟩
  · rw [e] at hb; exact List.mem_cons_of_mem _ hb
  · rw [e] at hb
    unfold frs at hb
    rw [List.filterMap_cons, hf] at hb
    exact hb
theorem Inv.stkFree (I : Inv X pins σ H s) : ∀ b ∈ frs X.stack, H b = none := fun b hb => by
  rcases List.mem_cons.mp (I.stkSub b hb) with e | hb
  · rw [e]; exact I.free
  · obtain ⟨_, o, ho, _⟩ := I.ok.funs.mem hb
    exact I.base.free b o ho (I.ok.frf b hb) fun z => I.ok.exfs b z hb

/-- THE STEP: the untracked objects but the frame and the records at ch are kept (the callers' frames up to slots), the frame's map is kept, the new abstract heap is held -/
theorem Inv.step {g' : Array GenState} {t' : Nat} {d' : Drawn} {ch : List Addr} (I : Inv X pins σ H s)
    (hch : ∀ b ∈ ch, (b ∈ X.ex ∨ X.s₀.heap.objs.size ≤ b) ∧ b ≠ X.env.locals ∧ (∀ x c, X.env.cells.lookup x = some c → c ≠ b) ∧ ∀ p ∈ X.pn ++ pins, p.1 ≠ b)
    (keep : ∀ b o, b ≠ X.env.locals → b ∉ X.fs → b ∉ ch → s.heap.get? b = some o → H b = none → h'.get? b = some o)
    (slot : ∀ b o, b ≠ X.env.locals → b ∈ X.fs → b ∉ ch → s.heap.get? b = some o → H b = none → ∃ sl, h'.get? b = some { o with slots := sl }) (free : ∀ b o, b ∉ ch → s.heap.get? b = some o → H b = none → H' b = none)
    (there : ∀ b o, b ∉ ch → s.heap.get? b = some o → ∃ o', h'.get? b = some o')
    (tups : ∀ b xs, H b = some (.tup xs) → H' b = some (.tup xs)) (frzs : ∀ b o u, H b = some (.frz o u) → H' b = some (.frz o u)) (tbls : ∀ b ps, H b = some (.tbl ps) → ∃ more, H' b = some (.tbl (ps ++ more)))
    (ns : ∀ m, s.heap.Ns X.env.locals m → h'.Ns X.env.locals m) (hok : HOk X.prog X.w H' h') (hg : AllBare g') :
    Inv X pins σ H' { s with heap := h', gens := g', drawn := d', toks := t' } := by
  have neL : ∀ b o, X.s₀.heap.get? b = some o → b ≠ X.env.locals := fun b o e => Nat.ne_of_lt (Nat.lt_of_lt_of_le (Heap.lt_size e) I.ok.above)
  have neC : ∀ b o, X.s₀.heap.get? b = some o → b ∉ X.ex → b ∉ ch := fun b o e hx hb => by
    rcases (hch b hb).1 with z | z
    · exact hx z
    · exact absurd (Nat.lt_of_lt_of_le (Heap.lt_size e) z) (Nat.lt_irrefl _)
  have cellK : ∀ x c, X.env.cells.lookup x = some c → ∀ v, s.heap.IsCell c v → h'.IsCell c v := fun x c e v ⟨o, ho, hd⟩ => by
    have nch : c ∉ ch := fun z => (hch c z).2.2.1 x c e rfl
    by_cases hc : c ∈ X.fs
    · obtain ⟨sl, q⟩ := slot c o (I.cne x c e) hc nch ho (I.freeC x c e)
      exact ⟨_, q, hd⟩
    · exact ⟨o, keep c o (I.cne x c e) hc nch ho (I.freeC x c e), hd⟩
  refine ⟨I.ok, I.os, hg, ⟨fun b o e n hb hx => ?_, fun b o e n hb hx => ?_, fun b o e n hx => ?_, fun b o e hx => ?_, fun b xs e => tups b xs (I.base.tups b xs e), fun b o xs e => frzs b o xs (I.base.frzs b o xs e), fun b ps e => ?_⟩, ?_, fun x c e => ?_, ?_, fun x c e => ?_, fun p hp => ?_, hok, I.len⟩
  · exact keep b o (neL b o e) hb (neC b o e hx) (I.base.keep b o e n hb hx) (I.base.free b o e n hx)
  · obtain ⟨sl, e1⟩ := I.base.slot b o e n hb hx
    obtain ⟨sl', e2⟩ := slot b _ (neL b o e) hb (neC b o e hx) e1 (I.base.free b o e n hx)
    exact ⟨sl', e2⟩
  · obtain ⟨o', e1⟩ := I.base.there b o e hx
    exact free b o' (neC b o e hx) e1 (I.base.free b o e n hx)
  · obtain ⟨o', e1⟩ := I.base.there b o e hx
    exact there b o' (neC b o e hx) e1
  · obtain ⟨m1, e1⟩ := I.base.tbls b ps e
    obtain ⟨m2, e2⟩ := tbls b _ e1
    exact ⟨m1 ++ m2, by rw [e2, Array.append_assoc]⟩
  · obtain ⟨m, hn, hl⟩ := I.loc
    refine ⟨m, ns m hn, fun i x v e1 e2 e3 => ?_⟩
    obtain ⟨u, r, l⟩ := hl i x v e1 e2 e3
    refine ⟨u, r, ?_⟩
    rcases l with l | ⟨k, c, e, z⟩
    · exact .inl l
    · exact .inr ⟨k, c, e, cellK x c e _ z⟩
  · obtain ⟨v, z⟩ := I.cell x c e
    exact ⟨v, cellK x c e v z⟩
  · obtain ⟨m, ⟨o, _, _, ho, _⟩, _⟩ := I.loc
    exact free _ o (fun z => (hch _ z).2.1 rfl) ho I.free
  · obtain ⟨v, o, ho, hd⟩ := I.cell x c e
    exact free c o (fun z => (hch c z).2.2.1 x c e rfl) ho (I.freeC x c e)
  · obtain ⟨e, n, ne, nf, d⟩ := I.pin p hp
    have nch : p.1 ∉ ch := fun z => (hch p.1 z).2.2.2 p hp rfl
    exact ⟨keep p.1 p.2 ne nf nch e n, free p.1 p.2 nch e n, ne, nf, d⟩
/-- .. where the frame's own object is kept too -/
theorem Inv.un {t' : Nat} (I : Inv X pins σ H s) (u : Un X.fs [] H H' s.heap h') (hok : HOk X.prog X.w H' h') : Inv X pins σ H' { s with heap := h', toks := t' } := by
  obtain ⟨m, ⟨o, es, ep, ho, r⟩, _⟩ := id I.loc
  obtain ⟨sl, hL⟩ := u.any ho I.free (by simp)
  exact I.step (g' := s.gens) (d' := s.drawn) (ch := []) (fun _ z => nomatch z) (fun b o _ hb _ e n => u.keep b o e n hb (by simp)) (fun b o _ hb _ e n => u.slot b o e n hb (by simp)) (fun b o _ e n => u.free b o e n (by simp)) (fun b o _ e => u.there b o e (by simp)) u.tups u.frzs u.tbls (fun m' hm => by
    obtain ⟨o', es', ep', ho', r'⟩ := hm
    rw [ho] at ho'; cases ho'
    exact ⟨_, es', ep', hL, r'⟩) hok I.bare
/-- behind a call (or a comprehension's block): the slots of this frame may have changed too, the records at ch may have turned -/
theorem Inv.call {g' : Array GenState} {t' : Nat} {d' : Drawn} {ch : List Addr} (I : Inv X pins σ H s) (u : Un (frs X.stack) ch H H' s.heap h') (hok : HOk X.prog X.w H' h') (hg : AllBare g')
    (hch : ∀ b ∈ ch, (b ∈ X.ex ∨ X.s₀.heap.objs.size ≤ b) ∧ b ≠ X.env.locals ∧ (∀ x c, X.env.cells.lookup x = some c → c ≠ b) ∧ ∀ p ∈ X.pn ++ pins, p.1 ≠ b) :
    Inv X pins σ H' { s with heap := h', gens := g', drawn := d', toks := t' } := by
  obtain ⟨m, ⟨o, es, ep, ho, r⟩, _⟩ := id I.loc
  obtain ⟨sl, hL⟩ := u.any ho I.free fun z => (hch _ z).2.1 rfl
  exact I.step (ch := ch) hch (fun b o hL hb hc e n => u.keep b o e n (fun z => (List.mem_cons.mp (I.stkSub b z)).elim hL hb) hc) (fun b o _ _ hc e n => u.any e n hc) (fun b o hc e n => u.free b o e n hc) (fun b o hc e => u.there b o e hc) u.tups u.frzs u.tbls (fun m' hm => by
    obtain ⟨o', es', ep', ho', r'⟩ := hm
    rw [ho] at ho'; cases ho'
    exact ⟨_, es', ep', hL, r'⟩) hok hg
/-- an untracked record of ours (an iterator) has turned -/
theorem Inv.turned {t' : Nat} {it : Addr} (I : Inv X pins σ H s) (k : ∀ b o, b ≠ it → s.heap.get? b = some o → h'.get? b = some o) (hn : H it = none) (hL : it ≠ X.env.locals)
    (h1 : it ∈ X.ex ∨ X.s₀.heap.objs.size ≤ it) (h2 : ∀ x c, X.env.cells.lookup x = some c → c ≠ it) (h3 : ∀ p ∈ X.pn ++ pins, p.1 ≠ it) : Inv X pins σ H { s with heap := h', toks := t' } := by
  have nit : ∀ b u, H b = some u → b ≠ it := fun b u e z => by rw [z, hn] at e; cases e
  refine I.step (g' := s.gens) (d' := s.drawn) (ch := [it]) (fun b hb => ?_) (fun b o _ _ hc e _ => k b o (fun z => hc (by simp [z])) e) (fun b o _ _ hc e _ => ⟨o.slots, k b o (fun z => hc (by simp [z])) e⟩) (fun _ _ _ _ n => n)
    (fun b o hc e => ⟨o, k b o (fun z => hc (by simp [z])) e⟩) (fun _ _ e => e) (fun _ _ _ e => e) (fun b ps e => ⟨#[], by rw [e]; simp⟩) (fun m hm => ?_) (fun b u e => ?_) I.bare
  · have e : b = it := by simpa using hb
    subst e
    exact ⟨h1, hL, h2, h3⟩
  · obtain ⟨o, es, ep, ho, r⟩ := hm
    exact ⟨o, es, ep, k _ o (Ne.symm hL) ho, r⟩
  · refine (I.hok b u e).stay (fun c v hc q => k c v ?_ q) (fun _ q => q) fun _ _ q => q
    rcases hc with z | z
    · rw [z]; exact nit b u e
    · exact nit c _ z
theorem Inv.tok (I : Inv X pins σ H s) (t : Nat) : Inv X pins σ H { s with toks := t } := I.un (h' := s.heap) (t' := t) Un.refl I.hok
/-- all objects kept -/
theorem Inv.kept {t' : Nat} (I : Inv X pins σ H s) (k : ∀ b u, s.heap.get? b = some u → h'.get? b = some u) : Inv X pins σ H { s with heap := h', toks := t' } := I.un (Un.kept k) (I.hok.kept k)
/-- a new object laid and tracked -/
theorem Inv.laid {a : Addr} {o : HO} {t' : Nat} (I : Inv X pins σ H s) (k : ∀ b u, s.heap.get? b = some u → h'.get? b = some u) (hp : s.heap.objs.size ≤ a) (new : ObjOk X.prog X.w (upd H a o) h' a o) :
    Inv X pins σ (upd H a o) { s with heap := h', toks := t' } := I.un (Un.laid k hp (I.hok.fresh hp)) (I.hok.laid k hp new)
/-- an object written -/
theorem Inv.write {x e : Addr} {o : HO} {t' : Nat} (I : Inv X pins σ H s) (mu : Mut (H x)) (he : e = x ∨ H e = some (.own x)) (k : ∀ b u, b ≠ e → s.heap.get? b = some u → h'.get? b = some u) (heo : ∃ u, h'.get? e = some u)
    (new : ObjOk X.prog X.w (upd H x o) h' x o) : Inv X pins σ (upd H x o) { s with heap := h', toks := t' } := I.un (Un.write mu he k heo) (I.hok.write mu he k heo new)
theorem Inv.pins_of {pins' : List (Addr × Obj)} (I : Inv X pins σ H s) (h : ∀ p ∈ pins', s.heap.get? p.1 = some p.2 ∧ H p.1 = none ∧ p.1 ≠ X.env.locals ∧ p.1 ∉ X.fs ∧ ∀ v, p.2.data ≠ .cell v) : Inv X pins' σ H s :=
  ⟨I.ok, I.os, I.bare, I.base, I.loc, I.cell, I.free, I.freeC, fun p hp => (List.mem_append.mp hp).elim (fun z => I.pin p (List.mem_append_left _ z)) (h p), I.hok, I.len⟩

theorem nodup_ix {N : List Str} (hN : N.Nodup) {i j : Nat} {x : Str} (a : N[i]? = some x) (b : N[j]? = some x) : i = j := by
  obtain ⟨h1, e1⟩ := List.getElem?_eq_some_iff.mp a
  obtain ⟨h2, e2⟩ := List.getElem?_eq_some_iff.mp b
  exact (List.getElem_inj hN).mp (e1.trans e2.symm)

/-- a name is stored; what changed -/
theorem store_ok2 {M : Model} {A : Around} {E : Value → Shared → Prop} {i : Nat} {x : Str} {v : V} {u : Value} {Q : Unit → Shared → Prop} (I : Inv X pins σ H s) (hN : X.N.Nodup) (hi : X.N[i]? = some x) (hx : Loc X.env.scope x) (r : RelV v u)
    (h : ∀ s', Inv X pins (σ.set i (some v)) H s' → (∃ a, Heap.SameBut a s.heap s'.heap ∧ (a = X.env.locals ∨ X.env.cells.lookup x = some a)) → Q () s') (hf : X.fn x = true ∨ X.env.scope.names.lookup x = some .local := by first | exact .inl rfl | exact .inr rfl | assumption) : wpAny M A (storeName X.env x u) Q E s := by
  obtain ⟨m, hn, hl⟩ := id I.loc
  have hcls : (X.env.scope.kind == .class || (X.env.scope.kind == .module && X.env.locals != X.env.globals)) = false := by rw [I.ok.kind]; rfl
  have hiσ : i < σ.length := by rw [I.len]; exact (List.getElem?_eq_some_iff.mp hi).1
  have cne := I.cne
  have tracked : ∀ {a : Addr} {h' : Heap}, (∃ o, s.heap.get? a = some o ∧ H a = none) → Heap.SameBut a s.heap h' → HOk X.prog X.w H h' := fun {a h'} ha hs b ob e => by
    obtain ⟨_, _, hfree⟩ := ha
    refine (I.hok b ob e).stay (fun c w' hc q => (hs.2 c ?_).trans q) (fun _ q => q) fun _ _ q => q
    rintro rfl
    rcases hc with rfl | hc
    · rw [hfree] at e; cases e
    · rw [hfree] at hc; cases hc
  rcases hx with hk | hk
  · refine wpAny_storeName_local hk hn (fun h' hn' hs => ?_) hcls
    obtain ⟨oL, _, _, hoL, _⟩ := id hn
    refine h _ ⟨I.ok, I.os, I.bare, ⟨fun b o e n hb hx => ?_, fun b o e n hb hx => ?_, I.base.free, fun b o e hx => ?_, I.base.tups, I.base.frzs, I.base.tbls⟩, ⟨_, hn', fun j y v' e1 e2 e3 => ?_⟩, fun y c e => ?_, I.free, I.freeC, fun p hp => ?_, tracked ⟨oL, hoL, I.free⟩ hs, by simpa using I.len⟩ ⟨_, hs, .inl rfl⟩
    · exact (hs.2 b (Nat.ne_of_lt (Nat.lt_of_lt_of_le (Heap.lt_size e) I.ok.above))).trans (I.base.keep b o e n hb hx)
    · obtain ⟨sl, e1⟩ := I.base.slot b o e n hb hx
      exact ⟨sl, (hs.2 b (Nat.ne_of_lt (Nat.lt_of_lt_of_le (Heap.lt_size e) I.ok.above))).trans e1⟩
    · obtain ⟨o', e1⟩ := I.base.there b o e hx
      exact ⟨o', (hs.2 b (Nat.ne_of_lt (Nat.lt_of_lt_of_le (Heap.lt_size e) I.ok.above))).trans e1⟩
    · by_cases hj : j = i
      · subst hj
        rw [hi] at e1; cases e1
        rw [List.getElem?_set_self hiσ] at e2
        cases e2
        exact ⟨u, r, .inl ⟨hk, by simp⟩⟩
      · rw [List.getElem?_set_ne (Ne.symm hj)] at e2
        obtain ⟨u', r', q⟩ := hl j y v' e1 e2 e3
        refine ⟨u', r', ?_⟩
        rcases q with ⟨k, e⟩ | ⟨k, c, e, z⟩
        · refine .inl ⟨k, ?_⟩
          have : y ≠ x := fun e => hj (nodup_ix hN e1 (e ▸ hi))
          simp [this, e]
        · exact .inr ⟨k, c, e, z.sameBut hs (cne y c e)⟩
    · obtain ⟨w', z⟩ := I.cell y c e
      exact ⟨w', z.sameBut hs (cne y c e)⟩
    · obtain ⟨e, n, ne, nf, d⟩ := I.pin p hp
      exact ⟨(hs.2 p.1 ne).trans e, n, ne, nf, d⟩
  · have hfn : X.fn x = true := by
      rcases hf with z | z
      · exact z
      · rw [z] at hk; cases hk
    obtain ⟨c, hc⟩ := I.ok.has x (.inl hk)
    obtain ⟨w', z⟩ := I.cell x c hc
    refine wpAny_storeName_cell I.ok.kind hk hc z (fun h' hc' hs => ?_)
    obtain ⟨oc, hoc, hocd⟩ := id z
    refine h { s with heap := h' } ⟨I.ok, I.os, I.bare, ⟨fun b o e n hb hx => ?_, fun b o e n hb hx => ?_, I.base.free, fun b o e hx => ?_, I.base.tups, I.base.frzs, I.base.tbls⟩, ⟨m, hn.sameBut hs (Ne.symm (cne x c hc)), fun j y v' e1 e2 e3 => ?_⟩, fun y c' e => ?_, I.free, I.freeC, fun p hp => ?_, tracked ⟨oc, hoc, I.freeC x c hc⟩ hs, by simpa using I.len⟩ ⟨c, hs, .inr hc⟩
    · exact (hs.2 b (Nat.ne_of_lt (Nat.lt_of_lt_of_le (Heap.lt_size e) (I.ok.cab x c hfn hc)))).trans (I.base.keep b o e n hb hx)
    · obtain ⟨sl, e1⟩ := I.base.slot b o e n hb hx
      exact ⟨sl, (hs.2 b (Nat.ne_of_lt (Nat.lt_of_lt_of_le (Heap.lt_size e) (I.ok.cab x c hfn hc)))).trans e1⟩
    · obtain ⟨o', e1⟩ := I.base.there b o e hx
      exact ⟨o', (hs.2 b (Nat.ne_of_lt (Nat.lt_of_lt_of_le (Heap.lt_size e) (I.ok.cab x c hfn hc)))).trans e1⟩
    · by_cases hj : j = i
      · subst hj
        rw [hi] at e1; cases e1
        rw [List.getElem?_set_self hiσ] at e2
        cases e2
        exact ⟨u, r, .inr ⟨.inl hk, c, hc, hc'⟩⟩
      · rw [List.getElem?_set_ne (Ne.symm hj)] at e2
        obtain ⟨u', r', q⟩ := hl j y v' e1 e2 e3
        refine ⟨u', r', ?_⟩
        rcases q with q | ⟨k, c', e, z'⟩
        · exact .inl q
        · refine .inr ⟨k, c', e, z'.sameBut hs ?_⟩
          rintro rfl
          exact hj (nodup_ix hN e1 (I.ok.inj _ _ _ e hc ▸ hi))
    · by_cases hcc : c' = c
      · subst hcc; exact ⟨_, hc'⟩
      · obtain ⟨w2, z2⟩ := I.cell y c' e
        exact ⟨w2, z2.sameBut hs hcc⟩
    · obtain ⟨e, n, ne, nf, d⟩ := I.pin p hp
      refine ⟨(hs.2 p.1 ?_).trans e, n, ne, nf, d⟩
      intro q
      rw [q, hoc] at e
      have q' : oc = p.2 := Option.some.inj e
      exact d w' (by rw [← q']; exact hocd)
theorem store_ok {M : Model} {A : Around} {E : Value → Shared → Prop} {i : Nat} {x : Str} {v : V} {u : Value} {Q : Unit → Shared → Prop} (I : Inv X pins σ H s) (hN : X.N.Nodup) (hi : X.N[i]? = some x) (hx : Loc X.env.scope x) (r : RelV v u)
    (h : ∀ s', Inv X pins (σ.set i (some v)) H s' → Q () s') (hf : X.fn x = true ∨ X.env.scope.names.lookup x = some .local := by first | exact .inl rfl | exact .inr rfl | assumption) : wpAny M A (storeName X.env x u) Q E s :=
  store_ok2 I hN hi hx r (fun s' I' _ => h s' I') hf
/-- behind a call or a block, the state as it is -/
theorem Inv.call' {s' : Shared} {ch : List Addr} (I : Inv X pins σ H s) (ho : s'.os = s.os) (u : Un (frs X.stack) ch H H' s.heap s'.heap) (hok : HOk X.prog X.w H' s'.heap) (hg : AllBare s'.gens)
    (hch : ∀ b ∈ ch, (b ∈ X.ex ∨ X.s₀.heap.objs.size ≤ b) ∧ b ≠ X.env.locals ∧ (∀ x c, X.env.cells.lookup x = some c → c ≠ b) ∧ ∀ p ∈ X.pn ++ pins, p.1 ≠ b) : Inv X pins σ H' s' := by
  obtain ⟨h', g', d', t', o'⟩ := s'
  have e : o' = s.os := ho
  subst e
  exact I.call (g' := g') (t' := t') (d' := d') u hok hg hch
end

/-! ### the judgements -/
/-- an exception: its class, its own dict's address (where it has one), the abstract heap behind it -/
abbrev XK := Value → Option Addr → Hp → Prop
abbrev St := List (Option V)
abbrev VK := V → Hp → Prop
/-- an expression's reading; a test's; an argument list's -/
abbrev TE := St → Hp → VK → Prop
abbrev TT := St → Hp → (Bool → Hp → Prop) → Prop
abbrev TA := St → Hp → (List V → Hp → Prop) → Prop
/-- what is wanted behind a statement -/
structure Ends where
  nx : St → Hp → Prop
  rt : VK
  bk : St → Hp → Prop := fun _ _ => False
  ct : St → Hp → Prop := fun _ _ => False
abbrev TS := Ends → St → Hp → Prop

def EP (X : Cx) (pins : List (Addr × Obj)) (σ : St) (Q : VK) (u : Value) (s' : Shared) : Prop := ∃ v H', Inv X pins σ H' s' ∧ RelV v u ∧ Q v H'
def TP (X : Cx) (pins : List (Addr × Obj)) (σ : St) (Q : Bool → Hp → Prop) (b : Bool) (s' : Shared) : Prop := ∃ H', Inv X pins σ H' s' ∧ Q b H'
def AP (X : Cx) (pins : List (Addr × Obj)) (σ : St) (Q : List V → Hp → Prop) (us : List Value) (s' : Shared) : Prop := ∃ vs H', Inv X pins σ H' s' ∧ Vals vs us ∧ Q vs H'
def SP (X : Cx) (pins : List (Addr × Obj)) (D : Ends) (f : Flow) (s' : Shared) : Prop :=
  match f with
  | .next => ∃ σ' H', Inv X pins σ' H' s' ∧ D.nx σ' H'
  | .brk => ∃ σ' H', Inv X pins σ' H' s' ∧ D.bk σ' H'
  | .cont => ∃ σ' H', Inv X pins σ' H' s' ∧ D.ct σ' H'
  | .ret u => ∃ v σ' H', Inv X pins σ' H' s' ∧ RelV v u ∧ D.rt v H'

def PE (X : Cx) (e : Expr) (t : TE) : Prop :=
  ∀ (pins : List (Addr × Obj)) (s : Shared) (σ : St) (H : Hp) (Q : VK), Inv X pins σ H s → t σ H Q → wpAny (model X.prog X.w) X.A (eval e X.env) (EP X pins σ Q) X.xe s
def PT (X : Cx) (e : Expr) (t : TT) : Prop :=
  ∀ (pins : List (Addr × Obj)) (s : Shared) (σ : St) (H : Hp) (Q : Bool → Hp → Prop), Inv X pins σ H s → t σ H Q → wpAny (model X.prog X.w) X.A (isTrue e X.env (eval e X.env)) (TP X pins σ Q) X.xe s
/-- a test whatever its 'whole' is (and, or) -/
def PW (X : Cx) (e : Expr) (t : TT) : Prop :=
  ∀ (whole : Sem Value) (pins : List (Addr × Obj)) (s : Shared) (σ : St) (H : Hp) (Q : Bool → Hp → Prop), Inv X pins σ H s → t σ H Q → wpAny (model X.prog X.w) X.A (isTrue e X.env whole) (TP X pins σ Q) X.xe s
theorem PW.pt {X : Cx} {e : Expr} {t : TT} (h : PW X e t) : PT X e t := h _
/-- an argument list (no star), from the left -/
def PA (X : Cx) (es : List Expr) (t : TA) : Prop :=
  ∀ (pos : Pos) (pins : List (Addr × Obj)) (s : Shared) (σ : St) (H : Hp) (Q : List V → Hp → Prop), Inv X pins σ H s → t σ H Q → wpAny (model X.prog X.w) X.A (spliced (backTo pos (starEach es X.env))) (AP X pins σ Q) X.xe s
def PS (X : Cx) (st : Stmt) (t : TS) : Prop :=
  ∀ (pins : List (Addr × Obj)) (s : Shared) (σ : St) (H : Hp) (D : Ends), Inv X pins σ H s → t D σ H → wpAny (model X.prog X.w) X.A (exec st X.env) (SP X pins D) X.xe s
def PSs (X : Cx) (st : List Stmt) (t : TS) : Prop :=
  ∀ (pins : List (Addr × Obj)) (s : Shared) (σ : St) (H : Hp) (D : Ends), Inv X pins σ H s → t D σ H → wpAny (model X.prog X.w) X.A (execs st X.env) (SP X pins D) X.xe s
/-- weaken the end -/
theorem thn {α : Type} {t : Sem α} {Q Q' : α → Shared → Prop} {M : Model} {A : Around} {E : Value → Shared → Prop} {s : Shared} (h : wpAny M A t Q E s) (hQ : ∀ a s, Q a s → Q' a s) : wpAny M A t Q' E s := wpAny_mono h hQ fun _ _ x => x
end L2

namespace L2
open PySem PySem.Spec PyProof.Rows
section
variable {X : Cx}

/-! ### names and constants -/
def tVar (i : Nat) : TE := fun σ H Q => ∃ v, σ[i]? = some (some v) ∧ Q v H
def tC (v : V) : TE := fun _ H Q => Q v H
theorem pe_var {i : Nat} {x : Str} {pos : Pos} (hN : X.N[i]? = some x) (hv : Vis X.env.scope x) (hd : (x == ("__debug__" : Str)) = false := by decide) (hcd : (x == ("__classdict__" : Str)) = false := by decide) : PE X (.Name x pos) (tVar i) := by
  intro pins s σ H Q I h
  obtain ⟨v, e, h⟩ := h
  obtain ⟨m, hn, hl⟩ := I.loc
  obtain ⟨u, r, l⟩ := hl i x v hN e hv
  have fin : EP X pins σ Q u s := ⟨v, H, I, r, h⟩
  rcases l with ⟨hk, hm⟩ | ⟨hk, c, hc, hcell⟩
  · exact wpAny_Name (wpAny_loadName_local I.ok.kind hk hn hm fin) hd
  · rcases hk with hk | hk
    · exact wpAny_Name (wpAny_loadName_cell I.ok.kind hk hc hcell fin) hd
    · exact wpAny_Name (wpAny_loadName_free I.ok.kind hk hc hcell fin hcd) hd
theorem pe_int {i j pos} : PE X (.Constant (.int i) j pos) (tC (.int i)) := fun _ _ _ H _ I h => wpAny_Constant_int ⟨.int i, H, I.tok _, ⟨_, rfl⟩, h⟩
theorem pe_bl {b j pos} : PE X (.Constant (.bool b) j pos) (tC (.bl b)) := fun _ _ _ H _ I h => Constant_bool ⟨.bl b, H, I, rfl, h⟩
theorem pe_str {x j pos} : PE X (.Constant (.str x) j pos) (tC (.str x)) := fun _ _ _ H _ I h => Calls.Constant_str ⟨.str x, H, I.tok _, ⟨_, rfl⟩, h⟩

/-- a global name of the def -/
def Gl (X : Cx) (x : Str) : Prop := X.env.kindOf x = some .globalImplicit
theorem ld_glob {E : Value → Shared → Prop} {pins : List (Addr × Obj)} {s : Shared} {σ : St} {H : Hp} {x : Str} {u : Value} {pos : Pos} {Q : Value → Shared → Prop} (I : Inv X pins σ H s) (hg : Gl X x) (hm : X.mg x = some u) (h : Q u s)
    (hd : (x == ("__debug__" : Str)) = false := by decide) : wpAny (model X.prog X.w) X.A (eval (.Name x pos) X.env) Q E s :=
  Calls.Name_function_global I.ok.kind hg (Calls.loadGlobal_global (by rw [I.ok.glob]; exact I.mod.glob.keeps I.bk) hm h) hd
theorem ld_blt {E : Value → Shared → Prop} {pins : List (Addr × Obj)} {s : Shared} {σ : St} {H : Hp} {x : Str} {u : Value} {pos : Pos} {Q : Value → Shared → Prop} (I : Inv X pins σ H s) (hg : Gl X x) (hm : X.mg x = none) (hv : bootBuiltins x = some u) (h : Q u s)
    (hn : x ≠ "__name__" := by decide) (hd : (x == ("__debug__" : Str)) = false := by decide) : wpAny (model X.prog X.w) X.A (eval (.Name x pos) X.env) Q E s := by
  obtain ⟨mb, h1, h2⟩ := I.mod.blt
  exact Calls.Name_function_global I.ok.kind hg (Calls.loadGlobal_builtin (by rw [I.ok.glob]; exact I.mod.glob.keeps I.bk) hm (by rw [I.ok.blt]; exact h1.keeps I.bk) ((h2 x hn).trans hv) h) hd
/-- a module's constant, a class, a function, as a value -/
theorem pe_glob {x : Str} {v : V} {u : Value} {pos : Pos} (hg : Gl X x) (hm : X.mg x = some u) (r : RelV v u) (hd : (x == ("__debug__" : Str)) = false := by decide) : PE X (.Name x pos) (tC v) :=
  fun _ _ _ H _ I h => ld_glob I hg hm ⟨v, H, I, r, h⟩ hd
/-! ### arithmetic -/
variable {a b : Expr} {ta tb : TE} {pos : Pos}
/-! ### comparisons -/
/-- a comparison as a value, as a test -/
def tB (t : TE) : TT := fun σ H Q => t σ H fun x H1 => ∃ c, x = .bl c ∧ Q c H1
/-- an expression whose value is a bool, as a test -/
theorem pt_val {e : Expr} {t : TE} (h : PE X e t) (he : ∀ whole, isTrue e X.env whole = (do let v ← whole; standAt e.pos; holding [v] (truthy v)) := by intro _; rfl) : PT X e (tB t) := by
  intro pins s σ H Q I hw
  refine isTrue_plain (thn (h pins s σ H _ I hw) fun v s1 ⟨x, H1, I1, r1, q1⟩ => ?_) (he _)
  obtain ⟨d, rfl, q⟩ := q1
  cases r1
  exact wpAny_truthy_bool ⟨H1, I1, q⟩

/-! ### and, or, not -/
variable {tA tB' : TT} {rest : List Expr}
def tAnd (t u : TT) : TT := fun σ H Q => t σ H fun c H1 => if c = true then u σ H1 Q else Q false H1
def tOr (t u : TT) : TT := fun σ H Q => t σ H fun c H1 => if c = true then Q true H1 else u σ H1 Q
def tNot (t : TT) : TT := fun σ H Q => t σ H fun c H1 => Q (!c) H1
theorem pw_and1 (ha : PT X a tA) : PW X (.BoolOp .And [a] pos) tA := by
  intro wh pins s σ H Q I h
  refine isTrue_and (thn (ha pins s σ H Q I h) fun c s1 e => ?_)
  cases c with
  | true => exact isTrue_and_nil e
  | false => exact e
theorem pw_or1 (ha : PT X a tA) : PW X (.BoolOp .Or [a] pos) tA := by
  intro wh pins s σ H Q I h
  refine isTrue_or (thn (ha pins s σ H Q I h) fun c s1 e => ?_)
  cases c with
  | false => exact isTrue_or_nil e
  | true => exact e
theorem pw_and (ha : PT X a tA) (hb : PW X (.BoolOp .And (b :: rest) pos) tB') : PW X (.BoolOp .And (a :: b :: rest) pos) (tAnd tA tB') := by
  intro wh pins s σ H Q I h
  refine isTrue_and (thn (ha pins s σ H _ I h) fun c s1 ⟨H1, I1, q1⟩ => ?_)
  cases c with
  | true => exact hb wh pins s1 σ H1 Q I1 q1
  | false => exact ⟨H1, I1, q1⟩
theorem pw_or (ha : PT X a tA) (hb : PW X (.BoolOp .Or (b :: rest) pos) tB') : PW X (.BoolOp .Or (a :: b :: rest) pos) (tOr tA tB') := by
  intro wh pins s σ H Q I h
  refine isTrue_or (thn (ha pins s σ H _ I h) fun c s1 ⟨H1, I1, q1⟩ => ?_)
  cases c with
  | true => exact ⟨H1, I1, q1⟩
  | false => exact hb wh pins s1 σ H1 Q I1 q1
theorem pt_not (ha : PT X a tA) : PT X (.UnaryOp .Not a pos) (tNot tA) := by
  intro pins s σ H Q I h
  exact isTrue_not (ha pins s σ H (fun c H1 => Q (!c) H1) I h)
/-- .. as values (bools) -/
def tAndV (ta tb : TE) : TE := fun σ H Q => ta σ H fun x H1 => ∃ c, x = .bl c ∧ if c = true then tb σ H1 Q else Q (.bl false) H1
def tOrV (ta tb : TE) : TE := fun σ H Q => ta σ H fun x H1 => ∃ c, x = .bl c ∧ if c = true then Q (.bl true) H1 else tb σ H1 Q
def tNotV (ta : TE) : TE := fun σ H Q => ta σ H fun x H1 => ∃ c, x = .bl c ∧ Q (.bl (!c)) H1
theorem pe_one {op} {t : TE} (h : PE X a t) : PE X (.BoolOp op [a] pos) t := fun pins s σ H Q I hw => BoolOp_one (h pins s σ H Q I hw)
theorem pe_and (ha : PE X a ta) (hb : PE X (.BoolOp .And (b :: rest) pos) tb) : PE X (.BoolOp .And (a :: b :: rest) pos) (tAndV ta tb) := by
  intro pins s σ H Q I h
  refine BoolOp_and (thn (ha pins s σ H _ I h) fun v s1 ⟨x, H1, I1, r1, q1⟩ => ?_)
  obtain ⟨c, rfl, q1⟩ := q1
  cases r1
  refine wpAny_truthy_bool ?_
  cases c with
  | true => exact hb pins s1 σ H1 Q I1 q1
  | false => exact ⟨.bl false, H1, I1, rfl, q1⟩
theorem pe_or (ha : PE X a ta) (hb : PE X (.BoolOp .Or (b :: rest) pos) tb) : PE X (.BoolOp .Or (a :: b :: rest) pos) (tOrV ta tb) := by
  intro pins s σ H Q I h
  refine BoolOp_or (thn (ha pins s σ H _ I h) fun v s1 ⟨x, H1, I1, r1, q1⟩ => ?_)
  obtain ⟨c, rfl, q1⟩ := q1
  cases r1
  refine wpAny_truthy_bool ?_
  cases c with
  | false => exact hb pins s1 σ H1 Q I1 q1
  | true => exact ⟨.bl true, H1, I1, rfl, q1⟩
theorem pe_not (ha : PE X a ta) : PE X (.UnaryOp .Not a pos) (tNotV ta) := by
  intro pins s σ H Q I h
  refine UnaryOp_ (thn (ha pins s σ H _ I h) fun v s1 ⟨x, H1, I1, r1, q1⟩ => ?_)
  obtain ⟨c, rfl, q1⟩ := q1
  cases r1
  exact not_of (wpAny_truthy_bool ⟨.bl (!c), H1, I1, rfl, q1⟩)
/-- a if t else b -/
def tIf (t : TT) (ta tb : TE) : TE := fun σ H Q => t σ H fun c H1 => if c = true then ta σ H1 Q else tb σ H1 Q
theorem pe_ifExp {c : Expr} (hc : PT X c tA) (ha : PE X a ta) (hb : PE X b tb) : PE X (.IfExp c a b pos) (tIf tA ta tb) := by
  intro pins s σ H Q I h
  refine wpAny_IfExp (thn (hc pins s σ H _ I h) fun d s1 ⟨H1, I1, q1⟩ => ?_)
  cases d with
  | true => exact ha pins s1 σ H1 Q I1 q1
  | false => exact hb pins s1 σ H1 Q I1 q1
end
end L2

namespace L2
open PySem PySem.Spec PyProof.Rows

/-! ### a list, a tuple that is read: tracked, frozen, or an object of the module -/
def SqL (K : PySem.W.Frag) (H : Hp) (a : Addr) (xs : List V) : Prop :=
  Rd H a (.lst xs) ∨
    ∃ (o : Obj) (its : Array Value) (n : Nat), K.lookup a = some o ∧ o.cls = .type "list" ∧ o.dict = none ∧ o.data = .seq its n ∧ its.size ≤ sizeLine ∧ Vals xs its.toList
def SqT (K : PySem.W.Frag) (H : Hp) (a : Addr) (xs : List V) : Prop :=
  Rd H a (.tup xs) ∨
    ∃ (o : Obj) (its : Array Value) (n : Nat), K.lookup a = some o ∧ o.cls = .type "tuple" ∧ o.data = .seq its n ∧ its.size ≤ sizeLine ∧ Vals xs its.toList
def absV : Value → Option V
  | .none => some .non
  | .bool b => some (.bl b)
  | .int i _ => some (.int i)
  | .str x _ => some (.str x)
  | .bytes b _ => some (.byt b)
  | .float b _ => some (.flt b)
  | .ref a => some (.ref a)
  | .type n => some (.ty n)
  | _ => none
theorem RelV.abs {x : V} {u : Value} (r : RelV x u) : absV u = some x := by
  cases x with
  | non => cases r; rfl
  | bl _ => cases r; rfl
  | int _ => obtain ⟨t, rfl⟩ := r; rfl
  | str _ => obtain ⟨t, rfl⟩ := r; rfl
  | byt _ => obtain ⟨t, rfl⟩ := r; rfl
  | flt _ => obtain ⟨t, rfl⟩ := r; rfl
  | ref _ => cases r; rfl
  | ty _ => cases r; rfl
theorem RelV.inj {x y : V} {u : Value} (r : RelV x u) (q : RelV y u) : x = y := Option.some.inj (r.abs.symm.trans q.abs)
theorem Vals.inj : ∀ {xs ys : List V} {us : List Value}, Vals xs us → Vals ys us → xs = ys
  | _, _, _, .nil, .nil => rfl
  | _, _, _, .cons r t, .cons r' t' => by rw [r.inj r', Vals.inj t t']
section
variable {X : Cx} {pins : List (Addr × Obj)} {σ : St} {H : Hp} {s : Shared} {a : Addr} {xs ys : List V}
theorem SqL.of {K : PySem.W.Frag} (h : H a = some (.lst xs)) : SqL K H a xs := .inl (.inl h)
theorem SqT.of {K : PySem.W.Frag} (h : H a = some (.tup xs)) : SqT K H a xs := .inl (.inl h)
theorem Inv.list (I : Inv X pins σ H s) (h : SqL X.K H a xs) : ∃ its : List Value, Vals xs its ∧ PlainL s.heap a its.toArray ∧ xs.length ≤ sizeLine := by
  rcases h with h | ⟨o, its, n, hk, hc, hd, hs, hz, r⟩
  · obtain ⟨z, its, n, r, e⟩ := h.ok I.hok
    exact ⟨its, r, ⟨_, n, e, rfl, rfl, rfl⟩, z⟩
  · refine ⟨its.toList, r, ⟨o, n, I.kIn a o hk, hc, hd, by simpa using hs⟩, ?_⟩
    have e := r.length
    simp only [Array.length_toList] at e
    omega
theorem Inv.tuple (I : Inv X pins σ H s) (h : SqT X.K H a xs) : ∃ its : List Value, Vals xs its ∧ IsTup s.heap a its.toArray ∧ xs.length ≤ sizeLine := by
  rcases h with h | ⟨o, its, n, hk, hc, hs, hz, r⟩
  · obtain ⟨z, its, r, p⟩ := h.ok I.hok
    exact ⟨its, r, p, z⟩
  · refine ⟨its.toList, r, ⟨o, I.kIn a o hk, hc, n, by simpa using hs⟩, ?_⟩
    have e := r.length
    simp only [Array.length_toList] at e
    omega
theorem Inv.list_inj (I : Inv X pins σ H s) (h : SqL X.K H a xs) (h' : SqL X.K H a ys) : xs = ys := by
  obtain ⟨its, r, ⟨o, n, e, _, _, d⟩, _⟩ := I.list h
  obtain ⟨its', r', ⟨o', n', e', _, _, d'⟩, _⟩ := I.list h'
  rw [e] at e'; cases e'
  rw [d] at d'
  injection d' with d1 _
  have : its = its' := by simpa using congrArg Array.toList d1
  subst this
  exact r.inj r'
end

/-! ### another wish about exceptions -/
abbrev Cx.wish (X : Cx) (E : Value → Shared → Prop) : Cx := { X with xe := E }
/-- no exception leaves -/
abbrev Cx.nox (X : Cx) : Cx := X.wish fun _ _ => False
theorem Cx.Ok.wish {X : Cx} (ok : X.Ok) (E : Value → Shared → Prop) : (X.wish E).Ok :=
  ⟨ok.mod, ok.kind, ok.glob, ok.blt, ok.above, ok.inj, ok.has, ok.cab, ok.hd, ok.frames, ok.stk, ok.exf, ok.bs, ok.bsz, ok.noex, ok.exfs, ok.funs, ok.frf⟩
theorem Cx.Ok.unwish {X : Cx} {E : Value → Shared → Prop} (ok : (X.wish E).Ok) : X.Ok :=
  ⟨ok.mod, ok.kind, ok.glob, ok.blt, ok.above, ok.inj, ok.has, ok.cab, ok.hd, ok.frames, ok.stk, ok.exf, ok.bs, ok.bsz, ok.noex, ok.exfs, ok.funs, ok.frf⟩
section
variable {X : Cx} {pins : List (Addr × Obj)} {σ : St} {H : Hp} {s : Shared} {E : Value → Shared → Prop}
theorem Inv.wish (I : Inv X pins σ H s) (E : Value → Shared → Prop) : Inv (X.wish E) pins σ H s := ⟨I.ok.wish E, I.os, I.bare, I.base, I.loc, I.cell, I.free, I.freeC, I.pin, I.hok, I.len⟩
theorem Inv.unwish (I : Inv (X.wish E) pins σ H s) : Inv X pins σ H s := ⟨I.ok.unwish, I.os, I.bare, I.base, I.loc, I.cell, I.free, I.freeC, I.pin, I.hok, I.len⟩
theorem SP.unwish {D : Ends} {f : Flow} {s' : Shared} (h : SP (X.wish E) pins D f s') : SP X pins D f s' := by
  cases f with
  | next => obtain ⟨σ', H', I, q⟩ := h; exact ⟨σ', H', I.unwish, q⟩
  | brk => obtain ⟨σ', H', I, q⟩ := h; exact ⟨σ', H', I.unwish, q⟩
  | cont => obtain ⟨σ', H', I, q⟩ := h; exact ⟨σ', H', I.unwish, q⟩
  | ret u => obtain ⟨v, σ', H', I, r, q⟩ := h; exact ⟨v, σ', H', I.unwish, r, q⟩
theorem PSs.nox {st : List Stmt} {t : TS} (h : PSs X.nox st t) : PSs X st t := fun pins s σ H D I hw =>
  wpAny_mono (h pins s σ H D (I.wish _) hw) (fun _ _ q => q.unwish) fun _ _ z => False.elim z
end

/-! ### blocks and small statements -/
section
variable {X : Cx} {st : Stmt} {rest : List Stmt} {t u : TS} {e : Expr} {te : TE} {pos : Pos}
def tNext : TS := fun D σ H => D.nx σ H
def tSeq (t u : TS) : TS := fun D σ H => t { D with nx := u D } σ H
theorem pss_nil : PSs X [] tNext := fun _ _ σ H _ I h => wpAny_execs_nil ⟨σ, H, I, h⟩
theorem pss_cons (h1 : PS X st t) (h2 : PSs X rest u) : PSs X (st :: rest) (tSeq t u) := by
  intro pins s σ H D I h
  refine wpAny_execs_cons (thn (h1 pins s σ H { D with nx := u D } I h) fun f s1 q => ?_)
  cases f with
  | next =>
    obtain ⟨σ', H', I', q⟩ := q
    exact h2 pins s1 σ' H' D I' q
  | ret v => exact q
  | brk => exact q
  | cont => exact q
theorem pss_one (h1 : PS X st t) : PSs X [st] t := by
  intro pins s σ H D I h
  refine wpAny_execs_cons (thn (h1 pins s σ H D I h) fun f s1 q => ?_)
  cases f with
  | next => exact wpAny_execs_nil q
  | ret v => exact q
  | brk => exact q
  | cont => exact q
/-- in a def's body nothing is shown -/
theorem Inv.quiet {pins : List (Addr × Obj)} {σ : St} {H : Hp} {s : Shared} (I : Inv X pins σ H s) : interactive X.env = false := by simp [interactive, I.ok.kind]
/-- an expression whose value is dropped -/
def tDrop (te : TE) : TS := fun D σ H => te σ H fun _ H1 => D.nx σ H1
theorem ps_expr (he : PE X e te) (hs : swapsWith e none pos.line X.env = pure false := by rfl) : PS X (.Expr e pos) (tDrop te) := by
  intro pins s σ H D I h
  exact wpAny_Expr_any (thn (he pins s σ H _ I h) fun v s1 ⟨x, H1, I1, r1, q1⟩ => ⟨σ, H1, I1, q1⟩) I.quiet hs
def tRet (te : TE) : TS := fun D σ H => te σ H D.rt
theorem ps_ret (he : PE X e te) : PS X (.Return (some e) pos) (tRet te) := by
  intro pins s σ H D I h
  exact wpAny_Return_some (thn (he pins s σ H _ I h) fun v s1 ⟨x, H1, I1, r1, q1⟩ => ⟨x, σ, H1, I1, r1, q1⟩)
def tIfS (c : TT) (t u : TS) : TS := fun D σ H => c σ H fun b H1 => if b = true then t D σ H1 else u D σ H1
theorem ps_if {c : Expr} {a b : List Stmt} {tc : TT} (hc : PT X c tc) (ha : PSs X a t) (hb : PSs X b u) : PS X (.If c a b pos) (tIfS tc t u) := by
  intro pins s σ H D I h
  refine wpAny_If (thn (hc pins s σ H _ I h) fun d s1 ⟨H1, I1, q1⟩ => ?_)
  cases d with
  | true => exact ha pins s1 σ H1 D I1 q1
  | false => exact hb pins s1 σ H1 D I1 q1
/-- code that the proof never comes to -/
def tNever : TS := fun _ _ _ => False
theorem ps_never : PS X st tNever := fun _ _ _ _ _ _ h => h.elim
end

/-! ### targets -/
abbrev TG := V → St → Hp → (St → Hp → Prop) → Prop
abbrev TGs := List V → St → Hp → (St → Hp → Prop) → Prop
def PG (X : Cx) (target : Expr) (t : TG) : Prop :=
  ∀ (pins : List (Addr × Obj)) (s : Shared) (σ : St) (H : Hp) (v : V) (u : Value) (Q : St → Hp → Prop), Inv X pins σ H s → RelV v u → t v σ H Q →
    wpAny (model X.prog X.w) X.A (assign target X.env u) (fun _ s' => ∃ σ' H', Inv X pins σ' H' s' ∧ Q σ' H') X.xe s
/-- several targets, one after another -/
def PGs (X : Cx) (ts : List Expr) (t : TGs) : Prop :=
  ∀ (pins : List (Addr × Obj)) (s : Shared) (σ : St) (H : Hp) (vs : List V) (us : List Value) (Q : St → Hp → Prop), Inv X pins σ H s → Vals vs us → t vs σ H Q →
    wpAny (model X.prog X.w) X.A (assignInOrder ((assignEach ts X.env).map (·.2)) us) (fun _ s' => ∃ σ' H', Inv X pins σ' H' s' ∧ Q σ' H') X.xe s
/-- a op= b, by values -/
abbrev TIp := V → V → Hp → VK → Prop
def PIp (X : Cx) (op : Operator) (t : TIp) : Prop :=
  ∀ (pins : List (Addr × Obj)) (s : Shared) (σ : St) (H : Hp) (x y : V) (v u : Value) (Q : VK), Inv X pins σ H s → RelV x v → RelV y u → t x y H Q →
    wpAny (model X.prog X.w) X.A (inplaceOp op v u) (EP X pins σ Q) X.xe s
section
variable {X : Cx} {pos : Pos}
def gName (i : Nat) : TG := fun v σ H Q => Q (σ.set i (some v)) H
theorem pg_name {i : Nat} {x : Str} (hN : X.N.Nodup) (hi : X.N[i]? = some x) (hx : Loc X.env.scope x) (hf : X.fn x = true ∨ X.env.scope.names.lookup x = some .local := by first | exact .inl rfl | exact .inr rfl | assumption) : PG X (.Name x pos) (gName i) := by
  intro pins s σ H v u Q I r h
  exact wpAny_assign_Name (store_ok I hN hi hx r (fun s' I' => ⟨_, H, I', h⟩) hf)
def gNil : TGs := fun vs σ H Q => vs = [] ∧ Q σ H
def gCons (t : TG) (u : TGs) : TGs := fun vs σ H Q => ∃ v r, vs = v :: r ∧ t v σ H fun σ' H' => u r σ' H' Q
theorem pgs_nil : PGs X [] gNil := by
  intro pins s σ H vs us Q I r h
  obtain ⟨e, h⟩ := h
  subst e
  cases r
  exact assignInOrder_nil ⟨σ, H, I, h⟩
theorem pgs_cons {e : Expr} {es : List Expr} {t : TG} {u : TGs} (h1 : PG X e t) (h2 : PGs X es u)
    (hs : (assignEach (e :: es) X.env).map (·.2) = assign e X.env :: (assignEach es X.env).map (·.2) := by rfl) : PGs X (e :: es) (gCons t u) := by
  intro pins s σ H vs us Q I r h
  obtain ⟨v, vr, e1, h⟩ := h
  subst e1
  cases r with
  | cons r rr =>
    rw [hs]
    refine assignInOrder_cons (thn (h1 pins s σ H _ _ _ I r h) fun _ s1 ⟨σ1, H1, I1, q1⟩ => ?_)
    exact h2 pins s1 σ1 H1 _ _ Q I1 rr q1
/-- (a, b, ..) = a tuple of that length -/
def gTup (K : PySem.W.Frag) (n : Nat) (t : TGs) : TG := fun v σ H Q => ∃ a xs, v = .ref a ∧ SqT K H a xs ∧ xs.length = n ∧ t xs σ H Q
theorem pg_tup {es : List Expr} {k : Nat} {t : TGs} {n : Nat} (hc : X.calm = true) (h : PGs X es t)
    (hn : (assignEach es X.env).length = n := by rfl) (hst : (assignEach es X.env).findIdx? (·.1) = none := by rfl) : PG X (.Tuple es k pos) (gTup X.K n t) := by
  intro pins s σ H v u Q I r hw
  obtain ⟨a, xs, e1, hq, hl, hw⟩ := hw
  subst e1
  cases r
  obtain ⟨its, rv, ht, hz⟩ := I.tuple hq
  refine assign_Tuple_tuple (I.ok.hd hc) ht (by simp [hn, ← hl, rv.length]) hst fun h' hx => ?_
  have I1 : Inv X pins σ H { s with heap := h' } := I.kept (t' := s.toks) fun b o e => hx b o (Nat.ne_of_lt (Heap.lt_size e)) e
  exact h pins _ σ H xs _ Q I1 (by simpa using rv) hw
/-- target = value -/
def tAsg (te : TE) (g : TG) : TS := fun D σ H => te σ H fun x H1 => g x σ H1 D.nx
/-- name = value -/
theorem ps_set {i : Nat} {x : Str} {e : Expr} {te : TE} {pos' : Pos} (hN : X.N.Nodup) (hi : X.N[i]? = some x) (hx : Loc X.env.scope x) (he : PE X e te) (hs : swapsWith e (some (.Name x pos')) pos.line X.env = pure false := by rfl) (hf : X.fn x = true ∨ X.env.scope.names.lookup x = some .local := by first | exact .inl rfl | exact .inr rfl | assumption) :
    PS X (.Assign [.Name x pos'] e pos) (tAsg te (gName i)) := by
  intro pins s σ H D I h
  refine wpAny_Assign_Name (thn (he pins s σ H _ I h) fun v s1 ⟨y, H1, I1, r1, q1⟩ => ?_) hs
  exact store_ok I1 hN hi hx r1 (fun s2 I2 => ⟨_, H1, I2, q1⟩) hf
/-- name op= e -/
def tAug (i : Nat) (te : TE) (ti : TIp) : TS := fun D σ H => ∃ x, σ[i]? = some (some x) ∧ te σ H fun y H1 => ti x y H1 fun z H2 => D.nx (σ.set i (some z)) H2
theorem ps_aug {i : Nat} {x : Str} {e : Expr} {te : TE} {op : Operator} {ti : TIp} {pos' : Pos} (hN : X.N.Nodup) (hi : X.N[i]? = some x) (hx : Loc X.env.scope x) (he : PE X e te) (ho : PIp X op ti) (hf : X.fn x = true ∨ X.env.scope.names.lookup x = some .local := by first | exact .inl rfl | exact .inr rfl | assumption) :
    PS X (.AugAssign (.Name x pos') op e pos) (tAug i te ti) := by
  intro pins s σ H D I h
  obtain ⟨v, e1, h⟩ := h
  obtain ⟨m, hn, hl⟩ := I.loc
  have vis : Vis X.env.scope x := by rcases hx with k | k; exact .inl k; exact .inr (.inl k)
  obtain ⟨u, r, l⟩ := hl i x v hi e1 vis
  refine wpAny_AugAssign_Name ?_
  have go : wpAny (model X.prog X.w) X.A (eval e X.env) (fun w s₂ => wpAny (model X.prog X.w) X.A (inplaceOp op u w) (fun r s₃ => wpAny (model X.prog X.w) X.A (storeName X.env x r) (fun _ => SP X pins D .next) X.xe s₃) X.xe s₂) X.xe s := by
    refine thn (he pins s σ H _ I h) fun w s1 ⟨y, H1, I1, r1, q1⟩ => ?_
    refine thn (ho pins s1 σ H1 v y u w _ I1 r r1 q1) fun z s2 ⟨zv, H2, I2, r2, q2⟩ => ?_
    exact store_ok I2 hN hi hx r2 (fun s3 I3 => ⟨_, H2, I3, q2⟩) hf
  rcases l with ⟨hk, hm⟩ | ⟨hk, c, hc, hcell⟩
  · exact wpAny_loadName_local I.ok.kind hk hn hm go
  · rcases hk with hk | hk
    · exact wpAny_loadName_cell I.ok.kind hk hc hcell go
    · rcases hx with k | k
      · have : X.env.scope.names.lookup x = some .free := hk
        rw [k] at this; cases this
      · have : X.env.scope.names.lookup x = some .free := hk
        rw [k] at this; cases this
/-- ints -/
def ipI (f : Int → Int → Int) : TIp := fun x y H Q => ∃ i j, x = .int i ∧ y = .int j ∧ Q (.int (f i j)) H
theorem ip_add : PIp X .Add (ipI fun i j => i + j) := by
  intro pins s σ H x y v u Q I r1 r2 h
  obtain ⟨i, j, e1, e2, q⟩ := h
  subst e1; subst e2
  obtain ⟨t, rfl⟩ := r1
  obtain ⟨t', rfl⟩ := r2
  exact iadd_int ⟨.int _, H, I.tok _, ⟨_, rfl⟩, q⟩
theorem ip_sub : PIp X .Sub (ipI fun i j => i - j) := by
  intro pins s σ H x y v u Q I r1 r2 h
  obtain ⟨i, j, e1, e2, q⟩ := h
  subst e1; subst e2
  obtain ⟨t, rfl⟩ := r1
  obtain ⟨t', rfl⟩ := r2
  exact isub_int ⟨.int _, H, I.tok _, ⟨_, rfl⟩, q⟩
end

/-! ### while -/
section
variable {X : Cx} {pos : Pos}
/-- the invariant W with its measure -/
def tWhile (c : TT) (tb : TS) : TS := fun D σ H => ∃ W : Nat → St → Hp → Prop, (∃ m, W m σ H) ∧ ∀ m σ H, W m σ H →
  c σ H fun b H1 => if b = true then ∃ N : St → Hp → Prop, (∀ σ' H', N σ' H' → ∃ m', m' < m ∧ W m' σ' H') ∧ tb { D with nx := N, ct := N, bk := D.nx } σ H1 else D.nx σ H1
theorem ps_while {c : Expr} {body : List Stmt} {tc : TT} {tb : TS} (hp : PassesOwn (model X.prog X.w) X.A X.env X.xe) (hc : PT X c tc) (hb : PSs X body tb) : PS X (.While c body [] pos) (tWhile tc tb) := by
  intro pins s σ H D I h
  obtain ⟨W, ⟨m0, w0⟩, turn⟩ := h
  refine wpAny_While (codeAny_whileLoop (fun n s' => ∃ σ' H', Inv X pins σ' H' s' ∧ W n σ' H') ?_ m0 ⟨σ, H, I, w0⟩)
  rintro n s1 ⟨σ1, H1, I1, w1⟩
  refine wpAny_passesOwn hp (thn (hc pins s1 σ1 H1 _ I1 (turn n σ1 H1 w1)) fun b s2 ⟨H2, I2, q2⟩ => ?_)
  cases b with
  | true =>
    obtain ⟨N, hN, q2⟩ := q2
    rw [if_pos rfl]
    refine wpAny_passesOwn hp (thn (hb pins s2 σ1 H2 _ I2 q2) fun f s3 q3 => ?_)
    cases f with
    | next =>
      obtain ⟨σ3, H3, I3, n3⟩ := q3
      obtain ⟨m', hm, w3⟩ := hN σ3 H3 n3
      exact ⟨m', hm, σ3, H3, I3, w3⟩
    | cont =>
      obtain ⟨σ3, H3, I3, n3⟩ := q3
      obtain ⟨m', hm, w3⟩ := hN σ3 H3 n3
      exact ⟨m', hm, σ3, H3, I3, w3⟩
    | brk => exact q3
    | ret v => exact q3
  | false =>
    rw [if_neg Bool.false_ne_true]
    exact wpAny_execs_nil ⟨σ1, H2, I2, q2⟩
end

/-! ### what a loop or a comprehension walks -/
/-- at turn i: it yields x (the heap may grow), or it stops -/
structure It where
  go : Nat → Hp → Prop
  yld : Nat → Hp → V → Hp → Prop
  stop : Nat → Hp → Prop
/-- the iterator's own objects may turn: they are not the frame's, not pinned, younger than the entry (or a comprehension's own) -/
def FpOk (X : Cx) (pins : List (Addr × Obj)) (H : Hp) (b : Addr) : Prop :=
  H b = none ∧ b ≠ X.env.locals ∧ b ∉ X.fs ∧ (b ∈ X.ex ∨ X.s₀.heap.objs.size ≤ b) ∧ (∀ x c, X.env.cells.lookup x = some c → c ≠ b) ∧ ∀ p ∈ X.pn ++ pins, p.1 ≠ b
theorem Inv.fpOk {X : Cx} {pins : List (Addr × Obj)} {σ : St} {H H' : Hp} {s : Shared} {b : Addr} (I : Inv X pins σ H s) (hb : s.heap.objs.size ≤ b) (hn : H' b = none) : FpOk X pins H' b := by
  refine ⟨hn, Nat.ne_of_gt (Nat.lt_of_lt_of_le I.lt hb), I.nofs hb, .inr (Nat.le_trans I.sz hb), fun x c e z => ?_, fun p hp z => ?_⟩
  · obtain ⟨v, q⟩ := I.cell x c e
    exact absurd (Nat.lt_of_lt_of_le q.lt (by rw [z]; exact hb)) (Nat.lt_irrefl _)
  · exact absurd (Nat.lt_of_lt_of_le (Heap.lt_size (I.pin p hp).1) (by rw [z]; exact hb)) (Nat.lt_irrefl _)
structure Turn (P : Program) (w : World) (K : PySem.W.Frag) (tg : Expr) (J : It) (fp : List Addr) (it : Addr) (tn : Nat → Heap → Prop) : Prop where
  mem : it ∈ fp
  obj : ∀ i h, tn i h → ∀ b ∈ fp, ∃ o, h.get? b = some o ∧ ∀ v, o.data ≠ .cell v
  keep : ∀ i h h', tn i h → (∀ b ∈ fp, ∀ o, h.get? b = some o → h'.get? b = some o) → tn i h'
  item : ∀ (X : Cx), X.prog = P → X.w = w → X.K = K → X.calm = true → ∀ (i : Nat) (pins : List (Addr × Obj)) (s : Shared) (σ : St) (H : Hp) (E : Value → Shared → Prop), Inv X pins σ H s → (∀ b ∈ fp, FpOk X pins H b) → tn i s.heap → J.go i H →
    wpAny (model P w) X.A (pyNext (.ref it)) (fun r s1 => ∃ u, r = some u ∧
      wpAny (model P w) X.A (letOwnedTupleGo tg (.ref it) u) (fun _ s2 => ∃ x H', Inv X pins σ H' s2 ∧ RelV x u ∧ J.yld i H x H' ∧ tn (i + 1) s2.heap ∧ ∀ b ∈ fp, H' b = none) E s1) E s
  done : ∀ (X : Cx), X.prog = P → X.w = w → X.K = K → X.calm = true → ∀ (i : Nat) (pins : List (Addr × Obj)) (s : Shared) (σ : St) (H : Hp) (E : Value → Shared → Prop), Inv X pins σ H s → (∀ b ∈ fp, FpOk X pins H b) → tn i s.heap → J.stop i H →
    wpAny (model P w) X.A (pyNext (.ref it)) (fun r s1 => r = none ∧ Inv X pins σ H s1) E s
  self : ∀ (A : Around) (i : Nat) (s : Shared) (Q : Value → Shared → Prop) (E : Value → Shared → Prop), tn i s.heap → Q (.ref it) s → wpAny (model P w) A (pyIter (.ref it)) Q E s
abbrev TI := St → Hp → (It → Hp → Prop) → Prop
/-- an iterator has come -/
def PIE (X : Cx) (pins : List (Addr × Obj)) (σ : St) (tg : Expr) (R : It → Hp → Prop) (itv : Value) (s2 : Shared) : Prop :=
  ∃ (it : Addr) (fp : List Addr) (tn : Nat → Heap → Prop) (J : It) (H' : Hp), itv = .ref it ∧ Inv X pins σ H' s2 ∧ Turn X.prog X.w X.K tg J fp it tn ∧ tn 0 s2.heap ∧ (∀ b ∈ fp, FpOk X pins H' b) ∧ R J H'
def PI (X : Cx) (tg iter : Expr) (wi : TI) : Prop :=
  ∀ (pins : List (Addr × Obj)) (s : Shared) (σ : St) (H : Hp) (R : It → Hp → Prop), Inv X pins σ H s → wi σ H R →
    wpAny (model X.prog X.w) X.A (eval iter X.env) (fun v s1 => wpAny (model X.prog X.w) X.A (pyIter v) (PIE X pins σ tg R) X.xe s1) X.xe s

/-- the step ahead of the store is nothing for an iterator that keeps no tuple -/
theorem go_of {M : Model} {A : Around} {E : Value → Shared → Prop} {s : Shared} {tg : Expr} {it : Addr} {u : Value} {o : Obj} {n : String} {vs : Array Value} {Q : Unit → Shared → Prop} (ho : s.heap.get? it = some o) (hc : o.cls = .type n) (hd : o.data = .fields vs)
    (hn : ["enumerate", "zip", "dict_itemiterator", "dict_reverseitemiterator", "odict_iterator", "itertools.zip_longest", "itertools.pairwise"].contains n = false) (hQ : Q () s) : wpAny M A (letOwnedTupleGo tg (.ref it) u) Q E s := by
  unfold letOwnedTupleGo
  cases tg <;> first
    | exact wpAny_pure hQ
    | (cases u <;> first
        | exact wpAny_pure hQ
        | (refine wpAny_bind (wpAny_load ho ?_)
           rw [hc, hd]
           show wpAny M A (if (["enumerate", "zip", "dict_itemiterator", "dict_reverseitemiterator", "odict_iterator", "itertools.zip_longest", "itertools.pairwise"].contains n && vs[0]? == some (rawInt _)) = true then _ else _) Q E s
           rw [if_neg (by intro h; rw [hn, Bool.false_and] at h; cases h)]
           exact wpAny_pure hQ))

/-- the list at a, as it stands at each turn (a loop may append to it) -/
def Itl (K : PySem.W.Frag) (a : Addr) : It :=
  ⟨fun i H => ∃ xs x, SqL K H a xs ∧ xs[i]? = some x, fun i H x H' => H' = H ∧ ∀ xs, SqL K H a xs → xs[i]? = some x, fun i H => ∃ xs, SqL K H a xs ∧ xs.length ≤ i⟩
/-- lo, lo + 1, .. (n of them) -/
def Itr (lo : Int) (n : Nat) : It := ⟨fun i _ => i < n, fun i H x H' => H' = H ∧ x = .int (lo + i), fun i _ => n ≤ i⟩
theorem turn_list {P : Program} {w : World} {K : PySem.W.Frag} {tg : Expr} (a it : Addr) : Turn P w K tg (Itl K a) [it] it (fun i h => h.IsListIter it a i) where
  mem := by simp
  obj := fun i h st b hb => by
    have e : b = it := by simpa using hb
    subst e
    obtain ⟨o, e, c, d⟩ := st
    exact ⟨o, e, fun v z => by rw [d] at z; cases z⟩
  keep := fun i h h' st k => st.at fun o e => k it (by simp) o e
  item := by
    intro X hP hw hK hc i pins s σ H E I hf st hg
    subst hP hw hK
    obtain ⟨xs, x, hq, hx⟩ := hg
    obtain ⟨its, rv, p, hz⟩ := I.list hq
    obtain ⟨u, hu, ru⟩ := rv.get hx
    obtain ⟨f0, f1, f2, f3, f4, f5⟩ := hf it (by simp)
    refine wpAny_pyNext_list_item st p.isList (x := u) (by simpa using hu) fun h' st' sb => ?_
    have I1 : Inv X pins σ H { s with heap := h' } := I.turned (t' := s.toks) (fun b o hb e => (sb.2 b hb).trans e) f0 f1 f3 f4 f5
    obtain ⟨o, e, c, d⟩ := id st'
    exact ⟨u, rfl, go_of (s := { s with heap := h' }) e c d (by decide) ⟨x, H, I1, ru, ⟨rfl, fun ys hy => by rw [I.list_inj hy hq]; exact hx⟩, st', fun b hb => (hf b hb).1⟩⟩
  done := by
    intro X hP hw hK hc i pins s σ H E I hf st hg
    subst hP hw hK
    obtain ⟨xs, hq, hx⟩ := hg
    obtain ⟨its, rv, p, hz⟩ := I.list hq
    obtain ⟨f0, f1, f2, f3, f4, f5⟩ := hf it (by simp)
    have hl := rv.length
    exact wpAny_pyNext_list_end (I.ok.hd hc) st p.isList (by simp; omega) fun h' eb => ⟨rfl, I.turned (t' := s.toks) (fun b o hb e => eb b o hb e) f0 f1 f3 f4 f5⟩
  self := fun _ _ _ _ _ st h => wpAny_pyIter_listiter st h
theorem turn_range {P : Program} {w : World} {K : PySem.W.Frag} {tg : Expr} (it : Addr) (lo : Int) (n : Nat) : Turn P w K tg (Itr lo n) [it] it (fun i h => IsRangeIter h it (lo + (i : Nat) * 1) ((n : Int) - (i : Nat)) 1) where
  mem := by simp
  obj := fun i h st b hb => by
    have e : b = it := by simpa using hb
    subst e
    exact ⟨_, st, fun v z => by
      have z' : Data.fields _ = Data.cell v := z
      cases z'⟩
  keep := fun i h h' st k => k it (by simp) _ st
  item := by
    intro X hP hw hK hc i pins s σ H E I hf st hg
    subst hP hw hK
    obtain ⟨f0, f1, f2, f3, f4, f5⟩ := hf it (by simp)
    have W := Walks.range (prog := X.prog) (w := X.w) (I.ok.hd hc) it lo 1 n
    refine W.item i s _ _ hg st fun v h' tk hv st' kk => ?_
    obtain ⟨t, rfl⟩ := hv
    have I1 : Inv X pins σ H { s with heap := h', toks := tk } := I.turned (fun b o hb e => kk b o (by simpa using hb) e) f0 f1 f3 f4 f5
    refine ⟨_, rfl, go_of (s := { s with heap := h', toks := tk }) (n := "range_iterator") st' rfl rfl (by decide) ⟨.int (lo + i), H, I1, ⟨t, ?_⟩, ⟨rfl, rfl⟩, st', fun b hb => (hf b hb).1⟩⟩
    rw [Int.mul_one]
  done := by
    intro X hP hw hK hc i pins s σ H E I hf st hg
    subst hP hw hK
    obtain ⟨f0, f1, f2, f3, f4, f5⟩ := hf it (by simp)
    exact wpAny_pyNext_range_end (I.ok.hd hc) st (by have : n ≤ i := hg; omega) fun h' eb => ⟨rfl, I.turned (t' := s.toks) (fun b o hb e => eb b o hb e) f0 f1 f3 f4 f5⟩
  self := fun _ _ _ _ _ st h => wpAny_pyIter_rangeiter st h
end L2

namespace L2
open PySem PySem.Spec PyProof.Rows
section
variable {X : Cx} {tg : Expr}
def iList (K : PySem.W.Frag) (tl : TE) : TI := fun σ H R => tl σ H fun x H1 => ∃ a, x = .ref a ∧ (∃ xs, SqL K H1 a xs) ∧ R (Itl K a) H1
theorem pi_list {l : Expr} {tl : TE} (hl : PE X l tl) : PI X tg l (iList X.K tl) := by
  intro pins s σ H R I h
  refine thn (hl pins s σ H _ I h) fun v s1 ⟨x, H1, I1, r1, q1⟩ => ?_
  obtain ⟨a, e, ⟨xs, hq⟩, q⟩ := q1
  subst e
  cases r1
  obtain ⟨its, rv, p, hz⟩ := I1.list hq
  refine wpAny_pyIter_list p.isList ?_
  refine ⟨s1.heap.objs.size, [s1.heap.objs.size], _, _, H1, rfl, I1.kept (t' := s1.toks) fun b o e => Heap.get?_push_of_some _ e, turn_list a _, ⟨_, Heap.get?_push_size _ rfl, rfl, rfl⟩, fun b hb => ?_, q⟩
  have e : b = s1.heap.objs.size := by simpa using hb
  subst e
  exact I1.fpOk (Nat.le_refl _) (I1.hok.fresh (Nat.le_refl _))
/-- a range object just made, walked -/
theorem range_it {pins : List (Addr × Obj)} {σ : St} {H : Hp} {s : Shared} {R : It → Hp → Prop} {E : Value → Shared → Prop} {lo hi : Int} {t u v : Tok} {tk : Nat} (I : Inv X pins σ H s) (h1 : -(2 ^ 62) ≤ lo) (h2 : lo < 2 ^ 62) (h3 : -(2 ^ 62) ≤ hi) (h4 : hi < 2 ^ 62)
    (q : R (Itr lo (hi - lo).toNat) H) : wpAny (model X.prog X.w) X.A (pyIter (.ref s.heap.objs.size)) (PIE X pins σ tg R) E { s with heap := s.heap.push { cls := .type "range", data := .fields #[.int lo t, .int hi u, .int 1 v] }, toks := tk } := by
  refine wpAny_pyIter_range (IsRange.new ..) (small_one h1 h2 h3 h4) ?_
  have I1 : Inv X pins σ H { s with heap := s.heap.push { cls := .type "range", data := .fields #[.int lo t, .int hi u, .int 1 v] }, toks := tk } := I.kept fun b o e => Heap.get?_push_of_some _ e
  refine ⟨(s.heap.push { cls := .type "range", data := .fields #[.int lo t, .int hi u, .int 1 v] }).objs.size, [(s.heap.push { cls := .type "range", data := .fields #[.int lo t, .int hi u, .int 1 v] }).objs.size], _, _, H, rfl,
    I1.kept (t' := tk) fun b o e => Heap.get?_push_of_some _ e, turn_range _ lo (hi - lo).toNat, ?_, fun b hb => ?_, q⟩
  · have e1 : lo + ((0 : Nat) : Int) * 1 = lo := by simp
    have e2 : (((hi - lo).toNat : Nat) : Int) - ((0 : Nat) : Int) = Builtin.Range.rangeSize lo hi 1 := by rw [rangeSize_one]; split <;> omega
    show IsRangeIter _ _ (lo + ((0 : Nat) : Int) * 1) ((((hi - lo).toNat : Nat) : Int) - ((0 : Nat) : Int)) 1
    rw [e1, e2]
    exact Heap.get?_push_size _ rfl
  · have e : b = (s.heap.push { cls := .type "range", data := .fields #[.int lo t, .int hi u, .int 1 v] }).objs.size := by simpa using hb
    subst e
    exact I1.fpOk (Nat.le_refl _) (I1.hok.fresh (Nat.le_refl _))
def iRng1 (ta : TA) : TI := fun σ H R => ta σ H fun vs H1 => ∃ j : Int, vs = [.int j] ∧ -(2 ^ 62) ≤ j ∧ j < 2 ^ 62 ∧ R (Itr 0 j.toNat) H1
def iRng2 (ta : TA) : TI := fun σ H R => ta σ H fun vs H1 => ∃ i j : Int, vs = [.int i, .int j] ∧ (-(2 ^ 62) ≤ i ∧ i < 2 ^ 62 ∧ -(2 ^ 62) ≤ j ∧ j < 2 ^ 62) ∧ R (Itr i (j - i).toNat) H1
theorem pi_range1 {a : Expr} {ta : TA} {p pos : Pos} (hg : Gl X "range") (hm : X.mg "range" = none) (ha : PA X [a] ta) (hs : starEach [a] X.env = [(false, eval a X.env)] := by rfl) : PI X tg (.Call (.Name "range" p) [a] [] pos) (iRng1 ta) := by
  intro pins s σ H R I h
  refine Call_ (ld_blt I hg hm boot_range (PyProof.Rows.callWith_type1 (thn (ha pos pins s σ H _ I h) fun us s1 ⟨vs, H1, I1, r1, q1⟩ => ?_) hs rfl))
  obtain ⟨j, e, q1, q2, q⟩ := q1
  subst e
  cases r1 with
  | cons r rr =>
    cases rr
    obtain ⟨t, rfl⟩ := r
    exact call_range_1 (range_it I1 (by omega) (by omega) q1 q2 (by simpa using q))
theorem pi_range2 {a b : Expr} {ta : TA} {p pos : Pos} (hg : Gl X "range") (hm : X.mg "range" = none) (ha : PA X [a, b] ta) (hs : starEach [a, b] X.env = [(false, eval a X.env), (false, eval b X.env)] := by rfl) (hs2 : starEach [b] X.env = [(false, eval b X.env)] := by rfl) :
    PI X tg (.Call (.Name "range" p) [a, b] [] pos) (iRng2 ta) := by
  intro pins s σ H R I h
  refine Call_ (ld_blt I hg hm boot_range (PyProof.Rows.callWith_type1 (thn (ha pos pins s σ H _ I h) fun us s1 ⟨vs, H1, I1, r1, q1⟩ => ?_) (by rw [hs, hs2]) (by rw [hs2]; rfl)))
  obtain ⟨i, j, e, ⟨q1, q2, q3, q4⟩, q⟩ := q1
  subst e
  cases r1 with
  | cons r rr =>
    cases rr with
    | cons r' rr =>
      cases rr
      obtain ⟨t, rfl⟩ := r
      obtain ⟨t', rfl⟩ := r'
      exact call_range_2 (range_it I1 q1 q2 q3 q4 q)

/-! ### for -/
/-- W: the invariant by the turn and a measure; N: what the body is to reach -/
def tFor (wi : TI) (g : TG) (tb : TS) : TS := fun D σ H => wi σ H fun J H1 => ∃ W : Nat → Nat → St → Hp → Prop, (∃ m, W 0 m σ H1) ∧ ∀ i m σ H, W i m σ H →
  (J.stop i H ∧ D.nx σ H) ∨ (J.go i H ∧ ∃ N : St → Hp → Prop, (∀ σ' H', N σ' H' → ∃ m', m' < m ∧ W (i + 1) m' σ' H') ∧ ∀ x H', J.yld i H x H' → g x σ H' fun σ2 H2 => tb { D with nx := N, ct := N, bk := D.nx } σ2 H2)
/-- the records at fp as they stand -/
def pinsAt (fp : List Addr) (h : Heap) : List (Addr × Obj) := fp.filterMap fun b => (h.get? b).map fun o => (b, o)
theorem mem_pinsAt {fp : List Addr} {h : Heap} {b : Addr} {o : Obj} (hb : b ∈ fp) (e : h.get? b = some o) : (b, o) ∈ pinsAt fp h := List.mem_filterMap.mpr ⟨b, hb, by rw [e]; rfl⟩
theorem of_pinsAt {fp : List Addr} {h : Heap} {p : Addr × Obj} (hp : p ∈ pinsAt fp h) : p.1 ∈ fp ∧ h.get? p.1 = some p.2 := by
  obtain ⟨b, hb, e⟩ := List.mem_filterMap.mp hp
  cases q : h.get? b with
  | none => rw [q] at e; cases e
  | some o =>
    rw [q] at e
    have e' : (b, o) = p := Option.some.inj e
    subst e'
    exact ⟨hb, q⟩
theorem Inv.pinned {pins : List (Addr × Obj)} {σ : St} {H : Hp} {s : Shared} {fp : List Addr} (I : Inv X pins σ H s) (hf : ∀ b ∈ fp, FpOk X pins H b) (ho : ∀ b ∈ fp, ∃ o, s.heap.get? b = some o ∧ ∀ v, o.data ≠ .cell v) : Inv X (pins ++ pinsAt fp s.heap) σ H s :=
  I.pins_of fun p hp => (List.mem_append.mp hp).elim (fun z => I.pin p (List.mem_append_right _ z)) fun z => by
    obtain ⟨hb, e⟩ := of_pinsAt z
    obtain ⟨f0, f1, f2, _⟩ := hf p.1 hb
    obtain ⟨o, e', d⟩ := ho p.1 hb
    rw [e] at e'; cases e'
    exact ⟨e, f0, f1, f2, d⟩
theorem Inv.unpinned {pins pl : List (Addr × Obj)} {σ : St} {H : Hp} {s : Shared} (I : Inv X (pins ++ pl) σ H s) : Inv X pins σ H s := I.pins_of fun p hp => I.pin p (List.mem_append_right _ (List.mem_append_left _ hp))
theorem ps_for {iter : Expr} {body : List Stmt} {wi : TI} {g : TG} {tb : TS} {pos : Pos} (hp : PassesOwn (model X.prog X.w) X.A X.env X.xe) (hc : X.calm = true) (hi : PI X tg iter wi) (hg : PG X tg g) (hb : PSs X body tb)
    (hs : ∀ x, foldedSetIterable iter X.env x = pure x := by intro _; rfl) : PS X (.For tg iter body [] pos) (tFor wi g tb) := by
  intro pins s σ H D I h
  refine wpAny_For (thn (hi pins s σ H _ I h) fun v s1 h1 => thn h1 fun itv s2 h2 => ?_) hs
  obtain ⟨it, fp, tn, J, H2, e, I2, T, st2, f2, W, ⟨m0, w0⟩, turn⟩ := h2
  subst e
  -- what stays true of the iterator's objects through the loop
  have stat : ∀ {H' : Hp}, (∀ b ∈ fp, H' b = none) → ∀ b ∈ fp, FpOk X pins H' b := fun hn b hb => ⟨hn b hb, (f2 b hb).2⟩
  refine codeAny_forLoop_any (fun n s' => ∃ i σ' H', Inv X pins σ' H' s' ∧ tn i s'.heap ∧ (∀ b ∈ fp, H' b = none) ∧ W i n σ' H') ?_ m0 ⟨0, σ, H2, I2, st2, fun b hb => (f2 b hb).1, w0⟩
  rintro n s3 ⟨i, σ3, H3, I3, st3, fr3, w3⟩
  rcases turn i n σ3 H3 w3 with ⟨stop, qn⟩ | ⟨go, N, hN, step⟩
  · refine wpAny_passesOwn hp (thn (T.done X rfl rfl rfl hc i pins s3 σ3 H3 X.xe I3 (stat fr3) st3 stop) fun r s4 ⟨hr, I4⟩ => ?_)
    subst hr
    exact wpAny_execs_nil ⟨σ3, H3, I4, qn⟩
  · refine wpAny_passesOwn hp (thn (T.item X rfl rfl rfl hc i pins s3 σ3 H3 X.xe I3 (stat fr3) st3 go) fun r s4 ⟨u, hr, h4⟩ => ?_)
    subst hr
    refine wpAny_passesOwn hp (thn h4 fun _ s5 ⟨x, H5, I5, r5, y5, st5, fr5⟩ => ?_)
    have I5' := I5.pinned (stat fr5) (T.obj _ _ st5)
    refine wpAny_passesOwn hp (thn (hg _ s5 σ3 H5 x u _ I5' r5 (step x H5 y5)) fun _ s6 ⟨σ6, H6, I6, q6⟩ => ?_)
    refine wpAny_passesOwn hp (thn (hb _ s6 σ6 H6 _ I6 q6) fun f s7 q7 => ?_)
    have again : ∀ {σ7 : St} {H7 : Hp}, Inv X (pins ++ pinsAt fp s5.heap) σ7 H7 s7 → N σ7 H7 → ∃ m, m < n ∧ ∃ i σ' H', Inv X pins σ' H' s7 ∧ tn i s7.heap ∧ (∀ b ∈ fp, H' b = none) ∧ W i m σ' H' := fun {σ7 H7} I7 n7 => by
      obtain ⟨m', hm, w7⟩ := hN σ7 H7 n7
      refine ⟨m', hm, i + 1, σ7, H7, I7.unpinned, T.keep _ _ _ st5 fun b hb o e => (I7.pin (b, o) (List.mem_append_right _ (List.mem_append_right _ (mem_pinsAt hb e)))).1, fun b hb => ?_, w7⟩
      obtain ⟨o, e, d⟩ := T.obj _ _ st5 b hb
      exact (I7.pin (b, o) (List.mem_append_right _ (List.mem_append_right _ (mem_pinsAt hb e)))).2.1
    cases f with
    | next => obtain ⟨σ7, H7, I7, n7⟩ := q7; exact again I7 n7
    | cont => obtain ⟨σ7, H7, I7, n7⟩ := q7; exact again I7 n7
    | brk => obtain ⟨σ7, H7, I7, q7⟩ := q7; exact ⟨σ7, H7, I7.unpinned, q7⟩
    | ret v => obtain ⟨x7, σ7, H7, I7, r7, q7⟩ := q7; exact ⟨x7, σ7, H7, I7.unpinned, r7, q7⟩
end

/-! ### the forms one uses -/
/-- over a list that the body leaves as it is -/
theorem for_list {K : PySem.W.Frag} {a : Addr} {xs : List V} {g : TG} {tb : TS} {D : Ends} {σ : St} {H : Hp} (Pv : Nat → St → Hp → Prop) (h0 : Pv 0 σ H) (hl : ∀ i σ H, i ≤ xs.length → Pv i σ H → SqL K H a xs)
    (hs : ∀ i x σ H, xs[i]? = some x → Pv i σ H → g x σ H fun σ2 H2 => tb { D with nx := Pv (i + 1), ct := Pv (i + 1), bk := D.nx } σ2 H2) (hd : ∀ σ H, Pv xs.length σ H → D.nx σ H) :
    ∃ W : Nat → Nat → St → Hp → Prop, (∃ m, W 0 m σ H) ∧ ∀ i m σ H, W i m σ H →
      ((Itl K a).stop i H ∧ D.nx σ H) ∨ ((Itl K a).go i H ∧ ∃ N : St → Hp → Prop, (∀ σ' H', N σ' H' → ∃ m', m' < m ∧ W (i + 1) m' σ' H') ∧ ∀ x H', (Itl K a).yld i H x H' → g x σ H' fun σ2 H2 => tb { D with nx := N, ct := N, bk := D.nx } σ2 H2) := by
  refine ⟨fun i m σ H => m = xs.length - i ∧ i ≤ xs.length ∧ Pv i σ H, ⟨xs.length, by simp, Nat.zero_le _, h0⟩, ?_⟩
  rintro i m σ H ⟨rfl, hi, p⟩
  have q := hl i σ H hi p
  by_cases hlt : i < xs.length
  · refine .inr ⟨⟨xs, xs[i], q, by simp [hlt]⟩, Pv (i + 1), fun σ' H' p' => ⟨xs.length - (i + 1), by omega, rfl, hlt, p'⟩, fun x H' y => ?_⟩
    obtain ⟨e, y⟩ := y
    subst e
    exact hs i x σ _ (y xs q) p
  · have e : i = xs.length := by omega
    subst e
    exact .inl ⟨⟨xs, q, Nat.le_refl _⟩, hd σ H p⟩
theorem for_range {lo : Int} {n : Nat} {g : TG} {tb : TS} {D : Ends} {σ : St} {H : Hp} (Pv : Nat → St → Hp → Prop) (h0 : Pv 0 σ H)
    (hs : ∀ i σ H, i < n → Pv i σ H → g (.int (lo + i)) σ H fun σ2 H2 => tb { D with nx := Pv (i + 1), ct := Pv (i + 1), bk := D.nx } σ2 H2) (hd : ∀ σ H, Pv n σ H → D.nx σ H) :
    ∃ W : Nat → Nat → St → Hp → Prop, (∃ m, W 0 m σ H) ∧ ∀ i m σ H, W i m σ H →
      ((Itr lo n).stop i H ∧ D.nx σ H) ∨ ((Itr lo n).go i H ∧ ∃ N : St → Hp → Prop, (∀ σ' H', N σ' H' → ∃ m', m' < m ∧ W (i + 1) m' σ' H') ∧ ∀ x H', (Itr lo n).yld i H x H' → g x σ H' fun σ2 H2 => tb { D with nx := N, ct := N, bk := D.nx } σ2 H2) := by
  refine ⟨fun i m σ H => m = n - i ∧ i ≤ n ∧ Pv i σ H, ⟨n, by simp, Nat.zero_le _, h0⟩, ?_⟩
  rintro i m σ H ⟨rfl, hi, p⟩
  by_cases hlt : i < n
  · refine .inr ⟨hlt, Pv (i + 1), fun σ' H' p' => ⟨n - (i + 1), by omega, rfl, hlt, p'⟩, fun x H' y => ?_⟩
    obtain ⟨e, y⟩ := y
    subst e y
    exact hs i σ _ hlt p
  · have e : i = n := by omega
    subst e
    exact .inl ⟨Nat.le_refl _, hd σ H p⟩
/-- while, by a word and a measure of the state -/
theorem while_by {c : TT} {tb : TS} {D : Ends} {σ : St} {H : Hp} (Pv : St → Hp → Prop) (μ : St → Hp → Nat) (h0 : Pv σ H)
    (hs : ∀ σ H, Pv σ H → c σ H fun b H1 => if b = true then tb { D with nx := fun σ' H' => Pv σ' H' ∧ μ σ' H' < μ σ H, ct := fun σ' H' => Pv σ' H' ∧ μ σ' H' < μ σ H, bk := D.nx } σ H1 else D.nx σ H1)
    (mono : ∀ σ H Q Q', (∀ b H1, Q b H1 → Q' b H1) → c σ H Q → c σ H Q') : tWhile c tb D σ H := by
  refine ⟨fun m σ H => m = μ σ H ∧ Pv σ H, ⟨_, rfl, h0⟩, ?_⟩
  rintro m σ H ⟨rfl, p⟩
  refine mono σ H _ _ (fun b H1 q => ?_) (hs σ H p)
  cases b with
  | true => exact ⟨_, fun σ' H' ⟨p', l⟩ => ⟨_, l, rfl, p'⟩, q⟩
  | false => exact q
end L2

namespace L2
open PySem PySem.Spec PyProof.Rows

abbrev R2 := V → V → Hp → VK → Prop
/-- a two-place operation on values: f is binaryOp op, inplaceOp op or compareOp op -/
def OpR (X : Cx) (f : Value → Value → Sem Value) (r : R2) : Prop :=
  ∀ (pins : List (Addr × Obj)) (s : Shared) (σ : St) (H : Hp) (x y : V) (v u : Value) (Q : VK), Inv X pins σ H s → RelV x v → RelV y u → r x y H Q →
    wpAny (model X.prog X.w) X.A (f v u) (EP X pins σ Q) X.xe s
/-- a one-place operation -/
def UnR (X : Cx) (f : Value → Sem Value) (r : V → Hp → VK → Prop) : Prop :=
  ∀ (pins : List (Addr × Obj)) (s : Shared) (σ : St) (H : Hp) (x : V) (v : Value) (Q : VK), Inv X pins σ H s → RelV x v → r x H Q →
    wpAny (model X.prog X.w) X.A (f v) (EP X pins σ Q) X.xe s
/-- a call of a value that is known (a builtin, a type) with values -/
def CallR (X : Cx) (f : Value) (r : List V → Hp → VK → Prop) : Prop :=
  ∀ (pins : List (Addr × Obj)) (s : Shared) (σ : St) (H : Hp) (xs : List V) (us : List Value) (Q : VK), Inv X pins σ H s → Vals xs us → r xs H Q →
    wpAny (model X.prog X.w) X.A (call f us) (EP X pins σ Q) X.xe s
def tOp (r : R2) (ta tb : TE) : TE := fun σ H Q => ta σ H fun x H1 => tb σ H1 fun y H2 => r x y H2 Q
def tUn (r : V → Hp → VK → Prop) (ta : TE) : TE := fun σ H Q => ta σ H fun x H1 => r x H1 Q
/-- ints in, under C, and a value out -/
def rI (C : Int → Int → Prop) (g : Int → Int → V) : R2 := fun x y H Q => ∃ i j, x = .int i ∧ y = .int j ∧ C i j ∧ Q (g i j) H
def rI0 (g : Int → Int → V) : R2 := fun x y H Q => ∃ i j, x = .int i ∧ y = .int j ∧ Q (g i j) H
def rU (g : Int → V) : V → Hp → VK → Prop := fun x H Q => ∃ i, x = .int i ∧ Q (g i) H

section
variable {X : Cx} {a b c : Expr} {ta tb tc : TE} {pos : Pos}

theorem binT (ha : PE X a ta) (hb : PE X b tb) {pins : List (Addr × Obj)} {s : Shared} {σ : St} {H : Hp} {R : V → V → Hp → Prop} (I : Inv X pins σ H s)
    (h : ta σ H fun x H1 => tb σ H1 fun y H2 => R x y H2) {Q : Value → Shared → Prop} {f : Value → Value → Sem Value}
    (hf : ∀ v u s2 x y H2, Inv X pins σ H2 s2 → RelV x v → RelV y u → R x y H2 → wpAny (model X.prog X.w) X.A (f v u) Q X.xe s2) :
    wpAny (model X.prog X.w) X.A (eval a X.env) (fun v s₁ => wpAny (model X.prog X.w) X.A (eval b X.env) (fun u s₂ => wpAny (model X.prog X.w) X.A (f v u) Q X.xe s₂) X.xe s₁) X.xe s := by
  refine thn (ha pins s σ H _ I h) fun v s1 ⟨x, H1, I1, r1, q1⟩ => ?_
  refine thn (hb pins s1 σ H1 _ I1 q1) fun u s2 ⟨y, H2, I2, r2, q2⟩ => ?_
  exact hf v u s2 x y H2 I2 r1 r2 q2

theorem pe_op {op : Operator} {r : R2} (ho : OpR X (binaryOp op) r) (ha : PE X a ta) (hb : PE X b tb) : PE X (.BinOp a op b pos) (tOp r ta tb) := by
  intro pins s σ H Q I h
  exact wpAny_BinOp (binT ha hb I h fun v u s2 x y H2 I2 rx ry q => ho pins s2 σ H2 x y v u Q I2 rx ry q)
theorem pe_un {op : UnaryOp} {r : V → Hp → VK → Prop} (ho : UnR X (unaryOp op) r) (ha : PE X a ta) : PE X (.UnaryOp op a pos) (tUn r ta) := by
  intro pins s σ H Q I h
  exact UnaryOp_ (thn (ha pins s σ H _ I h) fun v s1 ⟨x, H1, I1, r1, q1⟩ => ho pins s1 σ H1 x v Q I1 r1 q1)
/-! ### ints -/
theorem opI {f : Value → Value → Sem Value} {C : Int → Int → Prop} {g : Int → Int → Int}
    (rule : ∀ (i j : Int) (t u : Tok) (s : Shared) (Q : Value → Shared → Prop) (E : Value → Shared → Prop), C i j → Q (.int (g i j) s.toks) { s with toks := s.toks + 1 } → wpAny (model X.prog X.w) X.A (f (.int i t) (.int j u)) Q E s) :
    OpR X f (rI C fun i j => .int (g i j)) := by
  intro pins s σ H x y v u Q I rx ry h
  obtain ⟨i, j, rfl, rfl, hc, q⟩ := h
  obtain ⟨t, rfl⟩ := rx
  obtain ⟨t', rfl⟩ := ry
  exact rule i j t t' s _ _ hc ⟨.int (g i j), H, I.tok _, ⟨_, rfl⟩, q⟩
theorem opI0 {f : Value → Value → Sem Value} {g : Int → Int → Int}
    (rule : ∀ (i j : Int) (t u : Tok) (s : Shared) (Q : Value → Shared → Prop) (E : Value → Shared → Prop), Q (.int (g i j) s.toks) { s with toks := s.toks + 1 } → wpAny (model X.prog X.w) X.A (f (.int i t) (.int j u)) Q E s) :
    OpR X f (rI0 fun i j => .int (g i j)) := by
  intro pins s σ H x y v u Q I rx ry h
  obtain ⟨i, j, rfl, rfl, q⟩ := h
  obtain ⟨t, rfl⟩ := rx
  obtain ⟨t', rfl⟩ := ry
  exact rule i j t t' s _ _ ⟨.int (g i j), H, I.tok _, ⟨_, rfl⟩, q⟩
theorem opB0 {f : Value → Value → Sem Value} {g : Int → Int → Bool}
    (rule : ∀ (i j : Int) (t u : Tok) (s : Shared) (Q : Value → Shared → Prop) (E : Value → Shared → Prop), Q (.bool (g i j)) s → wpAny (model X.prog X.w) X.A (f (.int i t) (.int j u)) Q E s) :
    OpR X f (rI0 fun i j => .bl (g i j)) := by
  intro pins s σ H x y v u Q I rx ry h
  obtain ⟨i, j, rfl, rfl, q⟩ := h
  obtain ⟨t, rfl⟩ := rx
  obtain ⟨t', rfl⟩ := ry
  exact rule i j t t' s _ _ ⟨.bl (g i j), H, I, rfl, q⟩

def CDiv (i j : Int) : Prop := 0 < j ∧ j < 1073741824
def CMul (i j : Int) : Prop := (-(2 ^ 64) < i ∧ i < 2 ^ 64) ∨ (-(2 ^ 64) < j ∧ j < 2 ^ 64)
theorem CMul.ok {i j : Int} (h : CMul i j) : IntMulOk i j := by
  rcases h with ⟨h1, h2⟩ | ⟨h1, h2⟩
  · exact .of_left (intBits_le_64 h1 h2)
  · exact .of_right (intBits_le_64 h1 h2)
theorem two_pow_nn (k : Nat) : (0 : Int) ≤ 2 ^ k := by
  rw [two_pow_cast]
  exact Int.natCast_nonneg _

theorem op_add : OpR X (binaryOp .Add) (rI0 fun i j => .int (i + j)) := opI0 fun _ _ _ _ _ _ _ q => add_int q
theorem op_sub : OpR X (binaryOp .Sub) (rI0 fun i j => .int (i - j)) := opI0 fun _ _ _ _ _ _ _ q => sub_int q
theorem op_mul : OpR X (binaryOp .Mult) (rI CMul fun i j => .int (i * j)) := opI fun _ _ _ _ _ _ _ hc q => mul_int q hc.ok
/-- // by a positive divisor -/
theorem op_fdiv : OpR X (binaryOp .FloorDiv) (rI CDiv fun i j => .int (i / j)) := opI fun i j _ _ _ _ _ hc q => by
  have h1 : (0 : Int) < j := hc.1
  have h2 : j < 1073741824 := hc.2
  exact floordiv_int (by omega) (by rw [Int.fdiv_eq_ediv_of_nonneg i (by omega)]; exact q) (.inl (PyProof.noPylong_small (by omega)))
/-- % by a positive divisor of any size -/
theorem op_mod : OpR X (binaryOp .Mod) (rI (fun _ j => 0 < j) fun i j => .int (i % j)) := opI fun i j _ _ _ _ _ hc q => by
  have h1 : (0 : Int) < j := hc
  exact mod_int' (by omega) (by rw [Int.fmod_eq_emod_of_nonneg i (by omega)]; exact q)
theorem op_shr : OpR X (binaryOp .RShift) (rI (fun _ j => 0 ≤ j) fun i j => .int (i / 2 ^ j.toNat)) := opI fun i j _ _ _ _ _ hc q =>
  rshift_int hc (by rw [Int.fdiv_eq_ediv_of_nonneg i (two_pow_nn _)]; exact q)
theorem op_and : OpR X (binaryOp .BitAnd) (rI0 fun i j => .int (Builtin.bitAnd i j)) := opI0 fun _ _ _ _ _ _ _ q => and_int q
theorem op_xor : OpR X (binaryOp .BitXor) (rI0 fun i j => .int (Builtin.bitXor i j)) := opI0 fun _ _ _ _ _ _ _ q => xor_int q

theorem unI {f : Value → Sem Value} {g : Int → Int}
    (rule : ∀ (i : Int) (t : Tok) (s : Shared) (Q : Value → Shared → Prop) (E : Value → Shared → Prop), Q (.int (g i) s.toks) { s with toks := s.toks + 1 } → wpAny (model X.prog X.w) X.A (f (.int i t)) Q E s) :
    UnR X f (rU fun i => .int (g i)) := by
  intro pins s σ H x v Q I rx h
  obtain ⟨i, rfl, q⟩ := h
  obtain ⟨t, rfl⟩ := rx
  exact rule i t s _ _ ⟨.int (g i), H, I.tok _, ⟨_, rfl⟩, q⟩
theorem un_neg : UnR X (unaryOp .USub) (rU fun i => .int (-i)) := unI fun _ _ _ _ _ q => neg_int q
/-! ### bools among ints: n += (a < b) -/
end

/-! ### comparisons -/
/-- the scalars that == tells apart as data does -/
def scal : V → V → Bool
  | .non, .non => true | .non, .int _ => true | .int _, .non => true | .non, .bl _ => true | .bl _, .non => true | .non, .str _ => true | .str _, .non => true
  | .int _, .int _ => true | .bl _, .bl _ => true | .str _, .str _ => true | .byt _, .byt _ => true
  | .int _, .str _ => true | .str _, .int _ => true | .bl _, .str _ => true | .str _, .bl _ => true
  | _, _ => false
def rEq : R2 := fun x y H Q => scal x y = true ∧ Q (.bl (decide (x = y))) H
def rNe : R2 := fun x y H Q => scal x y = true ∧ Q (.bl (!decide (x = y))) H

theorem dec_int {i j : Int} : decide (V.int i = V.int j) = (i == j) := by
  rw [Bool.eq_iff_iff]
  simp
theorem dec_bl {i j : Bool} : decide (V.bl i = V.bl j) = (i == j) := by
  rw [Bool.eq_iff_iff]
  simp
theorem dec_str {i j : Str} : decide (V.str i = V.str j) = (i == j) := by
  rw [Bool.eq_iff_iff]
  simp
theorem dec_byt {i j : Array UInt8} : decide (V.byt i = V.byt j) = (i.toList == j.toList) := by
  rw [Bool.eq_iff_iff]
  cases i
  cases j
  simp

section
variable {X : Cx} {a b c : Expr} {ta tb tc : TE} {pos : Pos}
theorem fin_bl {pins : List (Addr × Obj)} {σ : St} {H : Hp} {s : Shared} {Q : VK} {k k' : Bool} (I : Inv X pins σ H s) (q : Q (.bl k) H) (e : k = k') : EP X pins σ Q (.bool k') s := by
  subst e
  exact ⟨.bl k, H, I, rfl, q⟩
theorem op_eq : OpR X (compareOp .Eq) rEq := by
  intro pins s σ H x y v u Q I rx ry h
  obtain ⟨hs, q⟩ := h
  cases x with
  | non =>
    cases rx
    cases y with
    | non => cases ry; exact PySem.EqNone.eq_none_none (fin_bl I q (by simp))
    | bl j => cases ry; exact PySem.EqNone.eq_none_bool (fin_bl I q (by simp))
    | int j => obtain ⟨t', rfl⟩ := ry; exact PySem.EqNone.eq_none_int (fin_bl I q (by simp))
    | str j => obtain ⟨t', rfl⟩ := ry; exact PySem.EqNone.eq_none_str (fin_bl I q (by simp))
    | _ => exact absurd (show false = true from hs) Bool.false_ne_true
  | bl i =>
    cases rx
    cases y with
    | non => cases ry; exact PySem.EqNone.eq_bool_none (fin_bl I q (by simp))
    | bl j => cases ry; exact eq_bool (fin_bl I q dec_bl)
    | str j => obtain ⟨t', rfl⟩ := ry; exact PySem.EqMixed.eq_bool_str (fin_bl I q (by simp))
    | _ => exact absurd (show false = true from hs) Bool.false_ne_true
  | int i =>
    obtain ⟨t, rfl⟩ := rx
    cases y with
    | non => cases ry; exact PySem.EqNone.eq_int_none (fin_bl I q (by simp))
    | int j => obtain ⟨t', rfl⟩ := ry; exact eq_int (fin_bl I q dec_int)
    | str j => obtain ⟨t', rfl⟩ := ry; exact PySem.EqMixed.eq_int_str (fin_bl I q (by simp))
    | _ => exact absurd (show false = true from hs) Bool.false_ne_true
  | str i =>
    obtain ⟨t, rfl⟩ := rx
    cases y with
    | non => cases ry; exact PySem.EqNone.eq_str_none (fin_bl I q (by simp))
    | bl j => cases ry; exact PySem.EqMixed.eq_str_bool (fin_bl I q (by simp))
    | int j => obtain ⟨t', rfl⟩ := ry; exact PySem.EqMixed.eq_str_int (fin_bl I q (by simp))
    | str j => obtain ⟨t', rfl⟩ := ry; exact eq_str (fin_bl I q dec_str)
    | _ => exact absurd (show false = true from hs) Bool.false_ne_true
  | byt i =>
    obtain ⟨t, rfl⟩ := rx
    cases y with
    | byt j => obtain ⟨t', rfl⟩ := ry; exact PySem.W.eq_bytes (fin_bl I q dec_byt)
    | _ => exact absurd (show false = true from hs) Bool.false_ne_true
  | _ => cases y <;> exact absurd (show false = true from hs) Bool.false_ne_true
theorem op_ne : OpR X (compareOp .NotEq) rNe := by
  intro pins s σ H x y v u Q I rx ry h
  obtain ⟨hs, q⟩ := h
  cases x with
  | non =>
    cases rx
    cases y with
    | non => cases ry; exact PySem.EqNone.ne_none_none (fin_bl I q (by simp))
    | bl j => cases ry; exact PySem.EqNone.ne_none_bool (fin_bl I q (by simp))
    | int j => obtain ⟨t', rfl⟩ := ry; exact PySem.EqNone.ne_none_int (fin_bl I q (by simp))
    | str j => obtain ⟨t', rfl⟩ := ry; exact PySem.EqNone.ne_none_str (fin_bl I q (by simp))
    | _ => exact absurd (show false = true from hs) Bool.false_ne_true
  | bl i =>
    cases rx
    cases y with
    | non => cases ry; exact PySem.EqNone.ne_bool_none (fin_bl I q (by simp))
    | bl j => cases ry; exact ne_bool (fin_bl I q (congrArg not dec_bl))
    | str j => obtain ⟨t', rfl⟩ := ry; exact PySem.EqMixed.ne_bool_str (fin_bl I q (by simp))
    | _ => exact absurd (show false = true from hs) Bool.false_ne_true
  | int i =>
    obtain ⟨t, rfl⟩ := rx
    cases y with
    | non => cases ry; exact PySem.EqNone.ne_int_none (fin_bl I q (by simp))
    | int j => obtain ⟨t', rfl⟩ := ry; exact ne_int (fin_bl I q (congrArg not dec_int))
    | str j => obtain ⟨t', rfl⟩ := ry; exact PySem.EqMixed.ne_int_str (fin_bl I q (by simp))
    | _ => exact absurd (show false = true from hs) Bool.false_ne_true
  | str i =>
    obtain ⟨t, rfl⟩ := rx
    cases y with
    | non => cases ry; exact PySem.EqNone.ne_str_none (fin_bl I q (by simp))
    | bl j => cases ry; exact PySem.EqMixed.ne_str_bool (fin_bl I q (by simp))
    | int j => obtain ⟨t', rfl⟩ := ry; exact PySem.EqMixed.ne_str_int (fin_bl I q (by simp))
    | str j => obtain ⟨t', rfl⟩ := ry; exact ne_str (fin_bl I q (congrArg not dec_str))
    | _ => exact absurd (show false = true from hs) Bool.false_ne_true
  | byt i =>
    obtain ⟨t, rfl⟩ := rx
    cases y with
    | byt j => obtain ⟨t', rfl⟩ := ry; exact PySem.W.ne_bytes (fin_bl I q (congrArg not dec_byt))
    | _ => exact absurd (show false = true from hs) Bool.false_ne_true
  | _ => cases y <;> exact absurd (show false = true from hs) Bool.false_ne_true

theorem op_lt : OpR X (compareOp .Lt) (rI0 fun i j => .bl (decide (i < j))) := opB0 fun _ _ _ _ _ _ _ q => lt_int q
theorem op_le : OpR X (compareOp .LtE) (rI0 fun i j => .bl (decide (i ≤ j))) := opB0 fun _ _ _ _ _ _ _ q => le_int q
theorem op_gt : OpR X (compareOp .Gt) (rI0 fun i j => .bl (decide (j < i))) := opB0 fun _ _ _ _ _ _ _ q => gt_int q
theorem op_ge : OpR X (compareOp .GtE) (rI0 fun i j => .bl (decide (j ≤ i))) := opB0 fun _ _ _ _ _ _ _ q => ge_int q
/-- the one string within the other -/
theorem op_in_str : OpR X (compareOp .In) (fun x y H Q => ∃ i j, x = .str i ∧ y = .str j ∧ Q (.bl (!(Builtin.Str.occurrences j i 0 j.length 1).isEmpty)) H) := by
  intro pins s σ H x y v u Q I rx ry h
  obtain ⟨i, j, rfl, rfl, q⟩ := h
  obtain ⟨t, rfl⟩ := rx
  obtain ⟨t', rfl⟩ := ry
  exact in_str (fin_bl I q rfl)

theorem op_notin_str : OpR X (compareOp .NotIn) (fun x y H Q => ∃ i j, x = .str i ∧ y = .str j ∧ Q (.bl (!(!(Builtin.Str.occurrences j i 0 j.length 1).isEmpty))) H) := by
  intro pins s σ H x y v u Q I rx ry h
  obtain ⟨i, j, rfl, rfl, q⟩ := h
  obtain ⟨t, rfl⟩ := rx
  obtain ⟨t', rfl⟩ := ry
  exact notIn_str (fin_bl I q rfl)
theorem nomark (b : Expr) {op : CmpOp} (h : op ≠ .In := by decide) (h2 : op ≠ .NotIn := by decide) : behindInMarks op b = false := by
  have e1 : (op == CmpOp.In) = false := by cases op <;> first | rfl | exact absurd rfl h
  have e2 : (op == CmpOp.NotIn) = false := by cases op <;> first | rfl | exact absurd rfl h2
  cases b <;> simp [behindInMarks, e1, e2]
/-- a comparison as a value; hm: nomark b, or (for in, not in) by with_unfolding_all rfl -/
theorem pe_cmpR {op : CmpOp} {r : R2} (ho : OpR X (compareOp op) r) (ha : PE X a ta) (hb : PE X b tb) (hm : behindInMarks op b = false) : PE X (.Compare a [op] [b] pos) (tOp r ta tb) := by
  intro pins s σ H Q I h
  exact wpAny_Compare1 (binT ha hb I h fun v u s2 x y H2 I2 rx ry q => ho pins s2 σ H2 x y v u Q I2 rx ry q) hm
/-- a reading of a value as a test -/
def tTest (t : TE) : TT := fun σ H Q => t σ H fun x H' => ∃ k, x = .bl k ∧ Q k H'
theorem pt_cmpR {op : CmpOp} {r : R2} (ho : OpR X (compareOp op) r) (ha : PE X a ta) (hb : PE X b tb) (hm : behindInMarks op b = false) : PT X (.Compare a [op] [b] pos) (tTest (tOp r ta tb)) := by
  intro pins s σ H Q I h
  refine wpAny_isTrue_Compare1 (thn (ha pins s σ H _ I h) fun v s1 ⟨x, H1, I1, r1, q1⟩ => thn (hb pins s1 σ H1 _ I1 q1) fun u s2 ⟨y, H2, I2, r2, q2⟩ =>
    thn (ho pins s2 σ H2 x y v u _ I2 r1 r2 q2) fun c s3 ⟨z, H3, I3, r3, k, e, q3⟩ => ?_) hm
  subst e
  cases r3
  exact wpAny_truthy_bool ⟨H3, I3, q3⟩
/-- a op1 b op2 c -/
def tChain (r r' : R2) (ta tb tc : TE) : TE := fun σ H Q => ta σ H fun x H1 => tb σ H1 fun y H2 => r x y H2 fun z H3 => ∃ k, z = .bl k ∧
  (if k = true then tc σ H3 fun w' H4 => r' y w' H4 Q else Q (.bl false) H3)
theorem pe_chain {op op' : CmpOp} {r r' : R2} (ho : OpR X (compareOp op) r) (ho' : OpR X (compareOp op') r') (ha : PE X a ta) (hb : PE X b tb) (hc : PE X c tc)
    (hm : lastMarks [op, op'] [b, c] = false := by with_unfolding_all rfl) : PE X (.Compare a [op, op'] [b, c] pos) (tChain r r' ta tb tc) := by
  intro pins s σ H Q I h
  refine Compare_chain (thn (ha pins s σ H _ I h) fun v s1 ⟨x, H1, I1, r1, q1⟩ => chain_link (thn (hb pins s1 σ H1 _ I1 q1) fun u s2 ⟨y, H2, I2, r2, q2⟩ =>
    thn (ho pins s2 σ H2 x y v u _ I2 r1 r2 q2) fun d s3 ⟨z, H3, I3, r3, k, e, q3⟩ => ?_)) hm
  subst e
  cases r3
  refine wpAny_truthy_bool ?_
  cases k with
  | false => exact ite_ff ⟨.bl false, H3, I3, rfl, q3⟩
  | true => exact ite_tt (chain_last (thn (hc pins s3 σ H3 _ I3 q3) fun w' s4 ⟨z', H4, I4, r4, q4⟩ => ho' pins s4 σ H4 y z' u w' Q I4 r2 r4 q4))
/-! ### truth -/
theorem line63 : (sizeLine : Nat) < 2 ^ 63 := by rw [sizeLine_eq]; decide
/-! ### strs and bytes -/
theorem op_add_str : OpR X (binaryOp .Add) (fun x y H Q => ∃ i j, x = .str i ∧ y = .str j ∧ i.length + j.length ≤ sizeLine ∧ Q (.str (i ++ j)) H) := by
  intro pins s σ H x y v u Q I rx ry h
  obtain ⟨i, j, rfl, rfl, hz, q⟩ := h
  obtain ⟨t, rfl⟩ := rx
  obtain ⟨t', rfl⟩ := ry
  exact add_str (fun t' tk => ⟨.str (i ++ j), H, I.tok _, ⟨_, rfl⟩, q⟩) hz
/-! ### scalar builtins, by CallR -/
theorem vals1 {x : V} {us : List Value} (r : Vals [x] us) : ∃ u, us = [u] ∧ RelV x u := by
  cases r with
  | cons r1 r2 => cases r2; exact ⟨_, rfl, r1⟩
theorem vals2 {x y : V} {us : List Value} (r : Vals [x, y] us) : ∃ u w', us = [u, w'] ∧ RelV x u ∧ RelV y w' := by
  cases r with
  | cons r1 r2 =>
    cases r2 with
    | cons r3 r4 => cases r4; exact ⟨_, _, rfl, r1, r3⟩
theorem call_max2 (hc : X.calm = true) : CallR X (.builtin "max") (fun xs H Q => ∃ i j, xs = [.int i, .int j] ∧ Q (.int (if j > i then j else i)) H) := by
  intro pins s σ H xs us Q I r h
  obtain ⟨i, j, rfl, q⟩ := h
  obtain ⟨u, w', rfl, ⟨t, rfl⟩, ⟨t', rfl⟩⟩ := vals2 r
  refine max_two_ints (I.ok.hd hc) fun h' tk k => ⟨_, H, I.kept k, ?_, q⟩
  by_cases hj : j > i
  · rw [if_pos hj, if_pos hj]; exact ⟨_, rfl⟩
  · rw [if_neg hj, if_neg hj]; exact ⟨_, rfl⟩
theorem call_min2 (hc : X.calm = true) : CallR X (.builtin "min") (fun xs H Q => ∃ i j, xs = [.int i, .int j] ∧ Q (.int (if j < i then j else i)) H) := by
  intro pins s σ H xs us Q I r h
  obtain ⟨i, j, rfl, q⟩ := h
  obtain ⟨u, w', rfl, ⟨t, rfl⟩, ⟨t', rfl⟩⟩ := vals2 r
  refine min_two_ints (I.ok.hd hc) fun h' tk k => ⟨_, H, I.kept k, ?_, q⟩
  by_cases hj : j < i
  · rw [if_pos hj, if_pos hj]; exact ⟨_, rfl⟩
  · rw [if_neg hj, if_neg hj]; exact ⟨_, rfl⟩
theorem call_str_int : CallR X (.type "str") (fun xs H Q => ∃ i, xs = [.int i] ∧ i.natAbs.log2 < 1920 ∧ Q (.str (toString i)) H) := by
  intro pins s σ H xs us Q I r h
  obtain ⟨i, rfl, hz, q⟩ := h
  obtain ⟨u, rfl, t, rfl⟩ := vals1 r
  exact PySem.P.str_of_int hz ⟨.str _, H, I.tok _, ⟨_, rfl⟩, q⟩
end
end L2

namespace L2
open PySem PySem.Spec PyProof.Rows

/-! ### an instance, its attributes a map -/
structure ObjM (h : Heap) (x dx C : Addr) (mA : Str → Option Value) : Prop where
  obj : h.get? x = some (PySem.W.instObj C dx)
  ns : h.Ns1 dx mA
  ne : dx ≠ x

theorem lookIn_ns {h : Heap} {dx : Addr} {mA : Str → Option Value} (n : h.Ns1 dx mA) : ∃ od, h.get? dx = some od ∧ ∀ name, PySem.W.lookIn name od = some (mA name) := by
  obtain ⟨o, es, ep, ho, hd, hk, _, hm⟩ := n
  refine ⟨o, ho, fun name => ?_⟩
  have e := hm name
  unfold nsFind findBy at e
  rw [← Array.find?_toList] at e
  unfold PySem.W.lookIn
  rw [hd]
  dsimp only
  split
  · rename_i y q
    rw [q] at e
    exact congrArg some e
  · rename_i q
    rw [q] at e
    have a : es.toList.any (·.refKey) = false := by
      rw [List.any_eq_false]
      intro y hy
      obtain ⟨z, t, hkey⟩ := hk y (Array.mem_toList_iff.mp hy)
      simp [DictEntry.refKey, hkey]
    have a' : ¬ es.toList.any (·.refKey) = true := by rw [a]; exact Bool.false_ne_true
    rw [if_neg a']
    exact congrArg some e

theorem ObjM.look {h : Heap} {x dx C : Addr} {mA : Str → Option Value} (I : ObjM h x dx C mA) : ∃ od, PySem.W.InstAt h x (PySem.W.instObj C dx) C (some od) ∧ ∀ name, PySem.W.lookIn name od = some (mA name) :=
  let ⟨od, ho, hl⟩ := lookIn_ns I.ns
  ⟨od, ⟨I.obj, rfl, rfl, ho⟩, hl⟩

section
variable {prog : Program} {w : World} {A : Around} {E : Value → Shared → Prop} {s : Shared} {K : PySem.W.Frag} {x dx C f : Addr} {mA : Str → Option Value} {name : Str} {v : Value}

theorem get_map {expr : Bool} {Q : Value → Shared → Prop} (X : K.In s.heap) (I : ObjM s.heap x dx C mA) (hg : PySem.W.plainGet K C name = true) (hh : PySem.W.hasDictIn K C = true)
    (ha : PySem.W.findIn K (.ref C) name = some none) (hv : mA name = some v) (hv' : PySem.W.handedIn v = true) (h : Q v { s with toks := s.toks + 1 }) :
    wpAny (model prog w) A (getAttr (.ref x) name expr) Q E s := by
  obtain ⟨od, J, hl⟩ := I.look
  exact PySem.W.get_value X J (PySem.W.plainGet_of hg).1 (PySem.W.findObj_own hh ha rfl (by rw [hl, hv])) hv' h

theorem get_meth {pl : Sem Bool} {Q : Value × List Value → Shared → Prop} (X : K.In s.heap) (I : ObjM s.heap x dx C mA) (hg : PySem.W.plainGet K C name = true)
    (hf : PySem.W.findIn K (.ref C) name = some (some (.ref f))) (ht : PySem.W.isFn K (.ref f) = true) (hv : mA name = none) (h : Q (.ref f, [.ref x]) s) :
    wpAny (model prog w) A (getMethod (.ref x) name pl) Q E s := by
  obtain ⟨od, J, hl⟩ := I.look
  exact PySem.W.method_fn X J (PySem.W.plainGet_of hg).1 (PySem.W.plainGet_of hg).2 hf (beq_iff_eq.mp ht) (by show (PySem.W.lookIn name od).map (·.isSome) = some false; rw [hl, hv]; rfl) h

theorem set_map {ns : List Str} {Q : Unit → Shared → Prop} (X : K.In s.heap) (I : ObjM s.heap x dx C mA)
    (hs : PySem.W.findIn K (.ref C) "__setattr__" = some (some (.builtin "object.__setattr__"))) (hp : PySem.W.plainOver K C = true) (ht : PySem.W.takerIn K C name = some none) (hh : PySem.W.hasDictIn K C = true)
    (hw : PySem.Within mA ns) (hsz : ns.length ≤ sizeLine)
    (h : ∀ h', ObjM h' x dx C (fun y => if y = name then some v else mA y) → Heap.SameBut dx s.heap h' → Q () { s with heap := h', toks := s.toks + 2 }) :
    wpAny (model prog w) A (setAttr (.ref x) name v) Q E s := by
  obtain ⟨od, J, hl⟩ := I.look
  refine PySem.W.set_plain X J hs (PySem.W.osa_open (s := { s with toks := s.toks + 1 }) (r := none) X J hp ht fun b => ?_)
  obtain ⟨cd, hc, hd'⟩ := PySem.W.any_some hh
  have hx : s.heap.get? x = some ⟨.ref C, some dx, .plain, #[]⟩ := I.obj
  refine wpAny_bind (wpAny_pure (wpAny_bind (wpAny_bind (wpAny_loadPart hx (wpAny_bind (PySem.W.Looks.here (s := { s with toks := s.toks + 1 }) (PySem.W.looks_clsIn X hc) ?_))))))
  rw [hd']
  refine wpAny_pure (a := some dx) (wpAny_bind (wpAny_pure (wpAny_bind ?_)))
  refine wpAny_nsSet1 (s := { s with toks := s.toks + 1 }) I.ns fun h' hn2 hs2 => ?_
  obtain ⟨oD, esD, epD, hoD, hdD, hcD⟩ := hn2.count (PySem.Within.cons name v hw)
  refine wpAny_bind (wpAny_lookBehind hoD (by rw [hdD]; exact pastItsLine_dict (Nat.le_trans hcD (by rw [List.length_cons]; omega))) ?_)
  exact wpAny_pure (h _ ⟨(hs2.2 _ (Ne.symm I.ne)).trans I.obj, hn2, I.ne⟩ hs2)

/-- C(..): the dict at the heap's end, the instance behind it; then its __init__ -/
theorem make_map {R : Result → Shared → Prop} {vs : List Value} {kw : List (Str × Value)} (X : K.In s.heap) (hm : PySem.W.makesIn K C = true)
    (hi : PySem.W.findIn K (.ref C) "__init__" = some (some (.ref f))) (hf : PySem.W.typeIn K (.ref f) = some (.type "function"))
    (h : codeAny (model prog w) (A.under (.builtin "type.__call__" ⟨.ref C :: vs, kw⟩)) (.call (.ref f) ⟨.ref (s.heap.objs.size + 1) :: vs, kw⟩) (PySem.W.InitBack (s.heap.objs.size + 1) R)
      { s with heap := (s.heap.push PySem.W.emptyDict).push (PySem.W.instObj C s.heap.objs.size) }) :
    codeAny (model prog w) A (.call (.ref C) ⟨vs, kw⟩) R s := by
  obtain ⟨hh, g, d, t, os⟩ := s
  exact PySem.W.make_core (PySem.W.makes_of X hm) (PySem.W.looks_findIn X hi) (fun self => PySem.W.bind_fn X self hf) (.inl rfl) h
end

/-! ### the attributes as a list of pairs -/
def putF (f : Str) (v : V) : List (Str × V) → List (Str × V)
  | [] => [(f, v)]
  | (g, x) :: r => if g = f then (g, v) :: r else (g, x) :: putF f v r
theorem lookup_putF (f g : Str) (v : V) : ∀ fs : List (Str × V), (putF f v fs).lookup g = if g = f then some v else fs.lookup g
  | [] => by
    show List.lookup g [(f, v)] = _
    by_cases h : g = f
    · have hb : (g == f) = true := beq_iff_eq.mpr h
      simp only [List.lookup, hb, if_pos h]
    · have hb : (g == f) = false := beq_eq_false_iff_ne.mpr h
      simp only [List.lookup, hb, if_neg h]
  | (k, x) :: r => by
    have ih := lookup_putF f g v r
    rw [show putF f v ((k, x) :: r) = (if k = f then (k, v) :: r else (k, x) :: putF f v r) from rfl]
    by_cases hk : k = f
    · rw [if_pos hk]
      by_cases h : g = k
      · have hb : (g == k) = true := beq_iff_eq.mpr h
        simp only [List.lookup, hb, if_pos (h.trans hk)]
      · have hb : (g == k) = false := beq_eq_false_iff_ne.mpr h
        simp only [List.lookup, hb, if_neg (fun e : g = f => h (e.trans hk.symm))]
    · rw [if_neg hk]
      by_cases h : g = k
      · have hb : (g == k) = true := beq_iff_eq.mpr h
        simp only [List.lookup, hb, if_neg (fun e : g = f => hk (h.symm.trans e))]
      · have hb : (g == k) = false := beq_eq_false_iff_ne.mpr h
        simp only [List.lookup, hb]
        exact ih
theorem keys_putF (f : Str) (v : V) : ∀ fs : List (Str × V), f ∈ (putF f v fs).map (·.1) ∧ ∀ g, g ∈ fs.map (·.1) → g ∈ (putF f v fs).map (·.1)
  | [] => ⟨by simp [putF], fun g h => by simp at h⟩
  | (k, x) :: r => by
    obtain ⟨i1, i2⟩ := keys_putF f v r
    rw [show putF f v ((k, x) :: r) = (if k = f then (k, v) :: r else (k, x) :: putF f v r) from rfl]
    by_cases hk : k = f
    · rw [if_pos hk]
      subst hk
      exact ⟨by simp, fun g h => by simpa using h⟩
    · rw [if_neg hk]
      refine ⟨?_, fun g h => ?_⟩
      · rw [List.map_cons]
        exact List.mem_cons_of_mem _ i1
      · rw [List.map_cons] at h ⊢
        rcases List.mem_cons.mp h with e | e
        · exact List.mem_cons.mpr (.inl e)
        · exact List.mem_cons_of_mem _ (i2 g e)
theorem length_putF (f : Str) (v : V) : ∀ fs : List (Str × V), (putF f v fs).length ≤ fs.length + 1
  | [] => by simp [putF]
  | (k, x) :: r => by
    have ih := length_putF f v r
    rw [show putF f v ((k, x) :: r) = (if k = f then (k, v) :: r else (k, x) :: putF f v r) from rfl]
    by_cases hk : k = f
    · rw [if_pos hk, List.length_cons, List.length_cons]; omega
    · rw [if_neg hk, List.length_cons, List.length_cons]; omega

theorem RelO.some_of {v : V} {o : Option Value} (r : RelO (some v) o) : ∃ u, o = some u ∧ RelV v u := by
  cases o with
  | none => exact (show False from r).elim
  | some u => exact ⟨u, rfl, r⟩
theorem RelO.none_of {o : Option Value} (r : RelO none o) : o = none := by
  cases o with
  | none => rfl
  | some u => exact (show False from r).elim
theorem handed_of {v : V} {u : Value} (r : RelV v u) : PySem.W.handedIn u = true := by
  cases v with
  | non => cases (show u = Value.none from r); rfl
  | bl b => cases (show u = Value.bool b from r); rfl
  | int i => obtain ⟨t, e⟩ := (show ∃ t, u = Value.int i t from r); cases e; rfl
  | str x => obtain ⟨t, e⟩ := (show ∃ t, u = Value.str x t from r); cases e; rfl
  | byt b => obtain ⟨t, e⟩ := (show ∃ t, u = Value.bytes b t from r); cases e; rfl
  | flt b => obtain ⟨t, e⟩ := (show ∃ t, u = Value.float b t from r); cases e; rfl
  | ref a => cases (show u = Value.ref a from r); rfl
  | ty n => cases (show u = Value.type n from r); rfl

section
variable {P : Program} {w : World} {H H' : Hp} {h h' : Heap} {a C dx : Addr} {fs fs' : List (Str × V)}
theorem ins_get (hok : HOk P w H h) (e : H a = some (.ins C dx fs)) : ∃ mA, ObjM h a dx C mA ∧ (∀ f, RelO (fs.lookup f) (mA f)) ∧ PySem.Within mA (fs.map (·.1)) ∧ fs.length ≤ 1000 ∧ H dx = some (.own a) := by
  obtain ⟨d, z, ne, ob, mA, n, r, q⟩ := (show ObjOk P w H h a (.ins C dx fs) from hok a _ e)
  exact ⟨mA, ⟨ob, n, ne⟩, r, q, z, d⟩
end

/-! ### what of the text a class must have -/
structure Cls (K : PySem.W.Frag) (C : Addr) : Prop where
  pg : PySem.W.plainGet K C Str.empty = true
  hd : PySem.W.hasDictIn K C = true
  po : PySem.W.plainOver K C = true
  sa : PySem.W.findIn K (.ref C) "__setattr__" = some (some (.builtin "object.__setattr__"))
theorem Cls.get {K : PySem.W.Frag} {C : Addr} (c : Cls K C) (f : Str) : PySem.W.plainGet K C f = true := c.pg
/-- no class of it has the name -/
def NoAttr (K : PySem.W.Frag) (C : Addr) (f : Str) : Prop := PySem.W.findIn K (.ref C) f = some none
theorem NoAttr.taker {K : PySem.W.Frag} {C : Addr} {f : Str} (n : NoAttr K C f) : PySem.W.takerIn K C f = some none := by
  unfold PySem.W.takerIn
  rw [show PySem.W.findIn K (.ref C) f = some none from n]
  rfl
/-- a method: a plain def of the class or of one above it -/
structure Meth (K : PySem.W.Frag) (C : Addr) (m : Str) (f : Addr) : Prop where
  at_ : PySem.W.findIn K (.ref C) m = some (some (.ref f))
  fn : PySem.W.isFn K (.ref f) = true
  kp : PySem.W.keepIn K (.ref f) = true

section
variable {X : Cx} {pins : List (Addr × Obj)} {σ : St} {H : Hp} {s : Shared} {a C dx : Addr} {fs : List (Str × V)} {f : Str} {v : V} {A : Around} {E : Value → Shared → Prop}

theorem getattr_ok {b : Bool} {Q : Value → Shared → Prop} (I : Inv X pins σ H s) (e : H a = some (.ins C dx fs)) (c : Cls X.K C) (n : NoAttr X.K C f) (l : fs.lookup f = some v)
    (h : ∀ u s', Inv X pins σ H s' → RelV v u → Q u s') : wpAny (model X.prog X.w) A (getAttr (.ref a) f b) Q E s := by
  obtain ⟨mA, O, r, _, _, _⟩ := ins_get I.hok e
  obtain ⟨u, hu, ru⟩ := RelO.some_of (v := v) (o := mA f) (by rw [← l]; exact r f)
  exact get_map I.kIn O (c.get f) c.hd n hu (handed_of ru) (h u _ (I.tok _) ru)

theorem getmeth_ok {m : Str} {g : Addr} {pl : Sem Bool} {Q : Value × List Value → Shared → Prop} (I : Inv X pins σ H s) (e : H a = some (.ins C dx fs)) (c : Cls X.K C) (k : Meth X.K C m g) (l : fs.lookup m = none)
    (h : Q (.ref g, [.ref a]) s) : wpAny (model X.prog X.w) A (getMethod (.ref a) m pl) Q E s := by
  obtain ⟨mA, O, r, _, _, _⟩ := ins_get I.hok e
  have hn : mA m = none := RelO.none_of (by rw [← l]; exact r m)
  exact get_meth I.kIn O (c.get m) k.at_ k.fn hn h

theorem setattr_ok {y : V} {u : Value} {Q : Unit → Shared → Prop} (I : Inv X pins σ H s) (e : H a = some (.ins C dx fs)) (c : Cls X.K C) (n : NoAttr X.K C f) (hl : fs.length < 1000) (ry : RelV y u)
    (h : ∀ s', Inv X pins σ (upd H a (.ins C dx (putF f y fs))) s' → Q () s') : wpAny (model X.prog X.w) A (setAttr (.ref a) f u) Q E s := by
  obtain ⟨mA, O, r, wi, _, ho⟩ := ins_get I.hok e
  have hz : (fs.map (·.1)).length ≤ sizeLine := by rw [List.length_map, sizeLine_eq]; omega
  refine set_map I.kIn O c.sa c.po n.taker c.hd wi hz fun h' O' sb => h _ ?_
  have hd : ∃ o, h'.get? dx = some o := let ⟨o, _, _, e', _⟩ := O'.ns; ⟨o, e'⟩
  refine I.write (x := a) (e := dx) (by rw [e]; exact True.intro) (.inr ho) (fun b q hb z => (sb.2 b hb).trans z) hd ?_
  refine ⟨by rw [upd_ne O.ne]; exact ho, ?_, O.ne, O'.obj, _, O'.ns, fun g => ?_, fun g hg => ?_⟩
  · have := length_putF f y fs; omega
  · show RelO ((putF f y fs).lookup g) (if g = f then some u else mA g)
    rw [lookup_putF]
    by_cases q : g = f
    · rw [if_pos q, if_pos q]; exact ry
    · rw [if_neg q, if_neg q]; exact r g
  · by_cases q : g = f
    · rw [q]; exact (keys_putF f y fs).1
    · refine (keys_putF f y fs).2 g (wi g fun z => hg ?_)
      show (if g = f then some u else mA g) = none
      rw [if_neg q]; exact z

/-- a new instance, tracked, without attributes -/
theorem Inv.made (I : Inv X pins σ H s) : Inv X pins σ (upd (upd H s.heap.objs.size (.own (s.heap.objs.size + 1))) (s.heap.objs.size + 1) (.ins C s.heap.objs.size []))
    { s with heap := (s.heap.push PySem.W.emptyDict).push (PySem.W.instObj C s.heap.objs.size) } := by
  have e1 : (s.heap.push PySem.W.emptyDict).get? s.heap.objs.size = some PySem.W.emptyDict := Heap.get?_push_size s.heap rfl
  have e2 : ((s.heap.push PySem.W.emptyDict).push (PySem.W.instObj C s.heap.objs.size)).get? (s.heap.objs.size + 1) = some (PySem.W.instObj C s.heap.objs.size) := by
    have := Heap.get?_push_size (s.heap.push PySem.W.emptyDict) (o := PySem.W.instObj C s.heap.objs.size) rfl
    rwa [Heap.size_push] at this
  have e3 : (s.heap.push PySem.W.emptyDict).Ns s.heap.objs.size (fun _ => none) := ⟨PySem.W.emptyDict, #[], _, e1, rfl, (fun e he => absurd he (by simp)), fun _ => rfl⟩
  have I1 := I.laid (a := s.heap.objs.size) (o := .own (s.heap.objs.size + 1)) (h' := s.heap.push PySem.W.emptyDict) (t' := s.toks) (fun b u q => Heap.get?_push_of_some _ q) (Nat.le_refl _) ⟨_, e1⟩
  refine I1.laid (a := s.heap.objs.size + 1) (o := .ins C s.heap.objs.size []) (t' := s.toks) (fun b u q => Heap.get?_push_of_some _ q) (Nat.le_of_eq (Heap.size_push _ _)) ?_
  have ne : s.heap.objs.size ≠ s.heap.objs.size + 1 := Nat.ne_of_lt (Nat.lt_succ_self _)
  refine ⟨by rw [upd_ne ne, upd_same], Nat.zero_le _, ne, e2, fun _ => none, (Heap.Ns1.of_empty e3).at fun o q => Heap.get?_push_of_some _ q, fun _ => True.intro, fun y hy => absurd rfl hy⟩

/-- e.f where nothing but the object is asked: through attributeBase (super) and the last hold -/
theorem attr_of {prog : Program} {w : World} {env : Env} {e : Expr} {f : Str} {pos : Pos} {s : Shared} {Q : Value → Shared → Prop} (hb : attributeBase e f env (eval e env) = eval e env)
    (h : wpAny (model prog w) A (eval e env) (fun o s₁ => wpAny (model prog w) A (getAttr o f true) Q E s₁) E s) : wpAny (model prog w) A (eval (.Attribute e f pos) env) Q E s :=
  Attribute_any_ h (by rw [arm_eval_Attribute, hb])
end

/-! ### readings and rules -/
/-- e.f, an attribute of the instance -/
def tFld (K : PySem.W.Frag) (ta : TE) (f : Str) : TE := fun σ H Q => ta σ H fun x H1 => ∃ a C dx fs v, x = .ref a ∧ H1 a = some (.ins C dx fs) ∧ Cls K C ∧ NoAttr K C f ∧ fs.lookup f = some v ∧ Q v H1
/-- e.f = value -/
def sFld (K : PySem.W.Frag) (ta tv : TE) (f : Str) : TS := fun D σ H => tv σ H fun y H1 => ta σ H1 fun x H2 => ∃ a C dx fs, x = .ref a ∧ H2 a = some (.ins C dx fs) ∧ Cls K C ∧ NoAttr K C f ∧ fs.length < 1000 ∧
  D.nx σ (upd H2 a (.ins C dx (putF f y fs)))
section
variable {X : Cx} {o e value : Expr} {f : Str} {pos pos' tpos : Pos} {ta tv : TE}
theorem pe_fld (he : PE X e ta) (hb : attributeBase e f X.env (eval e X.env) = eval e X.env) : PE X (.Attribute e f pos) (tFld X.K ta f) := by
  intro pins s σ H Q I h
  refine attr_of hb (thn (he pins s σ H _ I h) fun u s1 ⟨x, H1, I1, rx, a, C, dx, fs, v, ex, ea, c, n, l, q⟩ => ?_)
  subst ex
  obtain rfl : u = Value.ref a := rx
  exact getattr_ok I1 ea c n l fun u' s2 I2 ru => ⟨v, H1, I2, ru, q⟩
theorem ps_fld (ha : PE X o ta) (hv : PE X value tv) (hs : swapsWith value (some (.Attribute o f pos')) pos.line X.env = pure false) : PS X (.Assign [.Attribute o f pos'] value pos) (sFld X.K ta tv f) := by
  intro pins s σ H D I h
  refine plainObj_wpAny_Assign_Attribute (thn (hv pins s σ H _ I h) fun u s1 ⟨y, H1, I1, ry, q⟩ => thn (ha pins s1 σ H1 _ I1 q) fun ov s2 ⟨x, H2, I2, rx, a, C, dx, fs, ex, ea, c, n, l, q2⟩ => ?_) hs
  subst ex
  obtain rfl : ov = Value.ref a := rx
  exact setattr_ok I2 ea c n l ry fun s3 I3 => ⟨σ, _, I3, q2⟩
end

/-! ### isinstance -/
section
variable {X : Cx} {pins : List (Addr × Obj)} {σ : St} {H : Hp} {s : Shared} {A : Around} {E : Value → Shared → Prop} {Q : Value → Shared → Prop} {c : Value} {b : Bool}
/-- the type of a value, as the fragment's deciders take it; for an instance its class -/
inductive TyOf (K : PySem.W.Frag) (H : Hp) : V → Value → Prop where
  | non : TyOf K H .non (.type "NoneType")
  | bl (x : Bool) : TyOf K H (.bl x) (.type "bool")
  | int (i : Int) : TyOf K H (.int i) (.type "int")
  | str (x : Str) : TyOf K H (.str x) (.type "str")
  | flt (x : UInt64) : TyOf K H (.flt x) (.type "float")
  | lst {a : Addr} {xs : List V} (e : H a = some (.lst xs)) : TyOf K H (.ref a) (.type "list")
  | frz {a : Addr} {o : Obj} {xs : List V} (e : H a = some (.frz o (.lst xs))) : TyOf K H (.ref a) (.type "list")
  | tup {a : Addr} {xs : List V} (e : H a = some (.tup xs)) : TyOf K H (.ref a) (.type "tuple")
  | dK {a : Addr} {kvs : List (Key × V)} (e : H a = some (.dK kvs)) : TyOf K H (.ref a) (.type "dict")
  | dT {a : Addr} {kvs : List (List Key × V)} (e : H a = some (.dT kvs)) : TyOf K H (.ref a) (.type "dict")
  | ins {a C dx : Addr} {fs : List (Str × V)} (e : H a = some (.ins C dx fs)) (cl : Cls K C) (ha : PySem.W.findIn K (.ref C) "__class__" = some (some (.builtin "object.__class__")))
      (hn : PySem.W.specialIn K (.builtin "object.__class__") "__get__" = some (some (.builtin "getset_descriptor.__get__"))) (htk : PySem.W.takesIn K (.builtin "object.__class__") = some true)
      (hm : PySem.W.mroIn K C (.type "object") = some true) : TyOf K H (.ref a) (.ref C)
/-- isinstance(x, c) for one class c, a built-in or an own one: kitOne's answer -/
theorem isinst_ok {x : V} {u t : Value} (I : Inv X pins σ H s) (rx : RelV x u) (ty : TyOf X.K H x t) (e : PySem.W.kitOne X.K t c = some b) (h : ∀ tk, Q (.bool b) { s with toks := tk }) :
    wpAny (model X.prog X.w) A (call (.builtin "isinstance") [u, c]) Q E s := by
  cases ty with
  | non => cases (show u = Value.none from rx); exact PySem.W.kia_one PySem.W.kitx_none I.kIn True.intro e (fun z => nomatch z) h
  | bl y => cases (show u = Value.bool y from rx); exact PySem.W.kia_one PySem.W.kitx_bool I.kIn True.intro e (fun z => nomatch z) h
  | int i => obtain ⟨t, q⟩ := (show ∃ t, u = Value.int i t from rx); cases q; exact PySem.W.kia_one PySem.W.kitx_int I.kIn True.intro e (fun z => nomatch z) h
  | str y => obtain ⟨t, q⟩ := (show ∃ t, u = Value.str y t from rx); cases q; exact PySem.W.kia_one PySem.W.kitx_str I.kIn True.intro e (fun z => nomatch z) h
  | flt y => obtain ⟨t, q⟩ := (show ∃ t, u = Value.float y t from rx); cases q; exact PySem.W.kia_one PySem.W.kitx_float I.kIn True.intro e (fun z => nomatch z) h
  | @lst a xs ea =>
    cases (show u = Value.ref a from rx)
    obtain ⟨_, _, n, _, h1⟩ := (show ObjOk X.prog X.w H s.heap a (.lst xs) from I.hok a _ ea)
    exact PySem.W.kia_one PySem.W.kitx_list I.kIn ⟨_, h1, rfl⟩ e (fun z => nomatch z) h
  | @frz a ob xs ea =>
    cases (show u = Value.ref a from rx)
    obtain ⟨_, _, _, n, _, h1⟩ := (show ObjOk X.prog X.w H s.heap a (.frz ob (.lst xs)) from I.hok a _ ea)
    exact PySem.W.kia_one PySem.W.kitx_list I.kIn ⟨_, h1, rfl⟩ e (fun z => nomatch z) h
  | @tup a xs ea =>
    cases (show u = Value.ref a from rx)
    obtain ⟨_, _, _, p⟩ := (show ObjOk X.prog X.w H s.heap a (.tup xs) from I.hok a _ ea)
    obtain ⟨o, h1, h2, _⟩ := p
    exact PySem.W.kia_one PySem.W.kitx_tuple I.kIn ⟨o, h1, h2⟩ e (fun z => nomatch z) h
  | @dK a kvs ea =>
    cases (show u = Value.ref a from rx)
    obtain ⟨_, _, vs, _, p⟩ := (show ObjOk X.prog X.w H s.heap a (.dK kvs) from I.hok a _ ea)
    obtain ⟨o, es, ep, h1, h2, _⟩ := p
    exact PySem.W.kia_one PySem.W.kitx_dict I.kIn ⟨o, h1, h2.1⟩ e (fun z => nomatch z) h
  | @dT a kvs ea =>
    cases (show u = Value.ref a from rx)
    obtain ⟨_, _, xs, _, o, es, ep, h1, h2, _⟩ := (show ObjOk X.prog X.w H s.heap a (.dT kvs) from I.hok a _ ea)
    exact PySem.W.kia_one PySem.W.kitx_dict I.kIn ⟨o, h1, h2.1⟩ e (fun z => nomatch z) h
  | @ins a C dx fs ea cl ha hn htk hm =>
    cases (show u = Value.ref a from rx)
    obtain ⟨mA, O, _⟩ := ins_get I.hok ea
    obtain ⟨od, J, _⟩ := O.look
    exact PySem.W.kia_one (PySem.W.kitx_own (cl.get _) cl.hd ha hn htk hm) I.kIn J e (fun z => nomatch z) h
end
end L2

namespace L2
open PySem PySem.Spec PyProof.Rows

/-! ### room -/
structure Room (k : Nat) (A : Around) : Prop where
  hd : A.handled = none
  dp : A.depth + 3 * k + 5 < recursionLimit
  un : A.units + 16 * k + 200 < cLine
theorem Room.mono {j k : Nat} {A : Around} (r : Room k A) (h : j ≤ k) : Room j A := ⟨r.hd, by have := r.dp; omega, by have := r.un; omega⟩
theorem Room.deeper {k : Nat} {A : Around} (r : Room (k + 1) A) (env : Env) : Room k (A.deeper env) :=
  ⟨r.hd, by have := r.dp; show A.depth + 1 + 3 * k + 5 < _; omega, by have := r.un; show A.units + 3 + 16 * k + 200 < _; omega⟩
theorem make_depth {A : Around} {C : Addr} {us : List Value} {kw : List (Str × Value)} : (A.under (.builtin "type.__call__" ⟨.ref C :: us, kw⟩)).depth = A.depth + 1 := by
  first | rfl | simp [Around.under, Code.weight, Code.isCreation, Code.isGuard, Code.isCaller, Code.frames, Code.isFrame, guardIds]
theorem make_units {A : Around} {C : Addr} {us : List Value} {kw : List (Str × Value)} : (A.under (.builtin "type.__call__" ⟨.ref C :: us, kw⟩)).units = A.units + 1 := by
  first | rfl | simp [Around.under, Code.cUnits, Code.frames, Code.isFrame]
theorem Room.make {k : Nat} {A : Around} (r : Room (k + 1) A) (C : Addr) (us : List Value) (kw : List (Str × Value)) : Room k (A.under (.builtin "type.__call__" ⟨.ref C :: us, kw⟩)) :=
  ⟨r.hd, by have := r.dp; rw [make_depth]; omega, by have := r.un; rw [make_units]; omega⟩
theorem Room.depth {k : Nat} {A : Around} (r : Room k A) : A.depth < recursionLimit := by have := r.dp; omega
theorem Room.units0 {k : Nat} {A : Around} (r : Room k A) : A.units < cLine := by have := r.un; omega

/-! ### argument lists and displays -/
def tNil : TA := fun _ H Q => Q [] H
def tCons (ta : TE) (tr : TA) : TA := fun σ H Q => ta σ H fun x H1 => tr σ H1 fun xs H2 => Q (x :: xs) H2
section
variable {X : Cx} {e : Expr} {es : List Expr} {te : TE} {t : TA} {pos : Pos}
theorem pa_nil : PA X [] tNil := fun _ _ _ _ H Q I h => Calls.spliced_nil ⟨[], H, I, .nil, h⟩
theorem pa_cons (ha : PE X e te) (hr : PA X es t) (hs : starEach (e :: es) X.env = (false, eval e X.env) :: starEach es X.env := by rfl) : PA X (e :: es) (tCons te t) := by
  intro pos pins s σ H Q I h
  rw [hs]
  show wpAny _ _ (spliced ((false, eval e X.env) :: backTo pos (starEach es X.env))) _ _ s
  refine Calls.spliced_cons (thn (ha pins s σ H _ I h) fun u s1 ⟨x, H1, I1, r1, q1⟩ => ?_)
  exact thn (hr pos pins s1 σ H1 _ I1 q1) fun us s2 ⟨xs, H2, I2, r2, q2⟩ => ⟨x :: xs, H2, I2, .cons r1 r2, q2⟩

/-- a tuple, a list of written items -/
def tTup (t : TA) : TE := fun σ H Q => t σ H fun xs H1 => xs.length ≤ sizeLine ∧ ∀ p, H1 p = none → Q (.ref p) (upd H1 p (.tup xs))
def tLst (t : TA) : TE := fun σ H Q => t σ H fun xs H1 => xs.length ≤ sizeLine ∧ ∀ p, H1 p = none → Q (.ref p) (upd H1 p (.lst xs))
theorem pe_tup {x1} (h : PA X es t) : PE X (.Tuple es x1 pos) (tTup t) := by
  intro pins s σ H Q I hq
  refine wpAny_Tuple_spliced (thn (h pos pins s σ H _ I hq) fun us s1 ⟨xs, H1, I1, r, z, q⟩ => ⟨by rw [← r.length]; exact z, ?_⟩)
  have hf : H1 s1.heap.objs.size = none := I1.hok.fresh (Nat.le_refl _)
  refine ⟨.ref s1.heap.objs.size, upd H1 s1.heap.objs.size (.tup xs), I1.laid (t' := s1.toks) (fun b u e => Heap.get?_push_of_some _ e) (Nat.le_refl _) ?_, rfl, q _ hf⟩
  exact ⟨z, us, r, ⟨_, Heap.get?_push_size _ rfl, rfl, _, rfl⟩⟩
theorem pe_lst (h : PA X es t) : PE X (.List es pos) (tLst t) := by
  intro pins s σ H Q I hq
  refine wpAny_List_spliced (thn (h pos pins s σ H _ I hq) fun us s1 ⟨xs, H1, I1, r, z, q⟩ => ⟨by rw [← r.length]; exact z, ?_⟩)
  have hf : H1 s1.heap.objs.size = none := I1.hok.fresh (Nat.le_refl _)
  refine ⟨.ref s1.heap.objs.size, upd H1 s1.heap.objs.size (.lst xs), I1.laid (t' := s1.toks) (fun b u e => Heap.get?_push_of_some _ e) (Nat.le_refl _) ?_, rfl, q _ hf⟩
  exact ⟨z, us, 0, r, Heap.get?_push_size _ rfl⟩
end

/-! ### what a def promises -/
/-- a def's promise: the bound arguments in the parameters' order, the heap, the wanted end, the wanted exception -/
abbrev Sp := List V → Hp → VK → XK → Prop
/-- how an exception lies behind a call (file 08 gives it): the callers' frames, abstract heap and state ahead of the call, the wish, the exception, the state -/
abbrev CXT := List Env → Hp → Shared → XK → Value → Shared → Prop

/-- the state at a call -/
structure Env0 (P : Program) (w : World) (K : PySem.W.Frag) (mg : Str → Option Value) (base : Heap) (A : Around) (outer : List Env) (s : Shared) (H : Hp) : Prop where
  frames : A.frames = some outer
  mod : Mod K mg base
  bs : ∀ b o, base.get? b = some o → s.heap.get? b = some o ∧ H b = none
  bsz : base.objs.size ≤ s.heap.objs.size
  funs : s.heap.FunFrames base outer
  frf : ∀ b ∈ frs outer, H b = none
  hok : HOk P w H s.heap
  bare : AllBare s.gens
/-- a call's end -/
def CE (outer : List Env) (P : Program) (w : World) (H : Hp) (s : Shared) (Q : VK) (u : Value) (s' : Shared) : Prop :=
  ∃ v H', s'.os = s.os ∧ AllBare s'.gens ∧ Un (frs outer) [] H H' s.heap s'.heap ∧ HOk P w H' s'.heap ∧ RelV v u ∧ Q v H'
def CR (CX : CXT) (outer : List Env) (P : Program) (w : World) (H : Hp) (s : Shared) (Q : VK) (E : XK) (r : Result) (s' : Shared) : Prop :=
  match r with
  | .ok (.ret u) => CE outer P w H s Q u s'
  | .ok _ => False
  | .error e => CX outer H s E e s'
structure FnOk (P : Program) (w : World) (K : PySem.W.Frag) (mg : Str → Option Value) (base : Heap) (CX : CXT) (k : Nat) (f : Addr) (fd : FuncData) (ps : List Str) (sp : Sp) : Prop where
  len : ∀ vs H Q E, sp vs H Q E → vs.length = ps.length
  run : ∀ (A : Around) (outer : List Env) (s : Shared) (H : Hp) (args : Args) (us : List Value) (vs : List V) (Q : VK) (E : XK), Room k A → Env0 P w K mg base A outer s H → BindsTo s fd args (ps.zip us) → Vals vs us → sp vs H Q E →
    codeAny (model P w) A (.call (.ref f) args) (CR CX outer P w H s Q E) s
theorem FnOk.mono {P : Program} {w : World} {K : PySem.W.Frag} {mg : Str → Option Value} {base : Heap} {CX : CXT} {j k : Nat} {f : Addr} {fd : FuncData} {ps : List Str} {sp : Sp} (F : FnOk P w K mg base CX j f fd ps sp) (h : j ≤ k) :
    FnOk P w K mg base CX k f fd ps sp := ⟨F.len, fun A outer s H args us vs Q E hr => F.run A outer s H args us vs Q E (hr.mono h)⟩
/-- a weaker promise -/
theorem FnOk.imp {P : Program} {w : World} {K : PySem.W.Frag} {mg : Str → Option Value} {base : Heap} {CX : CXT} {k : Nat} {f : Addr} {fd : FuncData} {ps : List Str} {sp sp' : Sp} (F : FnOk P w K mg base CX k f fd ps sp)
    (h : ∀ vs H Q E, sp' vs H Q E → sp vs H Q E) : FnOk P w K mg base CX k f fd ps sp' :=
  ⟨fun vs H Q E q => F.len vs H Q E (h _ _ _ _ q), fun A outer s H args us vs Q E hr he hb hv hs => F.run A outer s H args us vs Q E hr he hb hv (h _ _ _ _ hs)⟩

theorem Env0.make {P : Program} {w : World} {K : PySem.W.Frag} {mg : Str → Option Value} {base : Heap} {A : Around} {outer : List Env} {s : Shared} {H : Hp} (e : Env0 P w K mg base A outer s H) (C : Addr) (us : List Value) (kw : List (Str × Value)) :
    Env0 P w K mg base (A.under (.builtin "type.__call__" ⟨.ref C :: us, kw⟩)) outer s H := ⟨by first | exact e.frames | (simpa [Around.under, Code.envs, Code.isFrame, pushEnvs] using e.frames), e.mod, e.bs, e.bsz, e.funs, e.frf, e.hok, e.bare⟩
section
variable {X : Cx} {pins : List (Addr × Obj)} {σ : St} {H : Hp} {s s' : Shared}
/-- from a body: what a callee wants -/
theorem Inv.env0 (I : Inv X pins σ H s) : Env0 X.prog X.w X.K X.mg X.base X.A X.stack s H :=
  ⟨I.ok.frames, I.ok.mod, I.bs, Nat.le_trans I.ok.bsz I.sz, I.stack, I.stkFree, I.hok, I.bare⟩
/-- behind a call -/
theorem Inv.after {Q : VK} {u : Value} (I : Inv X pins σ H s) (h : CE X.stack X.prog X.w H s Q u s') : EP X pins σ Q u s' := by
  obtain ⟨v, H', os, bare, un, hok, r, q⟩ := h
  obtain ⟨hh, g, d, t, os'⟩ := s'
  obtain rfl : os' = s.os := os
  exact ⟨v, H', I.call (h' := hh) (g' := g) (d' := d) (t' := t) (ch := []) un hok bare (fun b z => absurd z (by simp)), r, q⟩
end

/-! ### calls -/
/-- f(..): the written arguments, then the defaults dvs; E: what is wanted of an exception -/
def tCall (sp : Sp) (dvs : List V) (E : XK) (t : TA) : TE := fun σ H Q => t σ H fun vs H1 => sp (vs ++ dvs) H1 Q E
/-- how the parameters are bound: us the positional arguments, kw the keywords' values by name, ds the defaults that fill up -/
def Binds (K : PySem.W.Frag) (fd : FuncData) (ps : List Str) (ds : List Value) : Prop :=
  ∀ (s : Shared) (us : List Value), K.In s.heap → (us ++ ds).length = ps.length → BindsTo s fd ⟨us, []⟩ (ps.zip (us ++ ds))
/-- every parameter is given -/
theorem Binds.all {K : PySem.W.Frag} {fd : FuncData} {ps : List Str} (h : ∀ us : List Value, us.length = ps.length → bindArgs fd ⟨us, []⟩ = pure (ps.zip us)) : Binds K fd ps [] := fun s us _ hl => by
  rw [List.append_nil] at hl ⊢
  exact .of_eq (h us hl)

/-- an exception of a callee reaches what this body wants of exceptions -/
def Passes (CX : CXT) (X : Cx) (E : XK) : Prop := ∀ (pins : List (Addr × Obj)) (σ : St) (H : Hp) (s : Shared) (e : Value) (s' : Shared), Inv X pins σ H s → CX X.stack H s E e s' → X.xe e s'

section
variable {X : Cx} {CX : CXT} {k : Nat} {f C : Addr} {fd : FuncData} {ps : List Str} {sp : Sp} {dvs : List V} {ds : List Value} {E : XK} {x m : Str} {p pos apos : Pos} {e o : Expr} {es : List Expr} {ta : TE} {t : TA}

/-- the callee runs -/
theorem run_fn {pins : List (Addr × Obj)} {σ : St} {H : Hp} {s : Shared} {Q : VK} {us : List Value} {vs : List V} (F : FnOk X.prog X.w X.K X.mg X.base CX k f fd ps sp) (hr : Room k X.A) (hb : Binds X.K fd ps ds) (hd : Vals dvs ds) (hx : Passes CX X E)
    (I : Inv X pins σ H s) (r : Vals vs us) (h : sp (vs ++ dvs) H Q E) : wpAny (model X.prog X.w) X.A (call (.ref f) us) (EP X pins σ Q) X.xe s := by
  have r2 : Vals (vs ++ dvs) (us ++ ds) := r.append hd
  have hl : (us ++ ds).length = ps.length := by rw [← r2.length]; exact F.len _ _ _ _ h
  refine wpAny_call (codeAny_mono (F.run X.A X.stack s H ⟨us, []⟩ (us ++ ds) (vs ++ dvs) Q E hr I.env0 (hb s us I.kIn hl) r2 h) fun r s' hq => ?_)
  cases r with
  | error e => exact hx pins σ H s e s' I hq
  | ok fl =>
    cases fl with
    | ret u => exact I.after hq
    | next => exact False.elim hq
    | brk => exact False.elim hq
    | cont => exact False.elim hq

theorem pe_call (F : FnOk X.prog X.w X.K X.mg X.base CX k f fd ps sp) (hr : Room k X.A) (hg : Gl X x) (hm : X.mg x = some (.ref f)) (hk : PySem.W.keepIn X.K (.ref f) = true) (hb : Binds X.K fd ps ds) (hd : Vals dvs ds) (hx : Passes CX X E)
    (ha : PA X (e :: es) t) (hdb : (x == ("__debug__" : Str)) = false := by decide) (he : starEach (e :: es) X.env = (false, eval e X.env) :: starEach es X.env := by rfl) (hpl : (backTo pos (starEach es X.env)).any (·.1) = false := by rfl) :
    PE X (.Call (.Name x p) (e :: es) [] pos) (tCall sp dvs E t) := by
  intro pins s σ H Q I h
  refine wpAny_Call_Name_kw (ld_glob I hg hm ?_ hdb)
  refine PySem.W.callWith_K (h₀ := X.base) I.ok.mod.kin hk (thn (ha pos pins s σ H _ I h) fun us s1 ⟨vs, H1, I1, r, q⟩ => ⟨I1.kIn, ?_⟩) he hpl
  exact run_fn F hr hb hd hx I1 r q
/-- what a class must have to be made -/
structure Mk (K : PySem.W.Frag) (C f : Addr) : Prop where
  makes : PySem.W.makesIn K C = true
  init : PySem.W.findIn K (.ref C) "__init__" = some (some (.ref f))
  fn : PySem.W.isFn K (.ref f) = true
  kp : PySem.W.keepIn K (.ref C) = true

theorem run_make {pins : List (Addr × Obj)} {σ : St} {H : Hp} {s : Shared} {Q : VK} {us : List Value} {vs : List V} (M : Mk X.K C f) (F : FnOk X.prog X.w X.K X.mg X.base CX k f fd ps sp) (hr : Room (k + 1) X.A) (hb : Binds X.K fd ps ds) (hd : Vals dvs ds)
    (hx : Passes CX X E) (I : Inv X pins σ H s) (r : Vals vs us)
    (h : ∀ x dx, H x = none → H dx = none → dx ≠ x → sp (.ref x :: (vs ++ dvs)) (upd (upd H dx (.own x)) x (.ins C dx [])) (fun v H2 => v = .non ∧ Q (.ref x) H2) E) :
    wpAny (model X.prog X.w) X.A (call (.ref C) us) (EP X pins σ Q) X.xe s := by
  have hq := h (s.heap.objs.size + 1) s.heap.objs.size (I.hok.fresh (Nat.le_succ _)) (I.hok.fresh (Nat.le_refl _)) (Nat.ne_of_lt (Nat.lt_succ_self _))
  have I2 := Inv.made (C := C) I
  have r2 : Vals (V.ref (s.heap.objs.size + 1) :: (vs ++ dvs)) (Value.ref (s.heap.objs.size + 1) :: (us ++ ds)) := .cons rfl (r.append hd)
  have hl : (Value.ref (s.heap.objs.size + 1) :: us ++ ds).length = ps.length := by
    have e := r2.length
    rw [F.len _ _ _ _ hq] at e
    exact e.symm
  refine wpAny_call (make_map (f := f) I.kIn M.makes M.init (beq_iff_eq.mp M.fn) (codeAny_mono (F.run _ X.stack _ _ ⟨Value.ref (s.heap.objs.size + 1) :: us, []⟩ (Value.ref (s.heap.objs.size + 1) :: (us ++ ds)) _ _ E (hr.make C us [])
    (I2.env0.make C us []) (hb _ (Value.ref (s.heap.objs.size + 1) :: us) I2.kIn hl) r2 hq) fun r s' hq' => ?_))
  cases r with
  | error e => exact hx pins σ _ _ e s' I2 hq'
  | ok fl =>
    cases fl with
    | ret u =>
      obtain ⟨v, H', I3, rv, ev, q3⟩ := I2.after hq'
      subst ev
      exact ⟨rv, ⟨V.ref (s.heap.objs.size + 1), H', I3, rfl, q3⟩⟩
    | next => exact False.elim hq'
    | brk => exact False.elim hq'
    | cont => exact False.elim hq'
end

/-! ### keywords -/
section
variable {X : Cx} {CX : CXT} {k : Nat} {f C : Addr} {fd : FuncData} {ps ks : List Str} {sp : Sp} {E : XK} {x m : Str} {p pos apos kpos : Pos} {e o : Expr} {es : List Expr} {kws : List Keyword} {te ta : TE} {t tk : TA} {nm : Option Str}
variable {g : List Value → List Value → List Value} {gV : List V → List V → List V}
end

/-! ### a def's body keeps its promise -/
/-- names: the parameters first -/
structure FnScope (N P : List Str) (sc : Scope) : Prop where
  kind : sc.kind = .function
  co : sc.isCoroutine = false
  gen : sc.isGenerator = false
  nd : N.Nodup
  pre : N.take P.length = P
  par : ∀ x ∈ P, sc.names.lookup x = some .local ∨ sc.names.lookup x = some .cell
  nofree : ∀ y ∈ sc.names, y.2 ≠ .free

theorem bindL_out {kindOf : Str → Option NameKind} {x : Str} : ∀ {binds : List (Str × Value)} {m : Str → Option Value}, (∀ v, (x, v) ∉ binds) → bindL kindOf binds m x = m x
  | [], _, _ => rfl
  | (n, v) :: r, m, h => by
    unfold bindL
    rw [bindL_out fun w hw => h w (List.mem_cons_of_mem _ hw)]
    split
    · have : x ≠ n := by rintro rfl; exact h v List.mem_cons_self
      simp [this]
    · rfl
theorem bindC_out {kindOf : Str → Option NameKind} {x : Str} : ∀ {binds : List (Str × Value)} {m : Str → Option Value}, (∀ v, (x, v) ∉ binds) → bindC kindOf binds m x = m x
  | [], _, _ => rfl
  | (n, v) :: r, m, h => by
    unfold bindC
    rw [bindC_out fun w hw => h w (List.mem_cons_of_mem _ hw)]
    split
    · rfl
    · have : x ≠ n := by rintro rfl; exact h v List.mem_cons_self
      simp [this]
theorem bindL_get {kindOf : Str → Option NameKind} {x : Str} {v : Value} : ∀ {P : List Str} {vs : List Value} {i : Nat} {m : Str → Option Value}, P.Nodup → P[i]? = some x → vs[i]? = some v → kindOf x = some .local →
    bindL kindOf (P.zip vs) m x = some v
  | [], _, _, _, _, h, _, _ => by simp at h
  | _ :: _, [], _, _, _, _, h, _ => by simp at h
  | p :: P, w :: vs, 0, m, nd, h1, h2, hk => by
    simp at h1 h2; subst h1; subst h2
    show bindL kindOf ((p, w) :: P.zip vs) m p = _
    unfold bindL
    rw [bindL_out fun v hv => (List.nodup_cons.mp nd).1 (List.of_mem_zip hv).1, if_pos hk]
    simp
  | p :: P, w :: vs, i + 1, m, nd, h1, h2, hk => by
    show bindL kindOf ((p, w) :: P.zip vs) m x = _
    unfold bindL
    exact bindL_get (i := i) (List.nodup_cons.mp nd).2 (by simpa using h1) (by simpa using h2) hk
theorem bindC_get {kindOf : Str → Option NameKind} {x : Str} {v : Value} : ∀ {P : List Str} {vs : List Value} {i : Nat} {m : Str → Option Value}, P.Nodup → P[i]? = some x → vs[i]? = some v → kindOf x ≠ some .local →
    bindC kindOf (P.zip vs) m x = some v
  | [], _, _, _, _, h, _, _ => by simp at h
  | _ :: _, [], _, _, _, _, h, _ => by simp at h
  | p :: P, w :: vs, 0, m, nd, h1, h2, hk => by
    simp at h1 h2; subst h1; subst h2
    show bindC kindOf ((p, w) :: P.zip vs) m p = _
    unfold bindC
    rw [bindC_out fun v hv => (List.nodup_cons.mp nd).1 (List.of_mem_zip hv).1, if_neg hk]
    simp
  | p :: P, w :: vs, i + 1, m, nd, h1, h2, hk => by
    show bindC kindOf ((p, w) :: P.zip vs) m x = _
    unfold bindC
    exact bindC_get (i := i) (List.nodup_cons.mp nd).2 (by simpa using h1) (by simpa using h2) hk

/-- the names' values at the entry -/
def start (N : List Str) (vs : List V) : St := vs.map some ++ List.replicate (N.length - vs.length) none

/-- the context of a def's body, at its entry; an exception leaves the frame, then lies as CX says -/
def cxOf (CX : CXT) (P : Program) (w : World) (K : PySem.W.Frag) (mg : Str → Option Value) (base : Heap) (N : List Str) (qual : Str) (scope : Scope) (f : Addr) (cd : Value) (A : Around) (outer : List Env) (s : Shared) (H : Hp) (E : XK) : Cx where
  prog := P
  w := w
  K := K
  mg := mg
  base := base
  A := A.deeper (envOfC qual scope s.heap.objs.size f cd)
  N := N
  s₀ := s
  H₀ := H
  env := envOfC qual scope s.heap.objs.size f cd
  outer := outer
  stack := envOfC qual scope s.heap.objs.size f cd :: outer
  ex := []
  calm := true
  fn := fun _ => true
  pn := []
  xe := fun e s' => wpAny (model P w) (A.deeper (envOfC qual scope s.heap.objs.size f cd)) (leaving (envOfC qual scope s.heap.objs.size f cd) e) (fun _ s'' => CX outer H s E e s'') (fun e' s'' => CX outer H s E e' s'') s'

theorem cell_has {sc : Scope} {n : Nat} {x : Str} (h : sc.names.lookup x = some .cell) : ∃ c, (cellsFrom n sc.names []).lookup x = some c := by
  have q := PySem.W.cellsFrom_some sc.names n [] (.inl h)
  exact Option.isSome_iff_exists.mp q

theorem inv_start {CX : CXT} {P : Program} {w : World} {K : PySem.W.Frag} {mg : Str → Option Value} {base : Heap} {N ps : List Str} {qual : Str} {scope : Scope} {f : Addr} {cd : Value} {A : Around} {outer : List Env} {s s1 : Shared} {H : Hp} {E : XK} {us : List Value} {vs : List V}
    (S : FnScope N ps scope) (hd : A.handled = none) (e0 : Env0 P w K mg base A outer s H) (hl : vs.length = ps.length) (r : Vals vs us)
    (x : InCallC s s.heap.objs.size (bindL (envOfC qual scope s.heap.objs.size f cd).kindOf (ps.zip us) fun _ => none) (cellsFrom (s.heap.objs.size + 1) scope.names []) (bindC (envOfC qual scope s.heap.objs.size f cd).kindOf (ps.zip us) fun _ => none) s1) :
    Inv (cxOf CX P w K mg base N qual scope f cd A outer s H E) [] (start N vs) H s1 := by
  have hpl : ps.length ≤ N.length := by have := congrArg List.length S.pre; rw [List.length_take] at this; omega
  obtain ⟨h1, tk, rfl, hk⟩ := x.done
  have noA : ∀ b : Addr, b ∉ (cxOf CX P w K mg base N qual scope f cd A outer s H E).ex := fun b z => absurd (show b ∈ ([] : List Addr) from z) (by simp)
  refine ⟨⟨e0.mod, S.kind, rfl, rfl, Nat.le_refl _, fun y z c h1 h2 => ?_, fun y hy => ?_, fun y c _ h => ?_, fun _ => hd, Around.frames_deeper e0.frames, .inr ⟨rfl, rfl⟩, fun b z => absurd z (noA b), e0.bs, e0.bsz, fun b _ _ => noA b, fun b z => absurd z (noA b), e0.funs, e0.frf⟩,
    rfl, e0.bare, Un.kept hk, ⟨_, x.toInCall.ns, fun i y v h1 h2 h3 => ?_⟩, fun y c h => ⟨_, x.cell y c h⟩, e0.hok.fresh (Nat.le_refl _), fun y c h => ?_, fun p hp => absurd (show p ∈ ([] : List (Addr × Obj)) from hp) (by simp), e0.hok.kept hk, ?_⟩
  · exact name_of_addr x.apart (PySem.mem_of_lookup h1) (PySem.mem_of_lookup h2)
  · have hy : scope.names.lookup y = some .cell ∨ scope.names.lookup y = some .free := hy
    rcases hy with hy | hy
    · exact cell_has hy
    · exact absurd rfl (S.nofree _ (PySem.mem_of_lookup hy))
  · exact Nat.le_of_lt (x.above y c (PySem.mem_of_lookup h))
  · have hi : i < vs.length := by
      unfold start at h2
      by_cases hi : i < vs.length
      · exact hi
      · rw [List.getElem?_append_right (by simpa using hi)] at h2
        rw [List.getElem?_replicate] at h2
        split at h2 <;> cases h2
    have ha : vs[i]? = some v := by
      unfold start at h2
      rw [List.getElem?_append_left (by simpa using hi), List.getElem?_map] at h2
      cases e : vs[i]? with
      | none => rw [e] at h2; cases h2
      | some a => rw [e] at h2; cases h2; rfl
    obtain ⟨u, hu, rv⟩ := r.get ha
    have hp : ps[i]? = some y := by
      rw [← S.pre, List.getElem?_take_of_lt (by omega)]; exact h1
    have ndP : ps.Nodup := by rw [← S.pre]; exact S.nd.sublist (List.take_sublist _ _)
    refine ⟨u, rv, ?_⟩
    rcases S.par y (List.mem_of_getElem? hp) with k | k
    · exact .inl ⟨k, bindL_get ndP hp hu k⟩
    · obtain ⟨c, e⟩ := cell_has (n := s.heap.objs.size + 1) k
      refine .inr ⟨.inl k, c, e, ?_⟩
      have q := x.cell y c e
      rw [bindC_get ndP hp hu (by show scope.names.lookup y ≠ _; rw [k]; decide)] at q
      exact q
  · exact e0.hok.fresh (Nat.le_of_lt (x.above y c (PySem.mem_of_lookup h)))
  · unfold start
    show _ = N.length
    rw [List.length_append, List.length_map, List.length_replicate]
    omega

/-- THE RULE: a def (or a method) of the text, by its body. The body's reading t is chosen for each entry; it is run at the parameters' values -/
theorem fn_of {CX : CXT} {P : Program} {w : World} {K : PySem.W.Frag} {mg : Str → Option Value} {base : Heap} {k : Nat} {f : Addr} {name qual : Str} {params : Arguments} {body : List Stmt} {scope : Scope} {dV kV doc pm cdv ct oc : Value} {an od : Option Addr}
    {osl : Array (Option Value)} {N ps : List Str} {sp : Sp} (lk : K.lookup f = some ⟨oc, od, .func (PySem.W.fnOf name qual params body scope dV kV doc pm an cdv ct), osl⟩) (hcd : PySem.W.codeIn K cdv qual = true) (S : FnScope N ps scope)
    (len : ∀ vs H Q E, sp vs H Q E → vs.length = ps.length)
    (hbody : ∀ (A : Around) (outer : List Env) (s : Shared) (H : Hp) (vs : List V) (Q : VK) (E : XK), Room k (A.deeper (envOfC qual scope s.heap.objs.size f cdv)) → sp vs H Q E →
      ∃ t, PSs (cxOf CX P w K mg base N qual scope f cdv A outer s H E) body t ∧ t { nx := fun _ H' => Q .non H', rt := Q } (start N vs) H) :
    FnOk P w K mg base CX (k + 1) f (PySem.W.fnOf name qual params body scope dV kV doc pm an cdv ct) ps sp := by
  refine ⟨len, fun A outer s H args us vs Q E hr e0 hb r hsp => ?_⟩
  have hl := len _ _ _ _ hsp
  have KX : K.In s.heap := e0.mod.kin.keeps fun b o e => (e0.bs b o e).1
  have lim : s.heap.NoLimit := e0.mod.nolimit.keeps fun b o e => (e0.bs b o e).1
  have hkind : ∀ y ∈ ps.zip us, scope.names.lookup y.1 = some .local ∨ (scope.names.lookup y.1 = some .cell ∧ ((cellsFrom (s.heap.objs.size + 1) scope.names []).lookup y.1).isSome = true) := fun ⟨n, v⟩ hy => by
    rcases S.par n (List.of_mem_zip hy).1 with q | q
    · exact .inl q
    · exact .inr ⟨q, PySem.W.cellsFrom_some _ _ _ (.inl q)⟩
  refine codeAny_call_function hr.depth (KX _ _ lk) rfl S.co S.gen rfl (PySem.W.codeRec_of KX hcd) (hb _ _ _ _ ?_)
  refine wpAny_newFunctionEnv_cells S.kind hkind fun env he s1 x => ?_
  subst he
  refine ⟨lim.keeps x.toInCall.keep, codeAny_func ?_⟩
  obtain ⟨t, ht, hq⟩ := hbody A outer s H vs Q E (hr.deeper _) hsp
  have I : Inv (cxOf CX P w K mg base N qual scope f cdv A outer s H E) [] (start N vs) H s1 := inv_start S hr.hd e0 hl r x
  refine wpAny_mono (ht [] s1 (start N vs) H _ I hq) (fun fl s' hs => ?_) fun e s' hs => hs
  have fin : ∀ {σ' : St} {H' : Hp} {v : V} {u : Value}, Inv (cxOf CX P w K mg base N qual scope f cdv A outer s H E) [] σ' H' s' → RelV v u → Q v H' → CE outer P w H s Q u s' :=
    fun {σ' H' v u} J rv q => ⟨v, H', J.os, J.bare, J.base, J.hok, rv, q⟩
  cases fl with
  | ret u =>
    obtain ⟨v, σ', H', J, rv, q⟩ := hs
    exact fin J rv q
  | next =>
    obtain ⟨σ', H', J, q⟩ := hs
    exact fin (v := V.non) (u := Value.none) J rfl q
  | brk =>
    obtain ⟨_, _, _, q⟩ := hs
    exact False.elim q
  | cont =>
    obtain ⟨_, _, _, q⟩ := hs
    exact False.elim q
end L2

namespace L2
open PySem PySem.Spec PyProof.Rows
section
variable {X : Cx} {x : Str} {p pos : Pos} {e : Expr} {es : List Expr} {t : TA} {id T : String} {r : List V → Hp → VK → Prop}

def tCB (r : List V → Hp → VK → Prop) (t : TA) : TE := fun σ H Q => t σ H fun vs H1 => r vs H1 Q
/-- f(e, ..), f a built-in function -/
theorem pe_callB (hc : CallR X (.builtin id) r) (hg : Gl X x) (hm : X.mg x = none) (hv : bootBuiltins x = some (.builtin id)) (ha : PA X (e :: es) t) (hn : x ≠ "__name__" := by decide) (hdb : (x == ("__debug__" : Str)) = false := by decide)
    (he : starEach (e :: es) X.env = (false, eval e X.env) :: starEach es X.env := by rfl) (hpl : (backTo pos (starEach es X.env)).any (·.1) = false := by rfl) : PE X (.Call (.Name x p) (e :: es) [] pos) (tCB r t) := by
  intro pins s σ H Q I h
  refine wpAny_Call_Name_kw (ld_blt I hg hm hv ?_ hn hdb)
  exact PyProof.Rows.callWith_builtin1 (thn (ha pos pins s σ H _ I h) fun us s1 ⟨vs, H1, I1, r1, q1⟩ => hc pins s1 σ H1 vs us Q I1 r1 q1) he hpl
/-- T(e, ..), T a built-in type -/
theorem pe_callTy (hc : CallR X (.type T) r) (hg : Gl X x) (hm : X.mg x = none) (hv : bootBuiltins x = some (.type T)) (ha : PA X (e :: es) t) (hn : x ≠ "__name__" := by decide) (hdb : (x == ("__debug__" : Str)) = false := by decide)
    (he : starEach (e :: es) X.env = (false, eval e X.env) :: starEach es X.env := by rfl) (hpl : (backTo pos (starEach es X.env)).any (·.1) = false := by rfl) : PE X (.Call (.Name x p) (e :: es) [] pos) (tCB r t) := by
  intro pins s σ H Q I h
  refine wpAny_Call_Name_kw (ld_blt I hg hm hv ?_ hn hdb)
  exact PyProof.Rows.callWith_type1 (thn (ha pos pins s σ H _ I h) fun us s1 ⟨vs, H1, I1, r1, q1⟩ => hc pins s1 σ H1 vs us Q I1 r1 q1) he hpl
end
end L2

namespace HT
open PySem PyProof.Rows

section
open PySem.SeqAt
open PySem.AutoSeq1 (wpAny_loadPart')
open PySem.MeetsSeq PySem.MeetsSeq2 PySem.MeetsSeq3

end

section
variable {prog : Program} {w : World} {A : Around} {E : Value → Shared → Prop} {s : Shared}

/-! ### t[a:b], not the whole -/
/-- a slice's bound as a place among n (d where it is left out) -/
def sIx (n d : Nat) : Option Int → Nat
  | none => d
  | some v => if v < 0 then (v + (n : Int)).toNat else min v.toNat n
theorem sIx_none (n d : Nat) : sIx n d none = d := rfl
theorem sIx_le (n d : Nat) (hd : d ≤ n) (o : Option Int) : sIx n d o ≤ n := by
  cases o with
  | none => exact hd
  | some v =>
    show (if v < 0 then (v + (n : Int)).toNat else min v.toNat n) ≤ n
    by_cases hv : v < 0
    · rw [if_pos hv]; omega
    · rw [if_neg hv]; exact Nat.min_le_right _ _
end
end HT

namespace L2
open PySem PySem.Spec PyProof.Rows

/-! ### the parts of a slice -/
abbrev TO := St → Hp → (Option Int → Hp → Prop) → Prop
/-- a slice's part (left out, or an int) -/
def PO (X : Cx) (e : Option Expr) (t : TO) : Prop :=
  ∀ (pins : List (Addr × Obj)) (s : Shared) (σ : St) (H : Hp) (Q : Option Int → Hp → Prop), Inv X pins σ H s → t σ H Q →
    wpAny (model X.prog X.w) X.A (evalPart e X.env) (fun u s' => ∃ o H', Inv X pins σ H' s' ∧ IsPart u o ∧ Q o H') X.xe s
def tNoPart : TO := fun _ H Q => Q none H
def tPart (t : TE) : TO := fun σ H Q => t σ H fun x H1 => ∃ i, x = .int i ∧ Q (some i) H1

section
variable {X : Cx} {e : Expr} {te : TE} {lo hi : Option Expr} {tl th : TO} {pos p2 : Pos}

theorem po_none : PO X none tNoPart := by
  intro pins s σ H Q I h
  rw [evalPart_none]
  exact wpAny_pure ⟨none, H, I, .none, h⟩
theorem po_some (h : PE X e te) : PO X (some e) (tPart te) := by
  intro pins s σ H Q I hw
  rw [evalPart_some]
  refine thn (h pins s σ H _ I hw) fun u s1 ⟨x, H1, I1, r1, q1⟩ => ?_
  obtain ⟨i, rfl, q⟩ := q1
  obtain ⟨t, rfl⟩ := r1
  exact ⟨some i, H1, I1, .int i t, q⟩

/-- what a slice of a value is, by values: the slice object stands at sl -/
def SlR (X : Cx) (r : V → Option Int → Option Int → Hp → VK → Prop) : Prop :=
  ∀ (pins : List (Addr × Obj)) (s : Shared) (σ : St) (H : Hp) (x : V) (v vl vu : Value) (lo hi : Option Int) (sl : Addr) (Q : VK), Inv X pins σ H s → RelV x v → s.heap.IsSliceOf sl vl vu .none → IsPart vl lo → IsPart vu hi → r x lo hi H Q →
    ∃ T id, typeLookup (.type T) "__getitem__" = pure (some (.builtin id)) ∧ s.TypeIs v T ∧ wpAny (model X.prog X.w) X.A (getItem v (.ref sl)) (EP X pins σ Q) X.xe s
def tSl (r : V → Option Int → Option Int → Hp → VK → Prop) (te : TE) (tl th : TO) : TE := fun σ H Q => te σ H fun x H1 => tl σ H1 fun l H2 => th σ H2 fun u H3 => r x l u H3 Q
/-- a[lo:hi], any a -/
theorem pe_slice {r : V → Option Int → Option Int → Hp → VK → Prop} (hr : SlR X r) (he : PE X e te) (hl : PO X lo tl) (hu : PO X hi th) : PE X (.Subscript e (.Slice lo hi none p2) pos) (tSl r te tl th) := by
  intro pins s σ H Q I h
  refine Subscript_ (thn (he pins s σ H _ I h) fun v s1 ⟨x, H1, I1, r1, q1⟩ => ?_)
  refine wpAny_Slice (thn (hl pins s1 σ H1 _ I1 q1) fun vl s2 ⟨l, H2, I2, pl, q2⟩ => thn (hu pins s2 σ H2 _ I2 q2) fun vu s3 ⟨u, H3, I3, pu, q3⟩ => ?_)
  rw [evalPart_none]
  refine wpAny_pure ?_
  have I4 : Inv X pins σ H3 { s3 with heap := s3.heap.push { cls := .type "slice", data := .fields #[vl, vu, .none] } } := I3.kept (t' := s3.toks) fun b ob q => Heap.get?_push_of_some _ q
  obtain ⟨T, id, hT, ht, hg⟩ := hr pins { s3 with heap := s3.heap.push { cls := .type "slice", data := .fields #[vl, vu, .none] } } σ H3 x v vl vu l u s3.heap.objs.size Q I4 r1 (Heap.IsSliceOf.new ..) pl pu q3
  show wpAny (model X.prog X.w) X.A (subscriptTail e (.Slice lo hi none p2) v (.ref s3.heap.objs.size)) (EP X pins σ Q) X.xe { s3 with heap := s3.heap.push { cls := .type "slice", data := .fields #[vl, vu, .none] } }
  exact tail_any (ops := [.ref s3.heap.objs.size, v]) ht hT hg (by with_unfolding_all rfl)

/-- the items of xs[lo:hi] -/
def cutV (xs : List V) (lo hi : Option Int) : List V := (xs.drop (HT.sIx xs.length 0 lo)).take (HT.sIx xs.length xs.length hi - HT.sIx xs.length 0 lo)
theorem cutV_length (xs : List V) (lo hi : Option Int) : (cutV xs lo hi).length ≤ xs.length := by
  unfold cutV
  rw [List.length_take, List.length_drop]
  omega
/-! ### t < u, t + u -/
end
end L2

namespace L2
open PySem PySem.Spec PyProof.Rows

/-! ### places -/
/-- the place that an index of any sign means -/
def ixN (n : Nat) (i : Int) : Option Nat := if 0 ≤ i then (if i < n then some i.toNat else none) else if -(n : Int) ≤ i then some (i + n).toNat else none
def atI {α : Type} (xs : List α) (i : Int) : Option α := (ixN xs.length i).bind fun j => xs[j]?
theorem ixN_seq {n : Nat} {i : Int} {j : Nat} (h : ixN n i = some j) : seqIndex? i n = some j ∧ j < n ∧ -(n : Int) ≤ i ∧ i < n := by
  unfold ixN at h
  by_cases h0 : 0 ≤ i
  · rw [if_pos h0] at h
    by_cases h1 : i < n
    · rw [if_pos h1] at h
      have e : i.toNat = j := Option.some.inj h
      exact ⟨by rw [seqIndex_of h0 h1, e], by omega, by omega, h1⟩
    · rw [if_neg h1] at h; cases h
  · rw [if_neg h0] at h
    by_cases h1 : -(n : Int) ≤ i
    · rw [if_pos h1] at h
      have e : (i + n).toNat = j := Option.some.inj h
      exact ⟨by rw [seqIndex_neg (by omega) h1, e], by omega, h1, by omega⟩
    · rw [if_neg h1] at h; cases h
theorem atI_get {α : Type} {xs : List α} {i : Int} {v : α} (h : atI xs i = some v) : ∃ j, seqIndex? i xs.length = some j ∧ xs[j]? = some v ∧ j < xs.length ∧ -(xs.length : Int) ≤ i ∧ i < xs.length := by
  unfold atI at h
  cases e : ixN xs.length i with
  | none => rw [e] at h; cases h
  | some j =>
    rw [e] at h
    obtain ⟨h1, h2, h3, h4⟩ := ixN_seq e
    exact ⟨j, h1, h, h2, h3, h4⟩
theorem atI_nat {α : Type} {xs : List α} {j : Nat} {v : α} (h : xs[j]? = some v) : atI xs (j : Int) = some v := by
  have hj : j < xs.length := (List.getElem?_eq_some_iff.mp h).1
  have e : ixN xs.length (j : Int) = some j := by
    unfold ixN
    rw [if_pos (by omega), if_pos (by omega)]; simp
  unfold atI; rw [e]; exact h
/-! ### what may be subscripted -/
/-- what stands as an index of a plain subscript -/
def PlainIx (b : Expr) : Prop := ∀ o i, subscripted b false o i = operate [o, i] (getItem o i)
/-- a subscript by values -/
def IxR (X : Cx) (r : R2) : Prop :=
  ∀ (value slice : Expr) (pins : List (Addr × Obj)) (s : Shared) (σ : St) (H : Hp) (x y : V) (v u : Value) (Q : VK), Inv X pins σ H s → RelV x v → RelV y u → r x y H Q →
    subscripted slice false v u = operate [v, u] (getItem v u) → wpAny (model X.prog X.w) X.A (subscriptTail value slice v u) (EP X pins σ Q) X.xe s
/-- a call of a builtin's method by values: the receiver, the arguments -/
def MtR (X : Cx) (id : String) (r : V → List V → Hp → VK → Prop) : Prop :=
  ∀ (pins : List (Addr × Obj)) (s : Shared) (σ : St) (H : Hp) (x : V) (xs : List V) (v : Value) (us : List Value) (Q : VK), Inv X pins σ H s → RelV x v → Vals xs us → r x xs H Q →
    wpAny (model X.prog X.w) X.A (call (.builtin id) (v :: us)) (EP X pins σ Q) X.xe s
section
variable {X : Cx} {a b : Expr} {ta tb : TE} {pos : Pos}
/-- a[b] -/
theorem pe_ix {r : R2} (hr : IxR X r) (ha : PE X a ta) (hb : PE X b tb) (hs : PlainIx b) : PE X (.Subscript a b pos) (tOp r ta tb) := by
  intro pins s σ H Q I h
  exact Subscript_ (binT ha hb I h fun v u s2 x y H2 I2 rx ry q => hr a b pins s2 σ H2 x y v u Q I2 rx ry q (hs _ _))

def rIxL (K : PySem.W.Frag) : R2 := fun x y H Q => ∃ p xs i v, x = .ref p ∧ y = .int i ∧ SqL K H p xs ∧ atI xs i = some v ∧ Q v H
def rIxT (K : PySem.W.Frag) : R2 := fun x y H Q => ∃ p xs i v, x = .ref p ∧ y = .int i ∧ SqT K H p xs ∧ atI xs i = some v ∧ Q v H
def rIxS : R2 := fun x y H Q => ∃ z i c, x = .str z ∧ y = .int i ∧ z.length ≤ sizeLine ∧ atI z.cps.toList i = some c ∧ Q (.str ⟨#[c]⟩) H
theorem ix_list : IxR X (rIxL X.K) := by
  intro value slice pins s σ H x y v u Q I rx ry h hs
  obtain ⟨p, xs, i, z, rfl, rfl, hq, he, q⟩ := h
  cases rx
  obtain ⟨t, rfl⟩ := ry
  obtain ⟨its, r, pl, hz⟩ := I.list hq
  obtain ⟨j, h1, h2, h3, h4, h5⟩ := atI_get he
  obtain ⟨w, ew, rw'⟩ := r.get h2
  have hl := r.length
  have hn := line63
  have fin : EP X pins σ Q w s := ⟨z, H, I, rw', q⟩
  by_cases h0 : 0 ≤ i
  · have hj : i.toNat = j := by
      rw [seqIndex_of h0 h5] at h1
      exact Option.some.inj h1
    exact item_listR pl.isList h0 (by omega) (by rw [hj]; simpa using ew) fin hs
  · have hj : (i + (its.toArray.size : Int)).toNat = j := by
      rw [seqIndex_neg (by omega) h4] at h1
      rw [List.size_toArray, ← hl]
      exact Option.some.inj h1
    exact subscriptTail_builtinR (x := w) pl.isList.typeIs slot_list_getitem.lookup
      (wpAny_getItem_list_neg (Q := fun r s' => r = w ∧ EP X pins σ Q r s') pl.isList (by omega) (by rw [List.size_toArray] <;> omega) (by omega) (by rw [hj]; simpa using ew) ⟨rfl, fin⟩) hs
theorem ix_tup : IxR X (rIxT X.K) := by
  intro value slice pins s σ H x y v u Q I rx ry h hs
  obtain ⟨p, xs, i, z, rfl, rfl, hq, he, q⟩ := h
  cases rx
  obtain ⟨t, rfl⟩ := ry
  obtain ⟨its, r, pl, hz⟩ := I.tuple hq
  obtain ⟨j, h1, h2, h3, h4, h5⟩ := atI_get he
  obtain ⟨w, ew, rw'⟩ := r.get h2
  have hl := r.length
  have hn := line63
  have fin : EP X pins σ Q w s := ⟨z, H, I, rw', q⟩
  exact subscriptTail_builtinR (x := w) pl.typeIs slot_tuple_getitem.lookup
    (getItem_tuple (j := j) (Q := fun r s' => r = w ∧ EP X pins σ Q r s') pl (by omega) (by omega) (by rw [List.size_toArray, ← hl]; exact h1) (by simpa using ew) ⟨rfl, fin⟩) hs
theorem ix_str : IxR X rIxS := by
  intro value slice pins s σ H x y v u Q I rx ry h hs
  obtain ⟨z, i, c, rfl, rfl, hz, he, q⟩ := h
  obtain ⟨t, rfl⟩ := rx
  obtain ⟨t', rfl⟩ := ry
  obtain ⟨j, h1, h2, h3, h4, h5⟩ := atI_get he
  have hl : z.cps.toList.length = z.length := by simp [Str.length]
  rw [hl] at h1 h4 h5
  have hn := line63
  exact tail_any (typeIs_str s z t) slot_str_getitem.lookup (getItem_str (c := c) (by
    have e1 : decide (i < -(2 ^ 63 : Int)) = false := decide_eq_false (by omega)
    have e2 : decide (i ≥ 2 ^ 63) = false := decide_eq_false (by omega)
    rw [e1, e2, Bool.or_false]) (by rw [h1]; simpa using h2) ⟨.str ⟨#[c]⟩, H, I.tok _, ⟨_, rfl⟩, q⟩) hs
/-! ### xs[i] = v, any sign -/
/-! ### slices -/
theorem slice_bounds (lo hi : Option Int) (n : Nat) : (sliceBounds lo hi none n).1 = ((HT.sIx n 0 lo : Nat) : Int) ∧ (sliceBounds lo hi none n).2.1 = ((HT.sIx n n hi : Nat) : Int) ∧ (sliceBounds lo hi none n).2.2 = 1 := by
  refine ⟨?_, ?_, rfl⟩
  · cases lo with
    | none => simp [sliceBounds, HT.sIx]
    | some i =>
      simp only [sliceBounds, HT.sIx, Option.getD_none, show (1 : Int) > 0 by decide, if_true]
      by_cases h : i < 0
      · simp only [h, if_true] <;> omega
      · simp only [h, if_false] <;> omega
  · cases hi with
    | none => simp [sliceBounds, HT.sIx]
    | some i =>
      simp only [sliceBounds, HT.sIx, Option.getD_none, show (1 : Int) > 0 by decide, if_true]
      by_cases h : i < 0
      · simp only [h, if_true] <;> omega
      · simp only [h, if_false] <;> omega
theorem slicePick_cut (its : List Value) (lo hi : Option Int) : slicePick its.toArray lo hi none = ((its.drop (HT.sIx its.length 0 lo)).take (HT.sIx its.length its.length hi - HT.sIx its.length 0 lo)).toArray := by
  obtain ⟨h1, h2, h3⟩ := slice_bounds lo hi its.toArray.size
  unfold slicePick
  rw [h1, h2, h3]
  simp only [sliceRange_one, pick_run, List.size_toArray] <;> rfl
/-- xs[lo:hi] of a list: a new list -/
def rSlL (K : PySem.W.Frag) : V → Option Int → Option Int → Hp → VK → Prop := fun x lo hi H Q => ∃ a xs, x = .ref a ∧ SqL K H a xs ∧ ∀ p, H p = none → Q (.ref p) (upd H p (.lst (cutV xs lo hi)))
theorem sl_list : SlR X (rSlL X.K) := by
  intro pins s σ H x v vl vu lo hi sl Q I rx hs pl pu h
  obtain ⟨a, xs, rfl, hx, q⟩ := h
  cases rx
  obtain ⟨its, r, ht, hz⟩ := I.list hx
  have hlen := r.length
  refine ⟨"list", _, slot_list_getitem.lookup, ht.isList.typeIs, ?_⟩
  refine wpAny_getItem_list_slice ht.isList hs pl pu .none (by simp) ?_ (by rw [List.size_toArray] <;> omega)
  rw [slicePick_cut, ← hlen]
  refine ⟨.ref s.heap.objs.size, _, I.laid (t' := s.toks) (o := .lst (cutV xs lo hi)) (fun b ob q => Heap.get?_push_of_some _ q) (Nat.le_refl _) ?_, rfl, q _ (I.hok.fresh (Nat.le_refl _))⟩
  exact ⟨Nat.le_trans (cutV_length xs lo hi) hz, _, 0, (r.drop (HT.sIx xs.length 0 lo)).take (HT.sIx xs.length xs.length hi - HT.sIx xs.length 0 lo), Heap.get?_push_size _ rfl⟩

/-! ### in, not in: flat items -/
def flatV : V → Bool
  | .non => true
  | .bl _ => true
  | .int _ => true
  | .str _ => true
  | _ => false
/-- == of flat values -/
def eqV : V → V → Bool
  | .non, .non => true
  | .bl a, .bl b => a == b
  | .bl a, .int b => (if a then 1 else 0) == b
  | .int a, .bl b => a == (if b then 1 else 0)
  | .int a, .int b => a == b
  | .str a, .str b => a == b
  | _, _ => false
theorem eqAt_V {A : Around} {s : Shared} {y x : V} {u v : Value} (ry : RelV y u) (rx : RelV x v) (fy : flatV y = true) (fx : flatV x = true) : SeqAt.EqAt A s u v (eqV y x) := by
  cases y with
  | non =>
    cases ry
    cases x with
    | non => cases rx; exact SeqAt.EqAt.same _
    | bl b => cases rx; exact SeqAt.EqAt.none_bool b
    | int b => obtain ⟨t, rfl⟩ := rx; exact SeqAt.EqAt.none_int b t
    | str b => obtain ⟨t, rfl⟩ := rx; exact SeqAt.EqAt.none_str b t
    | _ => exact absurd (show false = true from fx) Bool.false_ne_true
  | bl a =>
    cases ry
    cases x with
    | non => cases rx; exact SeqAt.EqAt.bool_none a
    | bl b => cases rx; exact SeqAt.EqAt.bool_bool a b
    | int b => obtain ⟨t, rfl⟩ := rx; exact SeqAt.EqAt.bool_int a b t
    | str b => obtain ⟨t, rfl⟩ := rx; exact SeqAt.EqAt.bool_str a b t
    | _ => exact absurd (show false = true from fx) Bool.false_ne_true
  | int a =>
    obtain ⟨t', rfl⟩ := ry
    cases x with
    | non => cases rx; exact SeqAt.EqAt.int_none a t'
    | bl b => cases rx; exact SeqAt.EqAt.int_bool a t' b
    | int b => obtain ⟨t, rfl⟩ := rx; exact SeqAt.EqAt.int_int a t' b t
    | str b => obtain ⟨t, rfl⟩ := rx; exact SeqAt.EqAt.int_str a t' b t
    | _ => exact absurd (show false = true from fx) Bool.false_ne_true
  | str a =>
    obtain ⟨t', rfl⟩ := ry
    cases x with
    | non => cases rx; exact SeqAt.EqAt.str_none a t'
    | bl b => cases rx; exact SeqAt.EqAt.str_bool a t' b
    | int b => obtain ⟨t, rfl⟩ := rx; exact SeqAt.EqAt.str_int a t' b t
    | str b => obtain ⟨t, rfl⟩ := rx; exact SeqAt.EqAt.str_str a t' b t
    | _ => exact absurd (show false = true from fx) Bool.false_ne_true
  | _ => exact absurd (show false = true from fy) Bool.false_ne_true
/-! ### len, list(x), tuple(x) of any list or tuple that is read -/
theorem call_len_seq : CallR X (.builtin "len") (fun xs H Q => ∃ p ys, xs = [.ref p] ∧ (SqL X.K H p ys ∨ SqT X.K H p ys) ∧ Q (.int ys.length) H) := by
  intro pins s σ H xs us Q I r h
  obtain ⟨p, ys, rfl, hq, q⟩ := h
  obtain ⟨u, rfl, rx⟩ := vals1 r
  cases rx
  have hn := line63
  rcases hq with hq | hq
  · obtain ⟨its, r', pl, hz⟩ := I.list hq
    have hlen := r'.length
    exact Calls.call_len_list pl.isList (by simp only [List.size_toArray] <;> omega) ⟨.int ys.length, H, I.tok _, ⟨s.toks + 1, by rw [List.size_toArray, hlen]⟩, q⟩
  · obtain ⟨its, r', pl, hz⟩ := I.tuple hq
    have hlen := r'.length
    exact len_tuple pl (by simp only [List.size_toArray] <;> omega) ⟨.int ys.length, H, I.tok _, ⟨s.toks + 1, by rw [List.size_toArray, hlen]⟩, q⟩
theorem call_len_str : CallR X (.builtin "len") (fun xs H Q => ∃ z, xs = [.str z] ∧ z.length ≤ sizeLine ∧ Q (.int z.length) H) := by
  intro pins s σ H xs us Q I r h
  obtain ⟨z, rfl, hz, q⟩ := h
  obtain ⟨u, rfl, t, rfl⟩ := vals1 r
  have hn := line63
  exact len_str (by omega) ⟨.int z.length, H, I.tok _, ⟨_, rfl⟩, q⟩
/-! ### the call of a builtin's method: o.m(..) -/
/-- the value is of that builtin type -/
def tyV (K : PySem.W.Frag) (T : String) (x : V) (H : Hp) : Prop := match x with
  | .str _ => T = "str"
  | .int _ => T = "int"
  | .ref p => (T = "list" ∧ ∃ xs, SqL K H p xs) ∨ (T = "tuple" ∧ ∃ o, K.lookup p = some o ∧ o.cls = .type "tuple" ∧ o.dict = none) ∨
      (T = "dict" ∧ ((∃ kvs, H p = some (.dK kvs)) ∨ ∃ kvs, H p = some (.dT kvs))) ∨ (T = "set" ∧ ∃ S n, H p = some (.set S n))
  | _ => False
theorem tyV_is {pins : List (Addr × Obj)} {σ : St} {H : Hp} {s : Shared} {T : String} {x : V} {v : Value} (I : Inv X pins σ H s) (r : RelV x v) (ty : tyV X.K T x H) :
    s.TypeIs v T ∧ ∀ a, v = .ref a → ∃ ob, s.heap.get? a = some ob ∧ ob.dict = none := by
  cases x with
  | str z =>
    obtain ⟨t, rfl⟩ := r
    cases (show T = "str" from ty)
    exact ⟨typeIs_str s z t, fun _ e => nomatch e⟩
  | int i =>
    obtain ⟨t, rfl⟩ := r
    cases (show T = "int" from ty)
    exact ⟨typeIs_int s i t, fun _ e => nomatch e⟩
  | ref p =>
    cases r
    rcases ty with ⟨rfl, xs, hq⟩ | ⟨rfl, o, hk, hc, hd⟩ | ⟨rfl, hk⟩ | ⟨rfl, S, n, hk⟩
    · obtain ⟨its, _, pl, _⟩ := I.list hq
      refine ⟨pl.isList.typeIs, fun a e => ?_⟩
      cases e
      obtain ⟨o, n, e, c, hd, _⟩ := pl
      exact ⟨o, e, hd⟩
    · refine ⟨⟨o, I.kIn p o hk, hc⟩, fun a e => ?_⟩
      cases e
      exact ⟨o, I.kIn _ o hk, hd⟩
    · have z : ∃ o, s.heap.get? p = some o ∧ o.ExactDict := by
        rcases hk with ⟨kvs, hk⟩ | ⟨kvs, hk⟩
        · obtain ⟨_, _, _, _, o, _, _, e, ex, _⟩ := I.hok p _ hk
          exact ⟨o, e, ex⟩
        · obtain ⟨_, _, _, _, o, _, _, e, ex, _⟩ := I.hok p _ hk
          exact ⟨o, e, ex⟩
      obtain ⟨o, e, ex⟩ := z
      refine ⟨⟨o, e, ex.1⟩, fun a e2 => ?_⟩
      cases e2
      exact ⟨o, e, ex.2.1⟩
    · obtain ⟨o, _, _, _, e, ex, _⟩ := I.hok p _ hk
      refine ⟨⟨o, e, ex.1⟩, fun a e2 => ?_⟩
      cases e2
      exact ⟨o, e, ex.2.1⟩
  | _ => exact False.elim ty
def tBM0 (K : PySem.W.Frag) (T : String) (r : V → List V → Hp → VK → Prop) (to : TE) : TE := fun σ H Q => to σ H fun x H1 => tyV K T x H1 ∧ r x [] H1 Q
def tBM (K : PySem.W.Frag) (T : String) (r : V → List V → Hp → VK → Prop) (to : TE) (t : TA) : TE := fun σ H Q => to σ H fun x H1 => tyV K T x H1 ∧ t σ H1 fun xs H2 => r x xs H2 Q
variable {o e : Expr} {es : List Expr} {to : TE} {t : TA} {name : Str} {apos cpos : Pos} {T id : String} {r : V → List V → Hp → VK → Prop}
theorem pe_bm0 (pa : PlainAttrs T) (slot : Slot T name id) (hty : typeOf (.builtin id) = pure (.type "method_descriptor")) (hm : MtR X id r) (ho : PE X o to)
    (hbase : attributeBase o name X.env (eval o X.env) = eval o X.env := by rfl) (hline : (apos.endLine == cpos.line) = true := by rfl) : PE X (.Call (.Attribute o name apos) [] [] cpos) (tBM0 X.K T r to) := by
  intro pins s σ H Q I h
  refine wpAny_Call_method0_late hbase hline (thn (ho pins s σ H _ I h) fun v s1 ⟨x, H1, I1, r1, ty, q1⟩ => ?_)
  obtain ⟨h1, h2⟩ := tyV_is I1 r1 ty
  exact ⟨T, id, pa, slot, hty, h1, h2, Calls.callWith_builtin rfl (PySem.evalArgs_none (hm pins s1 σ H1 x [] v [] Q I1 r1 .nil q1))⟩
theorem pe_bm (pa : PlainAttrs T) (slot : Slot T name id) (hty : typeOf (.builtin id) = pure (.type "method_descriptor")) (hm : MtR X id r) (ho : PE X o to) (ha : PA X (e :: es) t)
    (hbase : attributeBase o name X.env (eval o X.env) = eval o X.env := by rfl)
    (hfew : ((backTo cpos (starEach (e :: es) X.env)).all (fun x => !x.1) && (backToKw cpos (keywordEach [] X.env)).all (fun x => x.1.isSome)
      && decide ((e :: es).length + ([] : List Keyword).length + (if ([] : List Keyword).isEmpty then 0 else 1) < 30)) = true := by rfl)
    (hline : (apos.endLine == cpos.line) = true := by rfl) (hs : starEach (e :: es) X.env = (false, eval e X.env) :: starEach es X.env := by rfl) (hplain : (backTo cpos (starEach es X.env)).any (·.1) = false := by rfl) :
    PE X (.Call (.Attribute o name apos) (e :: es) [] cpos) (tBM X.K T r to t) := by
  intro pins s σ H Q I h
  refine wpAny_Call_method_late hbase hfew hline rfl (thn (ho pins s σ H _ I h) fun v s1 ⟨x, H1, I1, r1, ty, q1⟩ => ?_)
  obtain ⟨h1, h2⟩ := tyV_is I1 r1 ty
  refine ⟨T, id, pa, slot, hty, h1, h2, ?_⟩
  have hA := ha cpos pins s1 σ H1 _ I1 q1
  rw [hs] at hA ⊢
  refine Calls.callWith_builtin (by show (false || (backTo cpos (starEach es X.env)).any (·.1)) = false; rw [hplain] <;> rfl) (Calls.evalArgs_plain ?_)
  exact thn hA fun us s2 ⟨vs, H2, I2, r2, q2⟩ => hm pins s2 σ H2 x vs v us Q I2 r1 r2 q2
/- xs.append(e), list.index on a module's tuple .. are MtR facts of 06m -/
end
end L2

namespace L2
open PySem PySem.Spec PyProof.Rows

def MtM (X : Cx) (id : String) (r : V → List V → Hp → VK → Prop) : Prop :=
  ∀ (pins : List (Addr × Obj)) (s : Shared) (σ : St) (H : Hp) (x : V) (xs : List V) (v : Value) (us : List Value) (Q : VK), Inv X pins σ H s → RelV x v → Vals xs us → r x xs H Q →
    wpAny (model X.prog X.w) X.A (call (.builtin id) (v :: us)) (EP X pins σ Q) X.xe s

/-! ### lists of values -/
theorem Vals.one : ∀ {x : V} {us : List Value}, Vals [x] us → ∃ u, us = [u] ∧ RelV x u
  | _, _, .cons r .nil => ⟨_, rfl, r⟩
theorem Vals.two : ∀ {x y : V} {us : List Value}, Vals [x, y] us → ∃ u v, us = [u, v] ∧ RelV x u ∧ RelV y v
  | _, _, _, .cons r (.cons q .nil) => ⟨_, _, rfl, r, q⟩
theorem Vals.zero : ∀ {us : List Value}, Vals [] us → us = []
  | _, .nil => rfl
theorem Vals.dropLast {xs : List V} {us : List Value} (h : Vals xs us) : Vals xs.dropLast us.dropLast := by
  induction h with
  | nil => exact .nil
  | cons r t ih =>
    cases t with
    | nil => exact .nil
    | cons q t' => exact .cons r ih
theorem erase_last {α : Type} (l : List α) : l.eraseIdx (l.length - 1) = l.dropLast := by
  induction l with
  | nil => rfl
  | cons a r ih =>
    cases r with
    | nil => rfl
    | cons b r =>
      have e : (a :: b :: r).length - 1 = ((b :: r).length - 1) + 1 := by
        have h1 : (a :: b :: r).length = r.length + 2 := rfl
        have h2 : (b :: r).length = r.length + 1 := rfl
        omega
      rw [e, List.eraseIdx_cons_succ, ih]
      all_goals rfl
section
variable {X : Cx} {pins : List (Addr × Obj)} {σ : St} {H : Hp} {s : Shared} {l b : Addr} {xs ys zs : List V}

/-! ### the two steps: a tracked list is rewritten, a new list is laid -/
theorem Inv.lset {its its' : List Value} {n : Nat} {f : Array Value → Array Value} {t' : Nat} (I : Inv X pins σ H s) (hH : H l = some (.lst xs))
    (e : s.heap.get? l = some { cls := .type "list", data := .seq its.toArray n }) (hf : f its.toArray = its'.toArray) (hv : Vals ys its') (hz : ys.length ≤ sizeLine) :
    Inv X pins σ (upd H l (.lst ys)) { s with heap := s.heap.update l (Obj.mapSeq f), toks := t' } := by
  have q := PySem.IsL.update e f
  rw [hf] at q
  refine I.write (x := l) (e := l) (by rw [hH]; exact trivial) (.inl rfl) (fun b' u hb hu => (Heap.get?_update_other s.heap (Obj.mapSeq f) (Ne.symm hb)).trans hu) ⟨_, q⟩ ?_
  exact ⟨hz, its', _, hv, q⟩
theorem Inv.lnew {its : List Value} {t' : Nat} (I : Inv X pins σ H s) (hv : Vals ys its) (hz : ys.length ≤ sizeLine) :
    Inv X pins σ (upd H s.heap.objs.size (.lst ys)) { s with heap := s.heap.push { cls := .type "list", data := .seq its.toArray }, toks := t' } :=
  I.laid (fun _ _ q => Heap.get?_push_of_some _ q) (Nat.le_refl _) ⟨hz, its, 0, hv, Heap.get?_push_size _ rfl⟩
theorem Inv.fresh (I : Inv X pins σ H s) : H s.heap.objs.size = none := I.hok.fresh (Nat.le_refl _)
theorem Inv.lstM (I : Inv X pins σ H s) (hH : H l = some (.lst xs)) : xs.length ≤ sizeLine ∧ ∃ (its : List Value) (n : Nat), Vals xs its ∧ xs.length = its.length ∧ s.heap.get? l = some { cls := .type "list", data := .seq its.toArray n } := by
  obtain ⟨z, its, n, r, e⟩ := I.hok l _ hH
  exact ⟨z, its, n, r, r.length, e⟩

end

section
variable {X : Cx}

/-! ### methods -/
def rAppend : V → List V → Hp → VK → Prop := fun x vs H Q => ∃ l xs y, x = .ref l ∧ vs = [y] ∧ H l = some (.lst xs) ∧ xs.length < sizeLine ∧ Q .non (upd H l (.lst (xs ++ [y])))
theorem mt_append : MtM X "list.append" rAppend := by
  intro pins s σ H x vs v us Q I rx rv h
  obtain ⟨l, xs, y, rfl, rfl, hH, hz, q⟩ := h
  cases rx
  obtain ⟨u, rfl, ru⟩ := rv.one
  obtain ⟨z, its, n, r, hl, e⟩ := I.lstM hH
  refine call_meets F.slot_list_append ⟨_, e, rfl⟩ F.entry_list_append (F.args_list_append_2 _ _) (PySem.list_append l its.toArray n u (by rw [List.size_toArray]; omega)) ⟨e, ?_⟩
  refine ⟨.non, _, I.lset (its' := its ++ [u]) hH e (by simp) (r.append (.cons ru .nil)) ?_, rfl, q⟩
  rw [List.length_append, List.length_singleton]
  omega

def rPop : V → List V → Hp → VK → Prop := fun x vs H Q => ∃ l xs y, x = .ref l ∧ vs = [] ∧ H l = some (.lst xs) ∧ xs[xs.length - 1]? = some y ∧ Q y (upd H l (.lst xs.dropLast))
theorem mt_pop : MtM X "list.pop" rPop := by
  intro pins s σ H x vs v us Q I rx rv h
  obtain ⟨l, xs, y, rfl, rfl, hH, hy, q⟩ := h
  cases rx
  have hus := rv.zero
  subst hus
  obtain ⟨z, its, n, r, hl, e⟩ := I.lstM hH
  obtain ⟨u, hu, ru⟩ := r.get hy
  have hy' : its.toArray[its.toArray.size - 1]? = some u := by
    show its.toArray[its.length - 1]? = some u
    rw [← Array.getElem?_toList, ← hl]
    exact hu
  refine call_meets F.slot_list_pop ⟨_, e, rfl⟩ F.entry_list_pop (F.args_list_pop_1 _) (MeetsSeq.list_pop_last l its.toArray n u hy' (by rw [List.size_toArray]; omega)) ⟨e, ?_⟩
  refine ⟨y, _, I.lset (its' := its.dropLast) hH e ?_ r.dropLast ?_, ru, q⟩
  · show its.toArray.eraseIdxIfInBounds (its.toArray.size - 1) = its.dropLast.toArray
    rw [List.size_toArray, List.eraseIdxIfInBounds_toArray, erase_last]
  · rw [List.length_dropLast]
    omega

/-! ### list + list, list += list, list * int -/
def rCat : R2 := fun x y H Q => ∃ l b xs zs, x = .ref l ∧ y = .ref b ∧ H l = some (.lst xs) ∧ H b = some (.lst zs) ∧ xs.length + zs.length ≤ sizeLine ∧ ∀ p, H p = none → Q (.ref p) (upd H p (.lst (xs ++ zs)))
theorem op_cat : OpR X (binaryOp .Add) rCat := by
  intro pins s σ H x y v u Q I rx ry h
  obtain ⟨l, b, xs, zs, rfl, rfl, hH, hB, hz, q⟩ := h
  cases rx
  cases ry
  obtain ⟨z, its, n, r, hl, e⟩ := I.lstM hH
  obtain ⟨z2, its2, n2, r2, hl2, e2⟩ := I.lstM hB
  refine PySem.P.add_list e e2 ?_ (by rw [List.size_toArray, List.size_toArray]; omega)
  have ea : its.toArray ++ its2.toArray = (its ++ its2).toArray := by simp
  rw [ea]
  exact ⟨.ref _, _, I.lnew (t' := s.toks) (r.append r2) (by rw [List.length_append]; omega), rfl, q _ I.fresh⟩
/-! ### del xs[i] -/
end

/-! ### xs[a:b] = ys -/
section
variable {prog : Program} {w : World} {A : Around} {E : Value → Shared → Prop} {s : Shared}
end

section
variable {X : Cx}
end
end L2

namespace Att
open PySem PySem.W PySem.Calls PyProof.Rows

/-! ### the script -/
theorem ints_of_wellAll {P : Params} {h : Heap} : ∀ (ns : List Int) (vs : List Value), WellAll P h vs (ns.map WData.int) → IntsAre vs ns := by
  intro ns
  induction ns with
  | nil =>
    intro vs w
    rw [List.map_nil] at w
    cases w
    exact .nil
  | cons n ns ih =>
    intro vs w
    rw [List.map_cons] at w
    cases w with
    | cons a b =>
      cases a
      exact .cons _ _ (ih _ b)

theorem script_of {l : OpenLaw} {n : Nat} (hn : l.most = some n) {P : Params} {h : Heap} {args : List WData} {vals : List Value}
    (hpre : l.row.toRowW.claim.pre args = true) (hwl : WellAll P h vals args) :
    ∃ a vs ns, vals = [Value.ref a] ∧ args = [WData.list (ns.map WData.int)] ∧ h.get? a = some { cls := .type "list", data := .seq vs.toArray } ∧ IntsAre vs ns ∧ ns.length ≤ n := by
  have hsh : WShape.hasAll [] args [.list .int] = true := (pre_splitW hpre).1
  have hc : l.pre.holds [] { args := args } = true := (pre_splitW hpre).2
  obtain ⟨d, r, rfl, h1, h2⟩ := hasAllW_cons hsh
  obtain rfl := hasAllW_nil h2
  obtain ⟨xs, rfl, h3⟩ := hasW_list h1
  obtain ⟨ns, rfl⟩ := items_int h3
  have hlen : ns.length ≤ n := by
    unfold OpenLaw.pre at hc
    have h4 : (WTm.not (.lt (.lit (.int (n : Int))) (.len (.arg 0)))).holds [] { args := [.list (ns.map .int)] } = true := by
      have h4 := (holds_andW hc).1
      rw [hn] at h4
      exact h4
    have h5 := condW_of h4 (w_not (w_lt w_lit (w_len_list (w_arg rfl))))
    rw [List.length_map] at h5
    refine Nat.le_of_not_lt fun q => ?_
    have q' : (n : Int) < ((ns.length : Nat) : Int) := by omega
    first
      | (rw [decide_eq_true q'] at h5; exact absurd h5 (by decide))
      | (simp at h5; omega)
  cases hwl with
  | cons w1 w2 =>
    cases w2
    cases w1 with
    | list ho hall => exact ⟨_, _, ns, rfl, rfl, ho, ints_of_wellAll ns _ hall, hlen⟩

theorem post_true (l : OpenLaw) (args : List WData) : l.row.toRowW.claim.post args (.bool true) args = true :=
  postW_of (r := l.row.toRowW) (X := (true == true))
    (show WShape.has [] (.bool true) .bool = true by first | rfl | decide | simp [WShape.has, WShape.arms, WShape.armsAll])
    (show (WTm.eq .res (.lit (.bool true))).value [] { args := args, res := some (.bool true), after := args } = some (.bool (true == true)) from w_eq_bool (w_res rfl) w_lit) rfl

/-! ### the attachment: holds_open's last premise (the goal 'hc' behind k_head) from a wpAny of the law's body -/
/-- the same from a codeAny of the CALL (for a layer whose function contracts speak of calls) -/
theorem attach_call {l : OpenLaw} {n : Nat} {q : Program} {loose : List Str} {XP : (Str → Option Value) → Heap → Prop} {YP : World → Heap → Prop} {d : DefRec}
    (hn : l.most = some n) (hdf : d.params.defaults = [])
    (call : ∀ (w : World) (s₀ s₁ : Shared) (mg mb : Str → Option Value) (fa : Addr) (o : Obj) (pm cd doc : Value) (a : Addr) (vs : List Value) (ns : List Int),
      Ground q loose [] XP w s₀ mg mb s₁.heap → YP w s₁.heap →
      s₁.heap.get? fa = some o → o.data = .func (docDef d.name d.params d.body d.scope pm cd doc) → s₁.heap.CodeRec cd d.name → mg d.name = some (.ref fa) →
      s₁.heap.get? a = some { cls := .type "list", data := .seq vs.toArray } → IntsAre vs ns → ns.length ≤ n → s₁.gens = #[] →
      codeAny (model l.prog w) callerA (.call (.ref fa) ⟨[.ref a], []⟩) (fun r s' => r = .ok (.ret (.bool true)) ∧ OldK s₁.heap s'.heap ∧ s'.os = s₁.os ∧ AllBare s'.gens) s₁) :
    WalkO q loose XP YP l.row.toRowW d [] (fun f vs => PySem.call f vs) := by
  intro w s₀ s₁ mg mb G Y fa o pm cd doc dV kV ho hd hcd hD hmg hg args vals as hpre hlay hrd hwl hlo
  obtain rfl : dV = .none := Dflts.none hD hdf
  obtain rfl : kV = .none := Dflts.noKw hD
  obtain ⟨a, vs, ns, rfl, rfl, hobj, hints, hlen⟩ := script_of hn hpre hwl
  refine enter_call (codeAny_mono (call w s₀ s₁ mg mb fa o pm cd doc a vs ns G Y ho (fd_plain hd) hcd hmg hobj hints hlen hg) fun r s' hq => ?_)
  obtain ⟨rfl, h2, h3, h4⟩ := hq
  exact ⟨.inl ⟨.bool true, .bool true, [], rfl, fun _ => rfl, .bool true, post_true l _, fun _ => ⟨List.Pairwise.nil, fun _ hm => (nomatch hm)⟩⟩, h2, h3, h4⟩

/-! ### rules over ANY heap (no ledger) from facts about the written part K: the library's own take a ledger (News) for what they write -/
section
variable {prog : Program} {w : World} {A : Around} {E : Value → Shared → Prop} {s : Shared} {K : Frag}

/-! the whole heap as the ledger: makes every rule that writes through a ledger a rule over any heap -/
end
end Att

namespace L2
open PySem PySem.Spec PyProof.Rows

theorem vals_ints : ∀ {vs : List Value} {ns : List Int}, IntsAre vs ns → Vals (ns.map V.int) vs
  | _, _, .nil => .nil
  | _, _, .cons n t h => .cons ⟨t, rfl⟩ (vals_ints h)

/-- nothing is tracked but the script, known to the object (or it is an object of the module) -/
def Only (H : Hp) : Prop := ∀ b, H b = none ∨ ∃ o xs, H b = some (.frz o (.lst xs))

/-- THE HEAD: the law's promise, at the heap behind the top. F, the promise of the law's def, may use that base is part of the heap (so K.In base, base.Ns mainGlobals mg stand in Mod) -/
theorem law_call {P : Program} {w : World} {K : PySem.W.Frag} {mg mb : Str → Option Value} {CX : CXT} {k : Nat} {fa a : Addr} {fd : FuncData} {x : Str} {sp : Sp} {s₁ : Shared} {vs : List Value} {ns : List Int}
    (KX : K.In s₁.heap) (hns : s₁.heap.Ns mainGlobals mg) (hb : s₁.heap.Ns builtinsNs mb) (hbb : ∀ x : Str, x ≠ "__name__" → mb x = bootBuiltins x) (hlim : s₁.heap.NoLimit) (hg : s₁.gens = #[])
    (ha : s₁.heap.get? a = some { cls := .type "list", data := .seq vs.toArray }) (hi : IntsAre vs ns) (hl : ns.length ≤ sizeLine) (hr : Room k callerA)
    (F : ∀ base : Heap, K.In base → base.Ns mainGlobals mg → FnOk P w K mg base CX k fa fd [x] sp) (hbind : ∀ (s : Shared) (u : Value), BindsTo s fd ⟨[u], []⟩ [(x, u)])
    (hsp : ∀ H : Hp, Only H → SqL K H a (ns.map V.int) → sp [.ref a] H (fun v _ => v = .bl true) fun _ _ _ => False)
    (hCX : ∀ H e s', CX [] H s₁ (fun _ _ _ => False) e s' → False) :
    codeAny (model P w) callerA (.call (.ref fa) ⟨[.ref a], []⟩) (fun r s' => r = .ok (.ret (.bool true)) ∧ OldK s₁.heap s'.heap ∧ s'.os = s₁.os ∧ AllBare s'.gens) s₁ := by
  have rv := vals_ints hi
  have lenV := hi.length
  -- from an abstract heap in which nothing but the script may be tracked
  have core : ∀ H : Hp, Only H → SqL K H a (ns.map V.int) → HOk P w H s₁.heap → (∀ b, H b ≠ none → b = a) → (H a ≠ none → K.lookup a = none) →
      codeAny (model P w) callerA (.call (.ref fa) ⟨[.ref a], []⟩) (fun r s' => r = .ok (.ret (.bool true)) ∧ OldK s₁.heap s'.heap ∧ s'.os = s₁.os ∧ AllBare s'.gens) s₁ := by
    intro H hO hS hok hA hK
    have base_of : ∀ {b : Addr} {o : Obj}, s₁.heap.get? b = some o → H b = none → (hidT s₁.heap H).get? b = some o := fun e n => hidT_get e n
    have noA : ∀ {b : Addr} {o : Obj} {es : Array DictEntry} {ep : Nat}, s₁.heap.get? b = some o → o.data = .dict es ep → H b = none := fun {b o es ep} e d => by
      cases q : H b with
      | none => rfl
      | some u =>
        have e' : b = a := hA b (by rw [q]; simp)
        subst e'
        rw [ha] at e; cases e
        have d' : Data.seq vs.toArray _ = Data.dict es ep := d
        cases d'
    have nsK : ∀ {b : Addr} {m : Str → Option Value}, s₁.heap.Ns b m → (hidT s₁.heap H).Ns b m := fun {b m} ⟨o, es, ep, e, d, r⟩ => ⟨o, es, ep, base_of e (noA e d), d, r⟩
    have hKb : K.In (hidT s₁.heap H) := fun b o e => base_of (KX b o e) (by
      cases q : H b with
      | none => rfl
      | some u =>
        have e' : b = a := hA b (by rw [q]; simp)
        subst e'
        rw [hK (by rw [q]; simp)] at e; cases e)
    have hM : Mod K mg (hidT s₁.heap H) := ⟨hKb, nsK hns, ⟨mb, nsK hb, hbb⟩, let ⟨mc, h1, h2⟩ := hlim; ⟨mc, nsK h1, h2⟩⟩
    have e0 : Env0 P w K mg (hidT s₁.heap H) callerA [] s₁ H := ⟨rfl, hM, fun b o e => of_hidT e, Nat.le_of_eq (hidT_size _ _), trivial, fun b hb => absurd (show b ∈ ([] : List Addr) from hb) (by simp), hok, .of_eq hg⟩
    refine codeAny_mono ((F _ hKb (nsK hns)).run callerA [] s₁ H ⟨[.ref a], []⟩ [.ref a] [.ref a] _ _ hr e0 (hbind s₁ (.ref a)) (.cons rfl .nil) (hsp H hO hS)) fun r s' h => ?_
    cases r with
    | error e => exact (hCX H e s' h).elim
    | ok fl =>
      cases fl with
      | next => exact False.elim h
      | brk => exact False.elim h
      | cont => exact False.elim h
      | ret u =>
        obtain ⟨v, H', os, bare, un, hok', r', q⟩ := h
        have q' : v = .bl true := q
        subst q'
        obtain rfl : u = Value.bool true := r'
        refine ⟨rfl, OldK.of_keep fun b o e => ?_, os, bare⟩
        cases q : H b with
        | none => exact un.keep b o e q (by intro z; exact absurd (show b ∈ ([] : List Addr) from z) (by simp)) (by simp)
        | some u =>
          rcases hO b with z | ⟨ob, xs, z⟩
          · rw [q] at z; cases z
          · have z2 := un.frzs b ob _ z
            obtain ⟨e1, _⟩ := hok b _ z
            obtain ⟨e2, _⟩ := hok' b _ z2
            rw [e] at e1; cases e1
            exact e2
  cases hk : K.lookup a with
  | some o =>
    -- the script is one of the module's own objects
    have e := KX a o hk
    rw [ha] at e
    cases e
    refine core (fun _ => none) (fun _ => .inl rfl) (.inr ⟨_, vs.toArray, _, hk, rfl, rfl, rfl, by rw [List.size_toArray, lenV]; exact hl, by simpa using rv⟩) (fun b u z => by have z' : (none : Option HO) = some u := z; cases z') (fun b z => absurd rfl z) fun z => absurd rfl z
  | none =>
    refine core (fun b => if b = a then some (.frz { cls := .type "list", data := .seq vs.toArray } (.lst (ns.map V.int))) else none) (fun b => ?_) (.inl (.inr ⟨{ cls := .type "list", data := .seq vs.toArray }, if_pos rfl⟩)) (fun b u z => ?_) (fun b z => ?_) fun _ => hk
    · by_cases hb : b = a
      · exact .inr ⟨_, _, if_pos hb⟩
      · exact .inl (if_neg hb)
    · by_cases hb : b = a
      · have z' := (if_pos hb).symm.trans z
        cases z'
        subst hb
        exact ⟨ha, by rw [List.length_map]; exact hl, vs, _, rv, ha⟩
      · have z' := (if_neg hb).symm.trans z
        cases z'
    · by_cases hb : b = a
      · exact hb
      · exact absurd (if_neg hb) z
end L2

namespace L2
open PySem PySem.Spec PyProof.Rows

/-- the goal that k_head leaves (case hc), from the law's promise. F gives the function object fd (K's own) once, then the promise over every base -/
theorem walk_of {l : PySem.W.OpenLaw} {n k : Nat} {q : Program} {loose : List Str} {XP : (Str → Option Value) → Heap → Prop} {YP : World → Heap → Prop} {d : DefRec} {K : Params → PySem.W.Frag} {CX : World → CXT} {sp : World → Sp} {x : Str}
    (hn : l.most = some n) (hn2 : n ≤ sizeLine) (hdf : d.params.defaults = []) (hr : Room k callerA)
    (hY : ∀ (w : World) (h : Heap), YP w h → (K w.params).In h)
    (F : ∀ (w : World) (mg : Str → Option Value) (fa : Addr) (h : Heap), (K w.params).In h → h.Ns mainGlobals mg → mg d.name = some (.ref fa) →
      ∃ fd : FuncData, (∀ (s : Shared) (u : Value), BindsTo s fd ⟨[u], []⟩ [(x, u)]) ∧
        ∀ base : Heap, (K w.params).In base → base.Ns mainGlobals mg → FnOk l.prog w (K w.params) mg base (CX w) k fa fd [x] (sp w))
    (hsp : ∀ (w : World) (H : Hp) (a : Addr) (ns : List Int), ns.length ≤ n → Only H → SqL (K w.params) H a (ns.map V.int) → sp w [.ref a] H (fun v _ => v = .bl true) fun _ _ _ => False)
    (hCX : ∀ (w : World) (H : Hp) (s : Shared) (e : Value) (s' : Shared), CX w [] H s (fun _ _ _ => False) e s' → False) :
    PySem.W.WalkO q loose XP YP l.row.toRowW d [] (fun f vs => PySem.call f vs) := by
  refine Att.attach_call hn hdf fun w s₀ s₁ mg mb fa o pm cd doc a vs ns G Y ho hd hcd hmg hobj hints hlen hg => ?_
  have KX := hY w _ Y
  obtain ⟨fd, hb, hF⟩ := F w mg fa _ KX G.T.g hmg
  exact law_call KX G.T.g G.T.b G.T.builtins G.T.nolimit hg hobj hints (Nat.le_trans hlen hn2) hr hF hb (fun H hO hS => hsp w H a ns hlen hO hS) fun H e s' => hCX w H s₁ e s'
end L2

/-! SHORT WORDS over the layer: a def of the text, its body, what a loop and a test want. -/
namespace L2
open PySem PySem.Spec PyProof.Rows

/-! ### the text by places -/
/-- the j-th statement of a class's body -/
def inClass (s : Stmt) (j : Nat) : Stmt := match s with
  | .ClassDef _ _ _ body _ _ _ _ _ _ _ => body.getD j (.Pass ⟨0, 0, 0, 0⟩)
  | _ => .Pass ⟨0, 0, 0, 0⟩
def defArgs (s : Stmt) : Arguments := match s with
  | .FunctionDef _ a _ _ _ _ _ _ _ _ => a
  | _ => { posonlyargs := [], args := [], vararg := none, kwonlyargs := [], kw_defaults := [], kwarg := none, defaults := [] }
def defBody (s : Stmt) : List Stmt := match s with
  | .FunctionDef _ _ b _ _ _ _ _ _ _ => b
  | _ => []
def defScope (s : Stmt) : Scope := match s with
  | .FunctionDef _ _ _ _ _ _ sc _ _ _ => sc
  | _ => { kind := .function, names := [], isGenerator := false, isCoroutine := false }

/-! ### no exception leaves a def -/
abbrev CX0 : CXT := fun _ _ _ _ _ _ => False
abbrev E0 : XK := fun _ _ _ => False
theorem pass0 {X : Cx} : Passes CX0 X E0 := fun _ _ _ _ _ _ _ h => h.elim

/-! ### a def (or method) of the text as it stands behind the top -/
structure Fun (K : PySem.W.Frag) (x qual : Str) (st : Stmt) (f : Addr) (fd : FuncData) : Prop where
  ex : ∃ (oc : Value) (od : Option Addr) (kV doc pm : Value) (an : Option Addr) (cdv ct : Value) (osl : Array (Option Value)),
    fd = PySem.W.fnOf x qual (defArgs st) (defBody st) (defScope st) .none kV doc pm an cdv ct ∧ K.lookup f = some ⟨oc, od, .func fd, osl⟩ ∧ PySem.W.codeIn K cdv qual = true
  kp : PySem.W.keepIn K (.ref f) = true
section
variable {P : Program} {w : World} {K : PySem.W.Frag} {mg : Str → Option Value} {base : Heap}
/-- THE RULE for a def: its body as a term of rules, and the reading of that term -/
theorem Fun.ok {x qual : Str} {st : Stmt} {f : Addr} {fd : FuncData} {N ps : List Str} {k : Nat} {sp : Sp} (F : Fun K x qual st f fd) (S : FnScope N ps (defScope st)) (len : ∀ vs H Q E, sp vs H Q E → vs.length = ps.length)
    (hbody : ∀ (cdv : Value) (A : Around) (outer : List Env) (s : Shared) (H : Hp) (vs : List V) (Q : VK) (E : XK), Room k (A.deeper (envOfC qual (defScope st) s.heap.objs.size f cdv)) → sp vs H Q E →
      ∃ t, PSs (cxOf CX0 P w K mg base N qual (defScope st) f cdv A outer s H E).nox (defBody st) t ∧ t { nx := fun _ H' => Q .non H', rt := Q } (start N vs) H) : FnOk P w K mg base CX0 (k + 1) f fd ps sp := by
  obtain ⟨oc, od, kV, doc, pm, an, cdv, ct, osl, rfl, lk, hcd⟩ := F.ex
  refine fn_of lk hcd S len fun A outer s H vs Q E hr hsp => ?_
  obtain ⟨t, h, q⟩ := hbody cdv A outer s H vs Q E hr hsp
  exact ⟨t, h.nox, q⟩
/-- how its arguments bind (no defaults): h is «fun _ _ _ _ _ _ us hl => match us, hl with | [_, _], _ => rfl», one _ a parameter -/
theorem Fun.binds {x qual : Str} {st : Stmt} {f : Addr} {fd : FuncData} {ps : List Str} (F : Fun K x qual st f fd)
    (h : ∀ (kV doc pm : Value) (an : Option Addr) (cdv ct : Value) (us : List Value), us.length = ps.length → bindArgs (PySem.W.fnOf x qual (defArgs st) (defBody st) (defScope st) .none kV doc pm an cdv ct) ⟨us, []⟩ = pure (ps.zip us)) : Binds K fd ps [] := by
  obtain ⟨oc, od, kV, doc, pm, an, cdv, ct, osl, rfl, lk, hcd⟩ := F.ex
  exact .all (h kV doc pm an cdv ct)
theorem fun_mk {x qual : Str} {st : Stmt} {f : Addr} {oc : Value} {od an : Option Addr} {osl : Array (Option Value)} {kV doc pm cdv ct : Value} (l : K.lookup f = some ⟨oc, od, .func (PySem.W.fnOf x qual (defArgs st) (defBody st) (defScope st) .none kV doc pm an cdv ct), osl⟩)
    (c : PySem.W.codeIn K cdv qual = true) (k : PySem.W.keepIn K (.ref f) = true) : Fun K x qual st f (PySem.W.fnOf x qual (defArgs st) (defBody st) (defScope st) .none kV doc pm an cdv ct) := ⟨⟨oc, od, kV, doc, pm, an, cdv, ct, osl, rfl, l, c⟩, k⟩
end
/-! ### expressions in short: the name that stands in the i-th slot -/
section
variable {X : Cx}
theorem pv (i : Nat) {x : Str} {pos : Pos} (hN : X.N[i]? = some x := by rfl) (hv : Vis X.env.scope x := by first | exact Or.inl rfl | exact Or.inr (Or.inl rfl) | exact Or.inr (Or.inr rfl)) (hd : (x == ("__debug__" : Str)) = false := by decide)
    (hcd : (x == ("__classdict__" : Str)) = false := by decide) : PE X (.Name x pos) (tVar i) := pe_var hN hv hd hcd
end

/-! ### tests -/
theorem iteF {A B : Prop} (h : B) : if false = true then A else B := by
  rw [if_neg Bool.false_ne_true]
  exact h
theorem iteT {A B : Prop} (h : A) : if true = true then A else B := by
  rw [if_pos rfl]
  exact h
theorem ite2 {c A B : Prop} [Decidable c] (h1 : c → A) (h2 : ¬ c → B) : if c then A else B := by
  by_cases h : c
  · rw [if_pos h]
    exact h1 h
  · rw [if_neg h]
    exact h2 h
/-! ### heaps -/
/-- all that was tracked is as it was -/
def Same (H H' : Hp) : Prop := ∀ b o, H b = some o → H' b = some o
theorem Same.refl (H : Hp) : Same H H := fun _ _ h => h
theorem Same.trans {H H1 H2 : Hp} (a : Same H H1) (b : Same H1 H2) : Same H H2 := fun c o h => b c o (a c o h)
theorem Same.seq {K : PySem.W.Frag} {H H' : Hp} {a : Addr} {xs : List V} (e : Same H H') (h : SqL K H a xs) : SqL K H' a xs := by
  rcases h with (h | ⟨o, h⟩) | h
  · exact .inl (.inl (e _ _ h))
  · exact .inl (.inr ⟨o, e _ _ h⟩)
  · exact .inr h

end L2

set_option linter.all false
set_option maxRecDepth 100000
set_option maxHeartbeats 4000000
/-! Comprehensions for the hand layer. -/
namespace L2
open PySem PySem.Spec PyProof.Rows

theorem closureFor_ok {scope : Scope} {env : Env} (h : ∀ y ∈ scope.names, y.2 = .free → ∃ c, env.cells.lookup y.1 = some c) :
    ∃ cl, closureFor scope env = pure cl ∧ (∀ y ∈ scope.names, y.2 = NameKind.free → cl.lookup y.1 = env.cells.lookup y.1) ∧ (∀ x c, cl.lookup x = some c → env.cells.lookup x = some c) := by
  have key : ∀ (names : List (Str × NameKind)) (acc : List (Str × Addr)) (f : Str × NameKind → List (Str × Addr) → Sem (ForInStep (List (Str × Addr)))),
      (∀ x cs, f x cs = if (x.2 == NameKind.free) = true then (cellOf env x.1 >>= fun a => pure (ForInStep.yield ((x.1, a) :: cs))) else pure (ForInStep.yield cs)) →
      (∀ y ∈ names, y.2 = .free → ∃ c, env.cells.lookup y.1 = some c) → (∀ x c, acc.lookup x = some c → env.cells.lookup x = some c) →
      ∃ cl, forIn names acc f = pure cl ∧ (∀ x c, acc.lookup x = some c → cl.lookup x = env.cells.lookup x) ∧ (∀ y ∈ names, y.2 = NameKind.free → cl.lookup y.1 = env.cells.lookup y.1) ∧ (∀ x c, cl.lookup x = some c → env.cells.lookup x = some c) := by
    intro names
    induction names with
    | nil =>
      intro acc f _ _ ha
      exact ⟨acc, rfl, fun x c e => by rw [e, ha x c e], fun _ h => (nomatch h), ha⟩
    | cons y r ih =>
      intro acc f hf hn ha
      obtain ⟨n, k⟩ := y
      rw [List.forIn_cons, hf]
      by_cases hk : k = .free
      · subst hk
        obtain ⟨c, hc⟩ := hn (n, .free) List.mem_cons_self rfl
        have hc' : cellOf env n = pure c := by unfold cellOf; rw [hc]
        have ha' : ∀ x d, ((n, c) :: acc).lookup x = some d → env.cells.lookup x = some d := fun x d e => by
          rw [List.lookup_cons] at e
          cases hx : x == n with
          | true =>
            rw [hx] at e
            have e' : c = d := Option.some.inj e
            have hx' : x = n := by simpa using hx
            rw [hx', hc, e']
          | false =>
            rw [hx] at e
            exact ha x d e
        obtain ⟨cl, e, h1, h2, h3⟩ := ih ((n, c) :: acc) f hf (fun y hy => hn y (List.mem_cons_of_mem _ hy)) ha'
        refine ⟨cl, ?_, fun x d ex => ?_, fun y hy hyf => ?_, h3⟩
        · rw [if_pos (by rfl)]
          show ((cellOf env n >>= fun a => pure (ForInStep.yield ((n, a) :: acc))) >>= _) = pure cl
          rw [hc', pure_bind, pure_bind]
          exact e
        · by_cases hxn : x = n
          · subst hxn
            exact h1 x c (by rw [List.lookup_cons, beq_self_eq_true])
          · refine h1 x d ?_
            rw [List.lookup_cons, beq_eq_false_iff_ne.mpr hxn]
            exact ex
        · rcases List.mem_cons.mp hy with rfl | hy
          · exact h1 _ c (by rw [List.lookup_cons, beq_self_eq_true])
          · exact h2 y hy hyf
      · have hb : (k == NameKind.free) = false := by simpa using hk
        obtain ⟨cl, e, h1, h2, h3⟩ := ih acc f hf (fun y hy => hn y (List.mem_cons_of_mem _ hy)) ha
        refine ⟨cl, ?_, h1, fun y hy hyf => ?_, h3⟩
        · show ((if (k == NameKind.free) = true then _ else pure (ForInStep.yield acc)) >>= _) = pure cl
          rw [if_neg (by rw [hb]; exact Bool.false_ne_true), pure_bind]
          exact e
        · rcases List.mem_cons.mp hy with rfl | hy
          · exact absurd hyf hk
          · exact h2 y hy hyf
  have z := key scope.names [] (fun x cs => if (x.2 == NameKind.free) = true then (cellOf env x.1 >>= fun a => pure (ForInStep.yield ((x.1, a) :: cs))) else pure (ForInStep.yield cs)) (fun _ _ => rfl) h (fun _ _ e => (nomatch e))
  obtain ⟨cl, e, _, h2, h3⟩ := z
  refine ⟨cl, ?_, h2, h3⟩
  show (forIn scope.names [] _ >>= pure) = pure cl
  exact (congrArg (· >>= pure) e).trans (pure_bind _ _)

/-- the context of a comprehension's block -/
abbrev compX (X : Cx) (scope : Scope) (N : List Str) (s₀ : Shared) (H₀ : Hp) (cl : List (Str × Addr)) (C : Addr) (ex : List Addr) : Cx :=
  { prog := X.prog, w := X.w, K := X.K, mg := X.mg, base := X.base, A := X.A, N := N, s₀ := s₀, H₀ := H₀, env := compEnvC scope cl C X.env,
    outer := X.stack, stack := X.stack, ex := ex, fn := fun _ => false, calm := X.calm, pn := [], xe := fun _ _ => False }

/-- the loop of a comprehension, an item at a time; nothing raises -/
theorem compLoop_any {prog : Program} {w : World} {A : Around} {R : Result → Shared → Prop} {s : Shared} {elt target iter : Expr} {ifs : List Expr} {scope : Scope} {pos : Pos} {it acc : Value} {env : Env} (I : Nat → Shared → Prop)
    (turn : ∀ n s, I n s → wpAny (model prog w) A (pyNext it) (fun r s₁ => match r with
      | none => R (.ok .next) s₁
      | some v => wpAny (model prog w) A (letOwnedTupleGo target it v) (fun _ s₁' => wpAny (model prog w) A (assign target env v) (fun _ s₂ =>
          wpAny (model prog w) A (forIn ifs true fun c r => if r = true then do let ok ← isTrue c env (eval c env); pure (ForInStep.yield ok) else pure (ForInStep.yield r)) (fun ok s₃ =>
            if ok = true then wpAny (model prog w) A (eval elt env) (fun x s₄ =>
              wpAny (model prog w) A (call (.builtin "list.append") [acc, x]) (fun _ s₅ => ∃ m, m < n ∧ I m s₅) (fun _ _ => False) s₄) (fun _ _ => False) s₃
            else ∃ m, m < n ∧ I m s₃) (fun _ _ => False) s₂) (fun _ _ => False) s₁') (fun _ _ => False) s₁) (fun _ _ => False) s)
    (n : Nat) (h : I n s) :
    codeAny (model prog w) A (.compLoop (.ListComp elt [⟨target, iter, ifs, 0⟩] scope pos) 0 it acc env) R s := by
  refine codeAny_loop rfl I (fun n s hI => ?_) n h
  show wpAny _ A ((compTurn (.ListComp elt [⟨target, iter, ifs, 0⟩] scope pos) 0 it acc env).onRaise (fun x => do noteFrame x env; theTreesLotGoes x)) _ _ s
  refine wpAny_noted ?_
  rw [compTurn_list]
  refine wpAny_bind (wpAny_standAt (wpAny_bind (wpAny_mono (turn n s hI) (fun r s₁ h₁ => ?_) fun _ _ z => z.elim)))
  cases r with
  | none => exact wpAny_pure h₁
  | some v =>
    refine wpAny_bind (wpAny_mono h₁ (fun _ s₁' h₁' => ?_) fun _ _ z => z.elim)
    refine wpAny_bind (wpAny_mono h₁' (fun _ s₂ h₂ => wpAny_bind (wpAny_mono h₂ (fun ok s₃ h₃ => ?_) fun _ _ z => z.elim)) fun _ _ z => z.elim)
    cases ok with
    | false => exact wpAny_pure ⟨rfl, h₃⟩
    | true =>
      exact wpAny_bind (wpAny_bind (wpAny_mono h₃ (fun x s₄ h₄ => wpAny_bind (wpAny_mono h₄ (fun _ s₅ h₅ => wpAny_pure (wpAny_pure ⟨rfl, h₅⟩)) fun _ _ z => z.elim)) fun _ _ z => z.elim))

/-- the tests of a comprehension -/
def PIfs (X : Cx) (ifs : List Expr) (t : TT) : Prop :=
  ∀ (pins : List (Addr × Obj)) (s : Shared) (σ : St) (H : Hp) (Q : Bool → Hp → Prop), Inv X pins σ H s → t σ H Q →
    wpAny (model X.prog X.w) X.A (forIn ifs true fun c r => if r = true then do let ok ← isTrue c X.env (eval c X.env); pure (ForInStep.yield ok) else pure (ForInStep.yield r)) (TP X pins σ Q) X.xe s
def tYes : TT := fun _ H Q => Q true H
theorem pifs_nil {X : Cx} : PIfs X [] tYes := fun _ _ _ H _ I h => wpAny_tests_nil ⟨H, I, h⟩
theorem pifs_one {X : Cx} {c : Expr} {t : TT} (hc : PT X c t) : PIfs X [c] t := fun pins s σ H Q I h => wpAny_tests_one (hc pins s σ H Q I h)

/-- what the loop of a comprehension is worth -/
def CompW (J : It) (H1 : Hp) (σ0 : St) (g : TG) (tc : TT) (te : TE) (Q : VK) : Prop := ∀ D, H1 D = none →
  ∃ W : Nat → Nat → St → List V → Hp → Prop, (∃ m, W 0 m σ0 [] (upd H1 D (.lst []))) ∧ ∀ i m σ1 ys H, W i m σ1 ys H →
    (J.stop i H ∧ Q (.ref D) H) ∨ (J.go i H ∧ ∀ x H', J.yld i H x H' → g x σ1 H' fun σ2 H2 => tc σ2 H2 fun b H3 =>
       if b = true then te σ2 H3 fun y H4 => H4 D = some (.lst ys) ∧ ys.length < sizeLine ∧ ∃ m', m' < m ∧ W (i + 1) m' σ2 (ys ++ [y]) (upd H4 D (.lst (ys ++ [y])))
       else ∃ m', m' < m ∧ W (i + 1) m' σ2 ys H3)
/-- what a comprehension is worth -/
def tComp (wi : TI) (sub : St → St) (g : TG) (tc : TT) (te : TE) : TE := fun σ H Q => wi σ H fun J H1 => CompW J H1 (sub σ) g tc te Q
/-- the block's slots: those that it takes over from the frame -/
def subσ (js : List (Option Nat)) (σ : St) : St := js.map fun o => o.bind fun j => (σ[j]?).join

theorem lookup_relabel_free {env : Env} : ∀ {names : List (Str × NameKind)} {x : Str}, names.lookup x = some .free →
    (names.map fun (n, k) => if (k == NameKind.free && env.scope.kind == .function && env.kindOf n == some .cell) then (n, NameKind.cell) else (n, k)).lookup x = some .cell ∨
    (names.map fun (n, k) => if (k == NameKind.free && env.scope.kind == .function && env.kindOf n == some .cell) then (n, NameKind.cell) else (n, k)).lookup x = some .free
  | [], _, h => by simp at h
  | (n, k) :: r, x, h => by
    have ih := @lookup_relabel_free env r x
    show List.lookup x ((if (k == NameKind.free && env.scope.kind == .function && env.kindOf n == some .cell) = true then (n, NameKind.cell) else (n, k)) :: _) = _ ∨ List.lookup x ((if (k == NameKind.free && env.scope.kind == .function && env.kindOf n == some .cell) = true then (n, NameKind.cell) else (n, k)) :: _) = _
    cases hx : x == n with
    | true =>
      simp only [List.lookup_cons, hx] at h
      cases h
      by_cases hc : (NameKind.free == NameKind.free && env.scope.kind == .function && env.kindOf n == some .cell) = true
      · rw [if_pos hc]; left; simp only [List.lookup_cons, hx]
      · rw [if_neg hc]; right; simp only [List.lookup_cons, hx]
    | false =>
      simp only [List.lookup_cons, hx] at h
      by_cases hc : (k == NameKind.free && env.scope.kind == .function && env.kindOf n == some .cell) = true
      · rw [if_pos hc]; simp only [List.lookup_cons, hx]; exact ih h
      · rw [if_neg hc]; simp only [List.lookup_cons, hx]; exact ih h
/-- a name of the block that is a cell or free there was free in its scope -/
theorem relabel_back {env : Env} : ∀ {names : List (Str × NameKind)} {x : Str}, (∀ y ∈ names, y.2 ≠ NameKind.cell) →
    ((names.map fun (n, k) => if (k == NameKind.free && env.scope.kind == .function && env.kindOf n == some .cell) then (n, NameKind.cell) else (n, k)).lookup x = some .cell ∨
    (names.map fun (n, k) => if (k == NameKind.free && env.scope.kind == .function && env.kindOf n == some .cell) then (n, NameKind.cell) else (n, k)).lookup x = some .free) → (x, NameKind.free) ∈ names
  | [], _, _, h => by simp at h
  | (n, k) :: r, x, hn, h => by
    have ih := @relabel_back env r x fun y hy => hn y (List.mem_cons_of_mem _ hy)
    have hk : k ≠ .cell := hn (n, k) List.mem_cons_self
    change List.lookup x ((if (k == NameKind.free && env.scope.kind == .function && env.kindOf n == some .cell) = true then (n, NameKind.cell) else (n, k)) :: _) = _ ∨ List.lookup x ((if (k == NameKind.free && env.scope.kind == .function && env.kindOf n == some .cell) = true then (n, NameKind.cell) else (n, k)) :: _) = _ at h
    cases hx : x == n with
    | true =>
      have hx' : x = n := by simpa using hx
      subst hx'
      by_cases hc : (k == NameKind.free && env.scope.kind == .function && env.kindOf x == some .cell) = true
      · have : k = .free := by
          have := (Bool.and_eq_true _ _).mp ((Bool.and_eq_true _ _).mp hc).1
          simpa using this.1
        subst this
        exact List.mem_cons_self
      · rw [if_neg hc] at h
        simp only [List.lookup_cons, beq_self_eq_true] at h
        rcases h with h | h
        · exact absurd (Option.some.inj h) hk
        · have := Option.some.inj h
          subst this
          exact List.mem_cons_self
    | false =>
      by_cases hc : (k == NameKind.free && env.scope.kind == .function && env.kindOf n == some .cell) = true
      · rw [if_pos hc] at h; simp only [List.lookup_cons, hx] at h; exact List.mem_cons_of_mem _ (ih h)
      · rw [if_neg hc] at h; simp only [List.lookup_cons, hx] at h; exact List.mem_cons_of_mem _ (ih h)

section
variable {X : Cx} {elt tg iter : Expr} {ifs : List Expr} {scope : Scope} {pos : Pos} {N : List Str} {js : List (Option Nat)} {wi : TI} {g : TG} {tc : TT} {te : TE}
/-- the scope of a comprehension in a frame of scope osc and names ON: no cells of its own; its free names are the frame's cells; the slots taken over bear their names -/
structure CompScope (osc : Scope) (ON : List Str) (scope : Scope) (N : List Str) (js : List (Option Nat)) : Prop where
  kind : scope.kind = .function
  cell : ∀ y ∈ scope.names, y.2 ≠ .cell
  names : ∀ y ∈ scope.names, y.2 = .local → scope.names.lookup y.1 = some .local
  free : ∀ y ∈ scope.names, y.2 = .free → osc.names.lookup y.1 = some .cell ∨ osc.names.lookup y.1 = some .free
  len : js.length = N.length
  slots : (js.zip N).all (fun p => match p.1 with | none => true | some j => decide (ON[j]? = some p.2) && decide (scope.names.lookup p.2 = some .free)) = true
theorem CompScope.sub {osc : Scope} {ON : List Str} {scope : Scope} {N : List Str} {js : List (Option Nat)} (cs : CompScope osc ON scope N js) : ∀ (i j : Nat), js[i]? = some (some j) → ∃ x, N[i]? = some x ∧ ON[j]? = some x ∧ scope.names.lookup x = some .free := by
  intro i j h
  have hi : i < js.length := (List.getElem?_eq_some_iff.mp h).1
  have hN : N[i]? = some (N[i]'(by rw [← cs.len]; exact hi)) := List.getElem?_eq_getElem _
  have hz : (js.zip N)[i]? = some (some j, N[i]'(by rw [← cs.len]; exact hi)) := by
    rw [List.getElem?_zip_eq_some]
    exact ⟨h, hN⟩
  have hm := List.all_eq_true.mp cs.slots _ (List.mem_of_getElem? hz)
  have hm2 := (Bool.and_eq_true _ _).mp hm
  exact ⟨_, hN, of_decide_eq_true hm2.1, of_decide_eq_true hm2.2⟩

theorem mem_of_lookup {α : Type} : ∀ {l : List (Str × α)} {x : Str} {k : α}, l.lookup x = some k → (x, k) ∈ l
  | [], _, _, h => by simp at h
  | (n, v) :: r, x, k, h => by
    rw [List.lookup_cons] at h
    cases hx : x == n with
    | true =>
      rw [hx] at h
      have hx' : x = n := by simpa using hx
      have : v = k := Option.some.inj h
      subst hx' this
      exact List.mem_cons_self
    | false =>
      rw [hx] at h
      exact List.mem_cons_of_mem _ (mem_of_lookup h)

theorem pe_comp {osc : Scope} {ON : List Str} (cs : CompScope osc ON scope N js) (ho : X.env.scope = osc) (hON : X.N = ON) (hc : X.calm = true) (hi : PI X tg iter wi)
    (hg : ∀ s₀ H₀ cl C ex, PG (compX X scope N s₀ H₀ cl C ex) tg g) (hif : ∀ s₀ H₀ cl C ex, PIfs (compX X scope N s₀ H₀ cl C ex) ifs tc) (he : ∀ s₀ H₀ cl C ex, PE (compX X scope N s₀ H₀ cl C ex) elt te)
    (hs : ∀ x, foldedSetIterable iter X.env x = pure x := by intro _; rfl) : PE X (.ListComp elt [⟨tg, iter, ifs, 0⟩] scope pos) (tComp wi (subσ js) g tc te) := by
  intro pins s σ H Q I h
  subst ho hON
  obtain ⟨cl, hcl, cl1, cl2⟩ := closureFor_ok (scope := scope) (env := X.env) fun y hy hf => I.ok.has y.1 (cs.free y hy hf)
  rw [eval_ListComp]
  refine wpAny_comprehension_free (use := none) rfl hs hcl cs.kind cs.names ?_
  refine thn (hi pins s σ H _ I h) fun v s1 h1 => thn h1 fun itv s2 h2 => ?_
  obtain ⟨it, fp, tn, J, H2, e, I2, T, st2, f2, hW⟩ := h2
  subst e
  have hD0 : H2 s2.heap.objs.size = none := I2.hok.fresh (Nat.le_refl _)
  obtain ⟨W, ⟨m0, w0⟩, turn⟩ := hW s2.heap.objs.size hD0
  have I3 := I2.lnew (t' := s2.toks) (ys := []) (its := []) .nil (Nat.zero_le _)
  refine wpAny_newObj_type (wpAny_newFunctionEnv cs.cell (by intro y hy; simp at hy) (fun h₁ hns₁ hsb₁ => ?_) cs.kind)
  dsimp only at hns₁ hsb₁ ⊢
  -- the state with the new list: s3
  obtain ⟨s3, hs3⟩ : ∃ s3 : Shared, s3 = { s2 with heap := s2.heap.push { cls := .type "list", data := .seq ([] : List Value).toArray }, toks := s2.toks } := ⟨_, rfl⟩
  rw [← hs3] at I3
  have e3 : s3.heap = s2.heap.push { cls := .type "list", dict := none, data := .seq ([] : List Value).toArray } := by rw [hs3]
  have e3o : s3.os = s2.os := by rw [hs3]
  have e3g : s3.gens = s2.gens := by rw [hs3]
  rw [← e3] at hns₁ hsb₁ ⊢
  obtain ⟨H3, hH3⟩ : ∃ H3 : Hp, H3 = upd H2 s2.heap.objs.size (.lst []) := ⟨_, rfl⟩
  rw [← hH3] at I3 w0
  have up1 : ∀ b o, s2.heap.get? b = some o → s3.heap.get? b = some o := fun b o q => by rw [e3]; exact Heap.get?_push_of_some _ q
  have up2 : ∀ b o, s3.heap.get? b = some o → h₁.get? b = some o := fun b o q => hsb₁.extBut b o (Nat.ne_of_lt (Heap.lt_size q)) (Heap.get?_push_of_some _ q)
  have fpo : ∀ b ∈ fp, ∃ o, s3.heap.get? b = some o := fun b hb => by
    obtain ⟨o, ho, _⟩ := T.obj 0 _ st2 b hb
    exact ⟨o, up1 b o ho⟩
  have fr3 : ∀ b ∈ fp, H3 b = none := fun b hb => by
    obtain ⟨o, ho, _⟩ := T.obj 0 _ st2 b hb
    rw [hH3, upd_ne (Nat.ne_of_lt (Heap.lt_size ho))]
    exact (f2 b hb).1
  have fpC : ∀ b ∈ fp, b ≠ s3.heap.objs.size := fun b hb => by
    obtain ⟨o, ho⟩ := fpo b hb
    exact Nat.ne_of_lt (Heap.lt_size ho)
  have fpS : ∀ b ∈ fp, b ∉ frs X.stack := fun b hb hs' => by
    rcases List.mem_cons.mp (I2.stkSub b hs') with z | z
    · exact (f2 b hb).2.1 z
    · exact (f2 b hb).2.2.1 z
  have ok' : (compX X scope N s3 H3 cl s3.heap.objs.size fp).Ok := by
    refine ⟨I.ok.mod, cs.kind, I.ok.glob, I.ok.blt, Nat.le_refl _, fun x y c e1 e2 => I.ok.inj x y c (cl2 x c e1) (cl2 y c e2), fun x hx => ?_, fun x c hf => (nomatch hf), I.ok.hd, I.ok.frames, .inl rfl, fun b hb => ⟨fpC b hb, fun x c e => (f2 b hb).2.2.2.2.1 x c (cl2 x c e)⟩,
      I3.bs, Nat.le_trans I.ok.bsz I3.sz, fun b o e hb => ?_, fun b hb => fpS b hb, I3.stack, I3.stkFree⟩
    · have hm : (x, NameKind.free) ∈ scope.names := relabel_back cs.cell hx
      obtain ⟨c, hc⟩ := I.ok.has x (cs.free _ hm rfl)
      exact ⟨c, (cl1 _ hm rfl).trans hc⟩
    · rcases (f2 b hb).2.2.2.1 with z | z
      · exact I.ok.noex b o e z
      · exact absurd (Nat.lt_of_lt_of_le (Heap.lt_size e) (Nat.le_trans I.ok.bsz z)) (Nat.lt_irrefl _)
  have cellK : ∀ c v, s3.heap.IsCell c v → h₁.IsCell c v := fun c v ⟨o, ho, hd⟩ => ⟨o, up2 c o ho, hd⟩
  have I4 : ∀ t : Nat, Inv (compX X scope N s3 H3 cl s3.heap.objs.size fp) [] (subσ js σ) H3 { s2 with heap := h₁, toks := t } := fun t => by
    refine ⟨ok', e3o.symm, I2.bare, Un.kept up2, ⟨_, hns₁, fun i x v hi hv hx => ?_⟩, fun x c e => ?_, I3.hok.fresh (Nat.le_refl _), fun x c e => I3.freeC x c (cl2 x c e), fun p hp => (nomatch hp), I3.hok.kept up2, ?_⟩
    · -- a slot taken over
      have hv' : ∃ j, js[i]? = some (some j) ∧ σ[j]? = some (some v) := by
        unfold subσ at hv
        rw [List.getElem?_map] at hv
        cases hj : js[i]? with
        | none => rw [hj] at hv; cases hv
        | some o =>
          rw [hj] at hv
          cases o with
          | none => cases hv
          | some j =>
            refine ⟨j, rfl, ?_⟩
            have hv2 : (σ[j]?).join = some v := Option.some.inj hv
            cases hs2 : σ[j]? with
            | none => rw [hs2] at hv2; cases hv2
            | some u => rw [hs2] at hv2; exact congrArg some hv2
      obtain ⟨j, hj, hσ⟩ := hv'
      obtain ⟨x', h1', h2', h3'⟩ := cs.sub i j hj
      have hxx : x = x' := Option.some.inj (hi.symm.trans h1')
      subst hxx
      have hm : (x, NameKind.free) ∈ scope.names := mem_of_lookup h3'
      have hk := cs.free _ hm rfl
      obtain ⟨m, hn, hl⟩ := id I3.loc
      obtain ⟨u, ru, lk⟩ := hl j x v h2' hσ (by rcases hk with z | z; exact .inr (.inl z); exact .inr (.inr z))
      refine ⟨u, ru, ?_⟩
      rcases lk with ⟨k1, _⟩ | ⟨k1, c, e1, z⟩
      · rcases hk with z | z <;> (rw [show X.env.kindOf x = _ from z] at k1; cases k1)
      · exact .inr ⟨lookup_relabel_free h3', c, (cl1 _ hm rfl).trans e1, cellK c _ z⟩
    · obtain ⟨v, z⟩ := I3.cell x c (cl2 x c e)
      exact ⟨v, cellK c v z⟩
    · unfold subσ
      rw [List.length_map]
      exact cs.len
  have hst₁ : tn 0 h₁ := T.keep 0 _ _ st2 fun b hb o q => up2 b o (up1 b o q)
  have stat : ∀ {H' : Hp}, (∀ b ∈ fp, H' b = none) → ∀ b ∈ fp, FpOk (compX X scope N s3 H3 cl s3.heap.objs.size fp) [] H' b := fun hn b hb =>
    ⟨hn b hb, fpC b hb, fpS b hb, .inl hb, fun x c e => (f2 b hb).2.2.2.2.1 x c (cl2 x c e), fun p hp => (nomatch hp)⟩
  have loop : ∀ s4 : Shared, (∃ t, s4 = { s2 with heap := h₁, toks := t }) →
      codeAny (model X.prog X.w) X.A (.compLoop (.ListComp elt [⟨tg, iter, ifs, 0⟩] scope pos) 0 (.ref it) (.ref s2.heap.objs.size) (compEnvC scope cl s3.heap.objs.size X.env))
        (compPost (model X.prog X.w) X.A X.xe none (EP X pins σ Q) (.ref s2.heap.objs.size) s3.heap.objs.size) s4 := by
    rintro s4 ⟨t, rfl⟩
    refine compLoop_any (fun n s' => ∃ i σ' ys H', Inv (compX X scope N s3 H3 cl s3.heap.objs.size fp) [] σ' H' s' ∧ tn i s'.heap ∧ (∀ b ∈ fp, H' b = none) ∧ W i n σ' ys H') ?_ m0 ⟨0, _, [], H3, I4 t, hst₁, fr3, w0⟩
    rintro n s5 ⟨i, σ5, ys, H5, I5, st5, fr5, w5⟩
    rcases turn i n σ5 ys H5 w5 with ⟨stop, qn⟩ | ⟨go, step⟩
    · refine thn (T.done (compX X scope N s3 H3 cl s3.heap.objs.size fp) rfl rfl rfl hc i [] s5 σ5 H5 _ I5 (stat fr5) st5 stop) fun r s6 ⟨hr, I6⟩ => ?_
      subst hr
      obtain ⟨m, hn, _⟩ := id I6.loc
      refine ⟨m, hn, fun h' hs' => ⟨.ref s2.heap.objs.size, H5, ?_, rfl, qn⟩⟩
      have neC : ∀ b o, s3.heap.get? b = some o → b ≠ s3.heap.objs.size := fun b o q => Nat.ne_of_lt (Heap.lt_size q)
      have un : Un (frs X.stack) fp H3 H5 s3.heap h' :=
        ⟨fun b o q n1 hb hx => (hs'.2 b (neC b o q)).trans (I6.base.keep b o q n1 hb hx),
         fun b o q n1 hb hx => by
           obtain ⟨sl, e⟩ := I6.base.slot b o q n1 hb hx
           exact ⟨sl, (hs'.2 b (neC b o q)).trans e⟩,
         fun b o q n1 hx => I6.base.free b o q n1 hx,
         fun b o q hx => by
           obtain ⟨o', e⟩ := I6.base.there b o q hx
           exact ⟨o', (hs'.2 b (neC b o q)).trans e⟩,
         I6.base.tups, I6.base.frzs, I6.base.tbls⟩
      refine I3.call' (ch := fp) (s' := { s6 with heap := h' }) I6.os un (fun b ob e => ?_) I6.bare (fun b hb => ⟨(f2 b hb).2.2.2.1, (f2 b hb).2.1, (f2 b hb).2.2.2.2.1, (f2 b hb).2.2.2.2.2⟩)
      refine (I6.hok b ob e).stay (fun c w' hc' q => (hs'.2 c ?_).trans q) (fun _ q => q) fun _ _ q => q
      rintro rfl
      have fC : H5 s3.heap.objs.size = none := I6.free
      rcases hc' with z | z
      · rw [← z, fC] at e; cases e
      · rw [fC] at z; cases z
    · refine thn (T.item (compX X scope N s3 H3 cl s3.heap.objs.size fp) rfl rfl rfl hc i [] s5 σ5 H5 _ I5 (stat fr5) st5 go) fun r s6 ⟨u, hr, h6⟩ => ?_
      subst hr
      refine thn h6 fun _ s7 ⟨x, H7, I7, r7, y7, st7, fr7⟩ => ?_
      have I7' := I7.pinned (stat fr7) (T.obj _ _ st7)
      refine thn (hg _ _ _ _ _ _ s7 σ5 H7 x u _ I7' r7 (step x H7 y7)) fun _ s8 ⟨σ8, H8, I8, q8⟩ => ?_
      refine thn (hif _ _ _ _ _ _ s8 σ8 H8 _ I8 q8) fun ok s9 ⟨H9, I9, q9⟩ => ?_
      have again : ∀ {σ' : St} {H' : Hp} {s' : Shared}, Inv (compX X scope N s3 H3 cl s3.heap.objs.size fp) ([] ++ pinsAt fp s7.heap) σ' H' s' →
          Inv (compX X scope N s3 H3 cl s3.heap.objs.size fp) [] σ' H' s' ∧ tn (i + 1) s'.heap ∧ ∀ b ∈ fp, H' b = none := fun {σ' H' s'} I' => by
        refine ⟨I'.unpinned, T.keep _ _ _ st7 fun b hb o e => (I'.pin (b, o) (List.mem_append_right _ (List.mem_append_right _ (mem_pinsAt hb e)))).1, fun b hb => ?_⟩
        obtain ⟨o, e, d⟩ := T.obj _ _ st7 b hb
        exact (I'.pin (b, o) (List.mem_append_right _ (List.mem_append_right _ (mem_pinsAt hb e)))).2.1
      cases ok with
      | false =>
        rw [if_neg Bool.false_ne_true] at q9 ⊢
        obtain ⟨m', hm, w9⟩ := q9
        obtain ⟨a1, a2, a3⟩ := again I9
        exact ⟨m', hm, i + 1, σ8, ys, H9, a1, a2, a3, w9⟩
      | true =>
        rw [if_pos rfl] at q9 ⊢
        refine thn (he _ _ _ _ _ _ s9 σ8 H9 _ I9 q9) fun yv s10 ⟨y, H10, I10, r10, q10⟩ => ?_
        obtain ⟨hD, hz, m', hm, w10⟩ := q10
        refine thn (mt_append (X := compX X scope N s3 H3 cl s3.heap.objs.size fp) _ s10 σ8 H10 (.ref s2.heap.objs.size) [y] (.ref s2.heap.objs.size) [yv] (fun v H' => H' = upd H10 s2.heap.objs.size (.lst (ys ++ [y]))) I10 rfl (.cons r10 .nil)
          ⟨s2.heap.objs.size, ys, y, rfl, rfl, hD, hz, rfl⟩) fun _ s11 ⟨v11, H11, I11, _, e11⟩ => ?_
        have e11' : H11 = upd H10 s2.heap.objs.size (.lst (ys ++ [y])) := e11
        subst e11'
        obtain ⟨a1, a2, a3⟩ := again I11
        exact ⟨m', hm, i + 1, σ8, ys ++ [y], _, a1, a2, a3, w10⟩
  exact codeAny_compStart_list (loop _ ⟨_, rfl⟩) (T.self X.A 0 _ _ _ hst₁ (loop _ ⟨_, rfl⟩))
end

/-! ### the forms one uses -/
/-- an iterator that hands out xs, in this order, whatever grows beside it -/
structure Hands (J : It) (H0 : Hp) (xs : List V) : Prop where
  go : ∀ i H, Same H0 H → i < xs.length → J.go i H
  yld : ∀ i H x H', Same H0 H → i < xs.length → J.yld i H x H' → H' = H ∧ xs[i]? = some x
  stop : ∀ H, Same H0 H → J.stop xs.length H
theorem hands_list {K : PySem.W.Frag} {a : Addr} {H : Hp} {xs : List V} (h : SqL K H a xs) : Hands (Itl K a) H xs where
  go := fun i H' s hi => ⟨xs, xs[i], s.seq h, by simp [hi]⟩
  yld := fun i H' x H'' s hi y => ⟨y.1, y.2 xs (s.seq h)⟩
  stop := fun H' s => ⟨xs, s.seq h, Nat.le_refl _⟩
theorem hands_range {H : Hp} (lo : Int) (n : Nat) : Hands (Itr lo n) H ((List.range n).map fun i => .int (lo + (i : Nat))) where
  go := fun i H' s hi => by rw [List.length_map, List.length_range] at hi; exact hi
  yld := fun i H' x H'' s hi y => by
    rw [List.length_map, List.length_range] at hi
    refine ⟨y.1, ?_⟩
    rw [List.getElem?_map, List.getElem?_range hi]
    exact congrArg some y.2.symm
  stop := fun H' s => by rw [List.length_map, List.length_range]; exact Nat.le_refl _

theorem same_new {H : Hp} {p : Addr} (h : H p = none) (o : HO) : Same H (upd H p o) := fun b u q => by rw [upd_ne (ne_of_none q h)]; exact q
theorem Same.upd {H H' : Hp} {p : Addr} {o : HO} (s : Same H H') (h : H p = none) : Same H (upd H' p o) := fun b u q => by rw [upd_ne (ne_of_none q h)]; exact s b u q

/-- [e for x in xs if c]: what is told of each item; the slot of x is k -/
theorem comp_by {J : It} {H : Hp} {xs : List V} {σ0 : St} {k : Nat} {tc : TT} {te : TE} {Q : VK} (p : V → Bool) (f : V → V) (hJ : Hands J H xs) (hx : xs.length ≤ 1000000)
    (hc : ∀ x ∈ xs, ∀ H', Same H H' → ∀ R : Bool → Hp → Prop, (∀ H'', Same H' H'' → R (p x) H'') → tc (σ0.set k (some x)) H' R)
    (he : ∀ x ∈ xs, p x = true → ∀ H', Same H H' → ∀ R : VK, (∀ H'', Same H' H'' → R (f x) H'') → te (σ0.set k (some x)) H' R)
    (hQ : ∀ D H', H D = none → Same H H' → H' D = some (.lst ((xs.filter p).map f)) → Q (.ref D) H') :
    CompW J H σ0 (gName k) tc te Q := by
  intro D hD
  refine ⟨fun i m σ1 ys H' => m = xs.length - i ∧ i ≤ xs.length ∧ (σ1 = σ0 ∨ ∃ v, σ1 = σ0.set k v) ∧ ys = ((xs.take i).filter p).map f ∧ H' D = some (.lst ys) ∧ Same H H', ⟨xs.length, by simp, Nat.zero_le _, .inl rfl, rfl, upd_same, same_new hD _⟩, ?_⟩
  rintro i m σ1 ys H' ⟨rfl, hi, hσ, rfl, hDD, hs⟩
  by_cases hlt : i < xs.length
  · refine .inr ⟨hJ.go i H' hs hlt, fun x H'' hy => ?_⟩
    obtain ⟨e1, hx1⟩ := hJ.yld i H' x H'' hs hlt hy
    subst e1
    have hm : x ∈ xs := List.mem_of_getElem? hx1
    have hset : σ1.set k (some x) = σ0.set k (some x) := by
      rcases hσ with rfl | ⟨v, rfl⟩
      · rfl
      · rw [List.set_set]
    show tc (σ1.set k (some x)) H'' _
    rw [hset]
    have tk : ((xs.take (i + 1)).filter p).map f = ((xs.take i).filter p).map f ++ (if p x = true then [f x] else []) := by
      rw [List.take_add_one, hx1, List.filter_append, List.map_append]
      cases hp : p x <;> simp [hp]
    refine hc x hm H'' hs _ fun H3 s3 => ?_
    have s03 : Same H H3 := hs.trans s3
    have lenk : (((xs.take i).filter p).map f).length < sizeLine := by
      have h1 := List.length_filter_le p (xs.take i)
      rw [List.length_take] at h1
      rw [List.length_map]
      have : (1000001 : Nat) ≤ sizeLine := by decide
      omega
    refine ite2 (fun hp => ?_) (fun hp => ?_)
    · refine he x hm hp H3 s03 _ fun H4 s4 => ⟨s4 _ _ (s3 _ _ hDD), lenk, xs.length - (i + 1), by omega, rfl, hlt, .inr ⟨_, rfl⟩, ?_, ?_, ?_⟩
      · rw [tk, if_pos hp]
      · exact upd_same
      · exact (s03.trans s4).upd hD
    · refine ⟨xs.length - (i + 1), by omega, rfl, hlt, .inr ⟨_, rfl⟩, ?_, s3 _ _ hDD, s03⟩
      rw [tk, if_neg hp, List.append_nil]
  · have e : i = xs.length := by omega
    subst e
    refine .inl ⟨hJ.stop H' hs, hQ D H' hD hs ?_⟩
    rw [hDD, List.take_length]
/-- [e for x in xs] -/
theorem comp_map {J : It} {H : Hp} {xs : List V} {σ0 : St} {k : Nat} {te : TE} {Q : VK} (f : V → V) (hJ : Hands J H xs) (hx : xs.length ≤ 1000000)
    (he : ∀ x ∈ xs, ∀ H', Same H H' → ∀ R : VK, (∀ H'', Same H' H'' → R (f x) H'') → te (σ0.set k (some x)) H' R)
    (hQ : ∀ D H', H D = none → Same H H' → H' D = some (.lst (xs.map f)) → Q (.ref D) H') :
    CompW J H σ0 (gName k) tYes te Q :=
  comp_by (fun _ => true) f hJ hx (fun x _ H' _ R hR => hR H' (Same.refl _)) (fun x hm _ => he x hm) (fun D H' h1 h2 h3 => hQ D H' h1 h2 (by rw [h3, List.filter_eq_self.mpr fun _ _ => rfl]))
end L2

set_option linter.all false
set_option maxRecDepth 100000
set_option maxHeartbeats 4000000
/-! Texts for the hand layer: signs walked, slices, join, zip of two texts, all, any, isinstance. -/
namespace L2
open PySem PySem.Spec PyProof.Rows

/-- a text by the list of its codes -/
abbrev T (l : List Nat) : V := .str ⟨l.toArray⟩
theorem T_inj {a b : List Nat} (h : T a = T b) : a = b := by
  have h1 : (⟨a.toArray⟩ : Str) = ⟨b.toArray⟩ := V.str.inj h
  have h2 : a.toArray = b.toArray := congrArg Str.cps h1
  simpa using h2
theorem T_eq (a b : List Nat) : decide (T a = T b) = decide (a = b) := by
  by_cases h : a = b
  · subst h; simp
  · rw [decide_eq_false h, decide_eq_false fun q => h (T_inj q)]
theorem T_len (l : List Nat) : (⟨l.toArray⟩ : Str).length = l.length := by simp [Str.length]
theorem T_app (a b : List Nat) : (⟨a.toArray⟩ : Str) ++ ⟨b.toArray⟩ = ⟨(a ++ b).toArray⟩ := by
  show (⟨a.toArray ++ b.toArray⟩ : Str) = _
  simp
section
variable {X : Cx}
theorem pe_txt {x : Str} {l : List Nat} {j pos} (h : x = ⟨l.toArray⟩) : PE X (.Constant (.str x) j pos) (tC (T l)) := by subst h; exact pe_str
/-- t + u -/
def rCatS : R2 := fun x y H Q => ∃ a b, x = T a ∧ y = T b ∧ a.length + b.length ≤ sizeLine ∧ Q (T (a ++ b)) H
theorem op_catS : OpR X (binaryOp .Add) rCatS := by
  intro pins s σ H x y v u Q I rx ry h
  obtain ⟨a, b, rfl, rfl, hz, q⟩ := h
  exact op_add_str pins s σ H _ _ v u Q I rx ry ⟨_, _, rfl, rfl, by rw [T_len, T_len]; exact hz, by rw [T_app]; exact q⟩
/-- t[i] -/
def rIxT' : R2 := fun x y H Q => ∃ l i c, x = T l ∧ y = .int i ∧ l.length ≤ sizeLine ∧ atI l i = some c ∧ Q (T [c]) H
theorem ix_txt : IxR X rIxT' := by
  intro value slice pins s σ H x y v u Q I rx ry h hs
  obtain ⟨l, i, c, rfl, rfl, hz, he, q⟩ := h
  exact ix_str value slice pins s σ H _ _ v u Q I rx ry ⟨_, i, c, rfl, rfl, by rw [T_len]; exact hz, by simpa using he, q⟩ hs
/-- c in t, c not in t: one sign -/
theorem op_inS : OpR X (compareOp .In) (fun x y H Q => ∃ c m, x = T [c] ∧ y = T m ∧ Q (.bl (decide (c ∈ m))) H) := by
  intro pins s σ H x y v u Q I rx ry h
  obtain ⟨c, m, rfl, rfl, q⟩ := h
  refine op_in_str pins s σ H _ _ v u Q I rx ry ⟨_, _, rfl, rfl, ?_⟩
  have e := StrLaws.found_one ⟨m.toArray⟩ c
  rw [show (!(Builtin.Str.occurrences ⟨m.toArray⟩ ⟨[c].toArray⟩ 0 (⟨m.toArray⟩ : Str).length 1).isEmpty) = decide (c ∈ m) from by simpa using e]
  exact q
theorem op_notinS : OpR X (compareOp .NotIn) (fun x y H Q => ∃ c m, x = T [c] ∧ y = T m ∧ Q (.bl (!decide (c ∈ m))) H) := by
  intro pins s σ H x y v u Q I rx ry h
  obtain ⟨c, m, rfl, rfl, q⟩ := h
  refine op_notin_str pins s σ H _ _ v u Q I rx ry ⟨_, _, rfl, rfl, ?_⟩
  have e := StrLaws.found_one ⟨m.toArray⟩ c
  rw [show (!(Builtin.Str.occurrences ⟨m.toArray⟩ ⟨[c].toArray⟩ 0 (⟨m.toArray⟩ : Str).length 1).isEmpty) = decide (c ∈ m) from by simpa using e]
  exact q
/-- len(t) -/
theorem call_lenS : CallR X (.builtin "len") (fun xs H Q => ∃ l, xs = [T l] ∧ l.length ≤ sizeLine ∧ Q (.int l.length) H) := by
  intro pins s σ H xs us Q I r h
  obtain ⟨l, rfl, hz, q⟩ := h
  exact call_len_str pins s σ H _ us Q I r ⟨_, rfl, by rw [T_len]; exact hz, by rw [T_len]; exact q⟩
end

/-! ### slices -/
def cutN {α : Type} (xs : List α) (lo hi : Option Int) : List α := (xs.drop (HT.sIx xs.length 0 lo)).take (HT.sIx xs.length xs.length hi - HT.sIx xs.length 0 lo)
def clipI (n : Nat) (d : Int) : Option Int → Int
  | none => d
  | some i => max 0 (min (if i < 0 then i + (n : Int) else i) (n : Int))
theorem clipI_eq (n d : Nat) (o : Option Int) : clipI n (d : Int) o = ((HT.sIx n d o : Nat) : Int) := by
  cases o with
  | none => rfl
  | some i =>
    show max 0 (min (if i < 0 then i + (n : Int) else i) (n : Int)) = (((if i < 0 then (i + (n : Int)).toNat else min i.toNat n) : Nat) : Int)
    by_cases hi : i < 0
    · rw [if_pos hi, if_pos hi]; omega
    · rw [if_neg hi, if_neg hi]; omega
theorem run_of (a b : Nat) : sliceRange (a : Int) (b : Int) 1 = (List.range (b - a)).map fun k => a + k := by
  unfold sliceRange
  simp only [show (1 : Int) > 0 by decide, if_true]
  have e1 : (if (a : Int) < (b : Int) then ((b : Int) - (a : Int) + 1 - 1) / 1 else 0).toNat = b - a := by
    split <;> simp <;> omega
  rw [e1]
  refine List.map_congr_left fun k _ => ?_
  omega
theorem strSlice_run (lo hi : Option Int) (n : Nat) : Builtin.Str.strSliceIndices lo hi 1 n = (List.range (HT.sIx n n hi - HT.sIx n 0 lo)).map fun k => HT.sIx n 0 lo + k := by
  have e : Builtin.Str.strSliceIndices lo hi 1 n = sliceRange (clipI n ((0 : Nat) : Int) lo) (clipI n ((n : Nat) : Int) hi) 1 := by
    cases lo <;> cases hi <;> rfl
  rw [e, clipI_eq, clipI_eq, run_of]
theorem pickN (l : List Nat) (i k : Nat) : ((List.range k).map fun m => i + m).filterMap (fun j => l.toArray[j]?) = (l.drop i).take k := by
  induction k generalizing i with
  | zero => simp
  | succ k ih =>
    rw [List.range_succ_eq_map, List.map_cons, List.filterMap_cons, List.map_map]
    have e : ((fun m => i + m) ∘ Nat.succ) = fun m => (i + 1) + m := by funext m; simp; omega
    rw [e, ih (i + 1)]
    by_cases h : i < l.length
    · have : l.toArray[i + 0]? = some l[i] := by simp [h]
      rw [this, List.drop_eq_getElem_cons h, List.take_succ_cons]
    · have : l.toArray[i + 0]? = none := by simp; omega
      rw [this, List.drop_eq_nil_of_le (by omega), List.drop_eq_nil_of_le (by omega)]
      simp
theorem cutN_full {α : Type} {l : List α} {lo hi : Option Int} (h : (cutN l lo hi).length = l.length) : cutN l lo hi = l := by
  unfold cutN at h ⊢
  rw [List.length_take, List.length_drop] at h
  have h2 := HT.sIx_le l.length l.length (Nat.le_refl _) hi
  by_cases h0 : l.length = 0
  · have : l = [] := List.length_eq_zero_iff.mp h0
    subst this; simp
  · have e0 : HT.sIx l.length 0 lo = 0 := by omega
    rw [e0, List.drop_zero]
    exact List.take_of_length_le (by omega)
theorem slice_txt (l : List Nat) (lo hi : Option Int) : Txt.slice ⟨l.toArray⟩ lo hi = ⟨(cutN l lo hi).toArray⟩ := by
  unfold Txt.slice
  rw [T_len, strSlice_run]
  have e := pickN l (HT.sIx l.length 0 lo) (HT.sIx l.length l.length hi - HT.sIx l.length 0 lo)
  have e2 : ((List.range (HT.sIx l.length l.length hi - HT.sIx l.length 0 lo)).map fun k => HT.sIx l.length 0 lo + k).filterMap (fun x => (⟨l.toArray⟩ : Str).cps[x]?) = cutN l lo hi := e
  by_cases h : ((1 : Int) == 1 && ((List.range (HT.sIx l.length l.length hi - HT.sIx l.length 0 lo)).map fun k => HT.sIx l.length 0 lo + k).length == l.length) = true
  · rw [if_pos h]
    have h' : HT.sIx l.length l.length hi - HT.sIx l.length 0 lo = l.length := by
      have := ((Bool.and_eq_true _ _).mp h).2
      simpa using this
    have : (cutN l lo hi).length = l.length := by
      unfold cutN
      rw [List.length_take, List.length_drop]
      have := HT.sIx_le l.length l.length (Nat.le_refl _) hi
      omega
    rw [cutN_full this]
  · rw [if_neg h, e2]
section
variable {X : Cx}
def rSlS : V → Option Int → Option Int → Hp → VK → Prop := fun x lo hi H Q => ∃ l, x = T l ∧ l.length ≤ sizeLine ∧ Q (T (cutN l lo hi)) H
theorem sl_txt : SlR X rSlS := by
  intro pins s σ H x v vl vu lo hi sl Q I rx hs pl pu h
  obtain ⟨l, rfl, hz, q⟩ := h
  obtain ⟨t, rfl⟩ := rx
  refine ⟨"str", _, F.slot_str_getitem.lookup, typeIs_str _ _ _, ?_⟩
  have fin : ∀ t' k, EP X pins σ Q (.str (Txt.slice ⟨l.toArray⟩ lo hi) t') { s with toks := k } := fun t' k => ⟨T (cutN l lo hi), H, I.tok _, ⟨t', by rw [slice_txt]⟩, q⟩
  have hlen : (Txt.slice ⟨l.toArray⟩ lo hi).length ≤ sizeLine := Nat.le_trans (Txt.slice_le _ _ _) (by rw [T_len]; exact hz)
  cases pl with
  | none =>
    cases pu with
    | none => exact wpAny_getItem_str_slice (l := none) (u := none) (st := none) hs rfl (post_val_or_str ⟨hlen, fin⟩)
    | int j uj => exact wpAny_getItem_str_slice (l := none) (u := some (j, uj)) (st := none) hs rfl (post_val_or_str ⟨hlen, fin⟩)
  | int i ui =>
    cases pu with
    | none => exact wpAny_getItem_str_slice (l := some (i, ui)) (u := none) (st := none) hs rfl (post_val_or_str ⟨hlen, fin⟩)
    | int j uj => exact wpAny_getItem_str_slice (l := some (i, ui)) (u := some (j, uj)) (st := none) hs rfl (post_val_or_str ⟨hlen, fin⟩)
end

/-! ### t[::-1] -/
/-! ### the signs of a text, one by one -/
def Its (l : List Nat) : It := ⟨fun i _ => i < l.length, fun i H x H' => H' = H ∧ ∃ c, l[i]? = some c ∧ x = T [c], fun i _ => l.length ≤ i⟩
theorem turn_txt {P : Program} {w : World} {K : PySem.W.Frag} {tg : Expr} {it : Addr} {l : List Nat} {t : Tok} {nm : String} (hn : nm = "str_ascii_iterator" ∨ nm = "str_iterator") :
    Turn P w K tg (Its l) [it] it (fun i h => h.IsStrIter it nm ⟨l.toArray⟩ t i) where
  mem := by simp
  obj := fun i h st b hb => by
    have e : b = it := by simpa using hb
    subst e
    obtain ⟨o, e, c, d⟩ := st
    exact ⟨o, e, fun v z => by rw [d] at z; cases z⟩
  keep := fun i h h' st k => by
    obtain ⟨o, e, r⟩ := st
    exact ⟨o, k it (by simp) o e, r⟩
  item := by
    intro X hP hw hK hc i pins s σ H E I hf st hg
    subst hP hw hK
    obtain ⟨f0, f1, f2, f3, f4, f5⟩ := hf it (by simp)
    have hi : i < l.length := hg
    have hx : (⟨l.toArray⟩ : Str).cps[i]? = some l[i] := by simp [hi]
    have fin : ∀ h', h'.IsStrIter it nm ⟨l.toArray⟩ t (i + 1) → Heap.SameBut it s.heap h' → ∃ u, (some (Value.str ⟨#[l[i]]⟩ s.toks) : Option Value) = some u ∧
        wpAny (model X.prog X.w) X.A (letOwnedTupleGo tg (.ref it) u) (fun _ s2 => ∃ x H', Inv X pins σ H' s2 ∧ RelV x u ∧ (Its l).yld i H x H' ∧ s2.heap.IsStrIter it nm ⟨l.toArray⟩ t (i + 1) ∧ ∀ b ∈ [it], H' b = none) E { s with heap := h', toks := s.toks + 1 } := fun h' st' sb => by
      have I1 : Inv X pins σ H { s with heap := h', toks := s.toks + 1 } := I.turned (t' := s.toks + 1) (fun b o hb e => (sb.2 b hb).trans e) f0 f1 f3 f4 f5
      obtain ⟨o, e, c, d⟩ := id st'
      refine ⟨_, rfl, go_of (s := { s with heap := h', toks := s.toks + 1 }) e c d (by rcases hn with rfl | rfl <;> decide) ⟨T [l[i]], H, I1, ⟨_, rfl⟩, ⟨rfl, l[i], by simp [hi], rfl⟩, st', fun b hb => (hf b hb).1⟩⟩
    rcases hn with rfl | rfl
    · exact wpAny_pyNext_ascii_item st hx fin
    · exact wpAny_pyNext_wide_item st hx fin
  done := by
    intro X hP hw hK hc i pins s σ H E I hf st hg
    subst hP hw hK
    obtain ⟨f0, f1, f2, f3, f4, f5⟩ := hf it (by simp)
    have hi : l.length ≤ i := hg
    have hx : (⟨l.toArray⟩ : Str).cps[i]? = none := by simp; exact hi
    have fin : ∀ h', Heap.ExtBut it s.heap h' → (none : Option Value) = none ∧ Inv X pins σ H { s with heap := h' } := fun h' eb => ⟨rfl, I.turned (t' := s.toks) (fun b o hb e => eb b o hb e) f0 f1 f3 f4 f5⟩
    rcases hn with rfl | rfl
    · exact wpAny_pyNext_ascii_end (I.ok.hd hc) st hx fin
    · exact wpAny_pyNext_wide_end (I.ok.hd hc) st hx fin
  self := fun _ _ _ _ _ st h => by
    rcases hn with rfl | rfl
    · exact wpAny_pyIter_striter_ascii st h
    · exact wpAny_pyIter_striter_wide st h
section
variable {X : Cx} {tg : Expr}
def iTxt (tl : TE) : TI := fun σ H R => tl σ H fun x H1 => ∃ l, x = T l ∧ R (Its l) H1
theorem pi_txt {e : Expr} {tl : TE} (hl : PE X e tl) : PI X tg e (iTxt tl) := by
  intro pins s σ H R I h
  refine thn (hl pins s σ H _ I h) fun v s1 ⟨x, H1, I1, r1, q1⟩ => ?_
  obtain ⟨l, e, q⟩ := q1
  subst e
  obtain ⟨t, rfl⟩ := r1
  have fin : ∀ nm : String, (nm = "str_ascii_iterator" ∨ nm = "str_iterator") → PIE X pins σ tg R (.ref s1.heap.objs.size) { s1 with heap := s1.heap.push { cls := .type nm, data := .fields #[.str ⟨l.toArray⟩ t, .int 0 0] } } := fun nm hn => by
    refine ⟨s1.heap.objs.size, [s1.heap.objs.size], _, _, H1, rfl, I1.kept (t' := s1.toks) fun b o e => Heap.get?_push_of_some _ e, turn_txt (t := t) hn, ⟨_, Heap.get?_push_size _ rfl, rfl, rfl⟩, fun b hb => ?_, q⟩
    have e : b = s1.heap.objs.size := by simpa using hb
    subst e
    exact I1.fpOk (Nat.le_refl _) (I1.hok.fresh (Nat.le_refl _))
  cases ha : (⟨l.toArray⟩ : Str).cps.all (· < 128) with
  | true => exact wpAny_pyIter_ascii ha (fin _ (.inl rfl))
  | false => exact wpAny_pyIter_wide ha (fin _ (.inr rfl))
end
theorem hands_txt {H : Hp} (l : List Nat) : Hands (Its l) H (l.map fun c => T [c]) where
  go := fun i H' s hi => by rw [List.length_map] at hi; exact hi
  yld := fun i H' x H'' s hi y => by
    obtain ⟨e, c, hc, rfl⟩ := y
    exact ⟨e, by rw [List.getElem?_map, hc]; rfl⟩
  stop := fun H' s => by rw [List.length_map]; exact Nat.le_refl _
/-! ### ''.join(list) -/
theorem vals_txts : ∀ {ts : List (List Nat)} {us : List Value}, Vals (ts.map T) us → PyProof.Rows.StrsAre us (ts.map fun l => ⟨l.toArray⟩)
  | [], _, h => by cases h; exact .nil
  | l :: r, _, h => by
    cases h with
    | cons r1 r2 =>
      obtain ⟨t, rfl⟩ := r1
      exact .cons _ t (vals_txts r2)
def joinN (sep : List Nat) : List (List Nat) → List Nat
  | [] => []
  | [x] => x
  | x :: y :: r => x ++ sep ++ joinN sep (y :: r)
theorem join_txt (sep : List Nat) : ∀ ts : List (List Nat), Str.join ⟨sep.toArray⟩ (ts.map fun l => ⟨l.toArray⟩) = ⟨(joinN sep ts).toArray⟩
  | [] => rfl
  | [x] => rfl
  | x :: y :: r => by
    show (⟨x.toArray⟩ : Str) ++ ⟨sep.toArray⟩ ++ Str.join ⟨sep.toArray⟩ ((y :: r).map fun l => ⟨l.toArray⟩) = _
    rw [join_txt sep (y :: r), T_app, T_app]
    rfl
theorem joinN_nil : ∀ ts : List (List Nat), joinN [] ts = ts.flatten
  | [] => rfl
  | [x] => by simp [joinN]
  | x :: y :: r => by
    show x ++ [] ++ joinN [] (y :: r) = _
    rw [joinN_nil (y :: r), List.append_nil]
    rfl
theorem sum_ones : ∀ cs : List Nat, (((cs.map fun c => [c]).map List.length).sum) = cs.length
  | [] => rfl
  | c :: r => by
    rw [List.map_cons, List.map_cons, List.sum_cons, sum_ones r]
    simp
    omega
theorem flat_ones : ∀ cs : List Nat, (cs.map fun c => [c]).flatten = cs
  | [] => rfl
  | c :: r => by
    rw [List.map_cons, List.flatten_cons, flat_ones r]
    rfl
section
variable {X : Cx}
def rJoin (K : PySem.W.Frag) : V → List V → Hp → VK → Prop := fun x vs H Q => ∃ sep ts D, x = T sep ∧ vs = [.ref D] ∧ SqL K H D (ts.map T) ∧ (ts.map List.length).sum + ts.length * sep.length ≤ 16777216 ∧ Q (T (joinN sep ts)) H
theorem mt_join : MtR X "str.join" (rJoin X.K) := by
  intro pins s σ H x vs v us Q I rx rv h
  obtain ⟨sep, ts, D, rfl, rfl, hq, hz, q⟩ := h
  obtain ⟨t, rfl⟩ := rx
  obtain ⟨u, rfl, ru⟩ := rv.one
  cases ru
  obtain ⟨its, r, pl, _⟩ := I.list hq
  refine join_list (ys := ts.map fun l => ⟨l.toArray⟩) pl.isList (by simpa using vals_txts r) ?_ fun t' k => ⟨T (joinN sep ts), H, I.tok _, ⟨t', ?_⟩, q⟩
  · rw [List.map_map, List.length_map, T_len]
    have e : ((fun x => x.length) ∘ fun l : List Nat => (⟨l.toArray⟩ : Str)) = List.length := by funext l; exact T_len l
    rw [e]
    exact hz
  · rw [← join_txt]
    show Value.str (Builtin.Str.glued _ _) t' = _
    rw [StrLaws.glued_eq_join]
end
theorem pe_join {X : Cx} {o e : Expr} {to : TE} {t : TA} {apos cpos : Pos} (ho : PE X o to) (ha : PA X [e] t)
    (hbase : attributeBase o "join" X.env (eval o X.env) = eval o X.env := by rfl)
    (hfew : ((backTo cpos (starEach [e] X.env)).all (fun x => !x.1) && (backToKw cpos (keywordEach [] X.env)).all (fun x => x.1.isSome)
      && decide ([e].length + ([] : List Keyword).length + (if ([] : List Keyword).isEmpty then 0 else 1) < 30)) = true := by rfl)
    (hline : (apos.endLine == cpos.line) = true := by rfl) (hs : starEach [e] X.env = (false, eval e X.env) :: starEach [] X.env := by rfl) (hplain : (backTo cpos (starEach [] X.env)).any (·.1) = false := by rfl) :
    PE X (.Call (.Attribute o "join" apos) [e] [] cpos) (tBM X.K "str" (rJoin X.K) to t) :=
  pe_bm F.plainAttrs_str F.slot_str_join F.type_str_join mt_join ho ha hbase hfew hline hs hplain

/-! ### all, any of a list of truths -/
theorem vals_bls {bs : List Bool} {us : List Value} (h : Vals (bs.map V.bl) us) : us = bs.map Value.bool := by
  induction bs generalizing us with
  | nil => cases h; rfl
  | cons b r ih =>
    cases h with
    | cons r1 r2 =>
      cases r1
      rw [ih r2]; rfl
theorem range_all (bs : List Bool) : (List.range bs.length).all (fun i => bs.getD i false) = bs.all id := by
  rw [Bool.eq_iff_iff, List.all_eq_true, List.all_eq_true]
  constructor
  · intro h b hb
    obtain ⟨i, hi, rfl⟩ := List.mem_iff_getElem.mp hb
    have := h i (List.mem_range.mpr hi)
    simpa [List.getD_eq_getElem?_getD, hi] using this
  · intro h i hi
    have hi := List.mem_range.mp hi
    have := h bs[i] (List.getElem_mem hi)
    simpa [List.getD_eq_getElem?_getD, hi] using this
theorem range_any (bs : List Bool) : (List.range bs.length).any (fun i => bs.getD i false) = bs.any id := by
  rw [Bool.eq_iff_iff, List.any_eq_true, List.any_eq_true]
  constructor
  · rintro ⟨i, hi, h⟩
    have hi := List.mem_range.mp hi
    refine ⟨bs[i], List.getElem_mem hi, ?_⟩
    simpa [List.getD_eq_getElem?_getD, hi] using h
  · rintro ⟨b, hb, h⟩
    obtain ⟨i, hi, rfl⟩ := List.mem_iff_getElem.mp hb
    refine ⟨i, List.mem_range.mpr hi, ?_⟩
    simpa [List.getD_eq_getElem?_getD, hi] using h
section
variable {X : Cx}
theorem truth_bls (bs : List Bool) {A : Around} : TruthOf X.prog X.w A (fun i v => (bs.map Value.bool).toArray[i]? = some v) (fun i => bs.getD i false) := fun i v s Q E hP hQ => by
  have : ∃ b, bs[i]? = some b ∧ v = .bool b := by
    have hP' : (bs.map Value.bool).toArray[i]? = some v := hP
    rw [List.getElem?_toArray, List.getElem?_map] at hP'
    cases hb : bs[i]? with
    | none => rw [hb] at hP'; cases hP'
    | some b => rw [hb] at hP'; exact ⟨b, rfl, (Option.some.inj hP').symm⟩
  obtain ⟨b, hb, rfl⟩ := this
  refine wpAny_truthy_bool ?_
  simpa [List.getD_eq_getElem?_getD, hb] using hQ
theorem call_allB (hc : X.calm = true) : CallR X (.builtin "all") (fun xs H Q => ∃ (D : Addr) (bs : List Bool), xs = [.ref D] ∧ SqL X.K H D (bs.map V.bl) ∧ Q (.bl (bs.all id)) H) := by
  intro pins s σ H xs us Q I r h
  obtain ⟨D, bs, rfl, hq, q⟩ := h
  obtain ⟨u, rfl, ru⟩ := r.one
  cases ru
  obtain ⟨its, rv, pl, _⟩ := I.list hq
  obtain rfl := vals_bls rv
  have hD : D < s.heap.objs.size := by obtain ⟨o, n, e, _⟩ := pl; exact Heap.lt_size e
  refine call_all_walk (wpAny_pyIter_list pl.isList ⟨s.heap.objs.size, _, _, _, _, _, fun i => bs.getD i false, rfl, Walks.list (A := X.A.in1) (I.ok.hd hc) _ D (Nat.ne_of_lt hD) (bs.map Value.bool).toArray,
    ⟨⟨_, Heap.get?_push_size _ rfl, rfl, rfl⟩, pl.isList.push _⟩, truth_bls bs, fun h' tk hk => ?_⟩)
  rw [List.size_toArray, List.length_map, range_all]
  exact ⟨.bl (bs.all id), H, I.kept fun b o e => hk b o (by simpa using Nat.ne_of_lt (Heap.lt_size e)) (Heap.get?_push_of_some _ e), rfl, q⟩
theorem call_anyB (hc : X.calm = true) : CallR X (.builtin "any") (fun xs H Q => ∃ (D : Addr) (bs : List Bool), xs = [.ref D] ∧ SqL X.K H D (bs.map V.bl) ∧ Q (.bl (bs.any id)) H) := by
  intro pins s σ H xs us Q I r h
  obtain ⟨D, bs, rfl, hq, q⟩ := h
  obtain ⟨u, rfl, ru⟩ := r.one
  cases ru
  obtain ⟨its, rv, pl, _⟩ := I.list hq
  obtain rfl := vals_bls rv
  have hD : D < s.heap.objs.size := by obtain ⟨o, n, e, _⟩ := pl; exact Heap.lt_size e
  refine call_any_walk (wpAny_pyIter_list pl.isList ⟨s.heap.objs.size, _, _, _, _, _, fun i => bs.getD i false, rfl, Walks.list (A := X.A.in1) (I.ok.hd hc) _ D (Nat.ne_of_lt hD) (bs.map Value.bool).toArray,
    ⟨⟨_, Heap.get?_push_size _ rfl, rfl, rfl⟩, pl.isList.push _⟩, truth_bls bs, fun h' tk hk => ?_⟩)
  rw [List.size_toArray, List.length_map, range_any]
  exact ⟨.bl (bs.any id), H, I.kept fun b o e => hk b o (by simpa using Nat.ne_of_lt (Heap.lt_size e)) (Heap.get?_push_of_some _ e), rfl, q⟩

/-! ### isinstance of plain values -/
end
end L2

set_option linter.all false
set_option maxRecDepth 100000
set_option maxHeartbeats 4000000
/-! zip of two texts. -/
namespace L2
open PySem PySem.Spec PyProof.Rows
open Builtin Builtin.Str

section
variable {prog : Program} {w : World} {A : Around} {E : Value → Shared → Prop} {s : Shared}
structure ZipFar (z TI TO i1 i2 : Addr) : Prop where
  TIz : TI ≠ z
  TOz : TO ≠ z
  i1z : i1 ≠ z
  i2z : i2 ≠ z
  TITO : TI ≠ TO
  TIi1 : TI ≠ i1
  TIi2 : TI ≠ i2
  TOi1 : TO ≠ i1
  TOi2 : TO ≠ i2
  i12 : i1 ≠ i2

theorem zipFar_new (n : Nat) : ZipFar (n + 4) (n + 2) (n + 3) n (n + 1) :=
  ⟨Nat.ne_of_lt (by omega), Nat.ne_of_lt (by omega), Nat.ne_of_lt (by omega), Nat.ne_of_lt (by omega), Nat.ne_of_lt (by omega), Nat.ne_of_gt (by omega), Nat.ne_of_gt (by omega), Nat.ne_of_gt (by omega), Nat.ne_of_gt (by omega), Nat.ne_of_lt (by omega)⟩
theorem zipD_item {z TI TO i1 i2 : Addr} {k n1 n2 : Nat} {P1 P2 : Nat → Value → Prop} {St1 St2 : Nat → Heap → Prop} {a b : Value} {Q : Value → Shared → Prop} (F : ZipFar z TI TO i1 i2)
    (D1 : Draws prog w A i1 [i1] n1 P1 St1) (D2 : Draws prog w A i2 [i2] n2 P2 St2)
    (hz : IsZip s.heap z TI TO .none) (hTI : IsPair s.heap TI (.ref i1) (.ref i2)) (hTO : IsPair s.heap TO a b)
    (h1 : St1 k s.heap) (h2 : St2 k s.heap) (hk1 : k < n1) (hk2 : k < n2)
    (hQ : ∀ x y h' tk, P1 k x → P2 k y → IsZip h' z TI TO (rawInt s.heap.objs.size) → IsPair h' TO x y → St1 (k + 1) h' → St2 (k + 1) h' → IsPair h' s.heap.objs.size x y → h'.objs.size = s.heap.objs.size + 1 →
      (∀ c o, c ≠ z → c ≠ TO → c ≠ i1 → c ≠ i2 → s.heap.get? c = some o → h'.get? c = some o) → Q (.ref s.heap.objs.size) { s with heap := h', toks := tk }) :
    wpAny (model prog w) A (Builtin.«zip.__next__» ⟨[.ref z], []⟩) (fun fin s' => ∃ v, fin = .done (.ret v) ∧ Q v s') E s := by
  have fr1 : ∀ i h h', St1 i h → (∀ o, h.get? i1 = some o → h'.get? i1 = some o) → St1 i h' := fun i h h' st hk => D1.frame i h h' st fun b hb o e => by
    have : b = i1 := by simpa using hb
    subst this; exact hk o e
  have fr2 : ∀ i h h', St2 i h → (∀ o, h.get? i2 = some o → h'.get? i2 = some o) → St2 i h' := fun i h h' st hk => D2.frame i h h' st fun b hb o e => by
    have : b = i2 := by simpa using hb
    subst this; exact hk o e
  show wpAny _ _ (field (.ref z) 2 >>= _) _ _ _
  refine wpAny_bind (wpAny_field hz rfl (x := .bool false) rfl ?_)
  show wpAny _ _ (field (.ref z) 3 >>= _) _ _ _
  refine wpAny_bind (wpAny_field hz rfl (x := .ref TI) rfl ?_)
  refine wpAny_bind (wpAny_seqItems hTI rfl ?_)
  show wpAny _ _ (Builtin.SmallTypes.ownedTupleIsFree (.ref z) >>= _) _ _ _
  refine wpAny_bind ?_
  unfold Builtin.SmallTypes.ownedTupleIsFree
  refine wpAny_bind (wpAny_field hz rfl (x := .none) rfl (wpAny_pure ?_))
  simp only [if_true]
  refine wpAny_bind (wpAny_rule ?_)
  refine wpAny_bind (wpAny_field hz rfl (x := .ref TO) rfl ?_)
  refine wpAny_bind (wpAny_setField_rec hz (by simp) fun h₁ hz₁ hs₁ => ?_)
  replace hz₁ : IsZip h₁ z TI TO .ellipsis := hz₁
  refine wpAny_bind ?_
  simp only [List.zipIdx_cons, List.zipIdx_nil, List.forIn_cons, List.forIn_nil]
  refine wpAny_bind (wpAny_bind (wpAny_onRaise ?_))
  show wpAny _ _ (Builtin.SmallTypes.nextOf (.ref i1) >>= _) _ _ _
  refine wpAny_bind (D1.item k _ _ _ hk1 (fr1 _ _ _ h1 fun o e => hs₁.extBut _ _ F.i1z e) fun x h₂ tk₂ hx h1₂ hs₂ => wpAny_pure ?_)
  replace hs₂ : Heap.SameBut i1 h₁ h₂ := hs₂
  have hTO₂ : IsPair h₂ TO a b := hs₂.extBut _ _ F.TOi1 (hs₁.extBut _ _ F.TOz hTO)
  refine wpAny_bind (wpAny_seqItems hTO₂ rfl ?_)
  refine wpAny_bind (wpAny_updateSeq_pair hTO₂ fun h₃ hTO₃ hs₃ => ?_)
  replace hTO₃ : IsPair h₃ TO x b := hTO₃
  replace hs₃ : Heap.SameBut TO h₂ h₃ := hs₃
  refine wpAny_bind (wpAny_letGo (wpAny_pure ?_))
  refine wpAny_bind (wpAny_bind (wpAny_onRaise ?_))
  show wpAny _ _ (Builtin.SmallTypes.nextOf (.ref i2) >>= _) _ _ _
  refine wpAny_bind (D2.item k _ _ _ hk2 (fr2 _ _ _ h2 fun o e => hs₃.extBut _ _ F.TOi2.symm (hs₂.extBut _ _ F.i12.symm (hs₁.extBut _ _ F.i2z e))) fun y h₄ tk₄ hy h2₄ hs₄ => wpAny_pure ?_)
  replace hs₄ : Heap.SameBut i2 h₃ h₄ := hs₄
  have hTO₄ : IsPair h₄ TO x b := hs₄.extBut _ _ F.TOi2 hTO₃
  refine wpAny_bind (wpAny_seqItems hTO₄ rfl ?_)
  refine wpAny_bind (wpAny_updateSeq_pair hTO₄ fun h₅ hTO₅ hs₅ => ?_)
  replace hTO₅ : IsPair h₅ TO x y := hTO₅
  replace hs₅ : Heap.SameBut TO h₄ h₅ := hs₅
  refine wpAny_bind (wpAny_letGo (wpAny_pure (wpAny_pure ?_)))
  refine wpAny_bind (wpAny_seqItems hTO₅ rfl ?_)
  refine wpAny_bind (wpAny_newTuple ?_)
  have hsz : h₅.objs.size = s.heap.objs.size := by rw [hs₅.1, hs₄.1, hs₃.1, hs₂.1, hs₁.1]
  have hz₅ : IsZip h₅ z TI TO .ellipsis := hs₅.extBut _ _ F.TOz.symm (hs₄.extBut _ _ F.i2z.symm (hs₃.extBut _ _ F.TOz.symm (hs₂.extBut _ _ F.i1z.symm hz₁)))
  have hk₅ : ∀ c o, c ≠ z → c ≠ TO → c ≠ i1 → c ≠ i2 → s.heap.get? c = some o → h₅.get? c = some o := fun c o c1 c2 c3 c4 e =>
    hs₅.extBut _ _ c2 (hs₄.extBut _ _ c4 (hs₃.extBut _ _ c2 (hs₂.extBut _ _ c3 (hs₁.extBut _ _ c1 e))))
  have h1₅ : St1 (k + 1) h₅ := fr1 _ _ _ h1₂ fun o e => hs₅.extBut _ _ F.TOi1.symm (hs₄.extBut _ _ F.i12 (hs₃.extBut _ _ F.TOi1.symm e))
  have h2₅ : St2 (k + 1) h₅ := fr2 _ _ _ h2₄ fun o e => hs₅.extBut _ _ F.TOi2.symm e
  have hzlt : z < h₅.objs.size := Heap.lt_size hz₅
  show wpAny _ _ (Builtin.SmallTypes.ownedTupleHandOut (.ref z) (.ref h₅.objs.size) >>= _) _ _ _
  refine wpAny_bind ?_
  unfold Builtin.SmallTypes.ownedTupleHandOut
  have hz₆ : IsZip (h₅.push { cls := .type "tuple", data := .seq #[x, y] }) z TI TO .ellipsis := Heap.get?_push_of_some _ hz₅
  refine wpAny_bind (wpAny_setField_rec hz₆ (by simp) fun h₇ hz₇ hs₇ => ?_)
  replace hz₇ : IsZip h₇ z TI TO (rawInt h₅.objs.size) := hz₇
  replace hs₇ : Heap.SameBut z (h₅.push { cls := .type "tuple", data := .seq #[x, y] }) h₇ := hs₇
  refine wpAny_setField_rec hz₇ (by simp) fun h₈ hz₈ hs₈ => ?_
  replace hz₈ : IsZip h₈ z TI TO (rawInt h₅.objs.size) := hz₈
  replace hs₈ : Heap.SameBut z h₇ h₈ := hs₈
  have up : ∀ c o, c ≠ z → h₅.get? c = some o → h₈.get? c = some o := fun c o c1 e => hs₈.extBut _ _ c1 (hs₇.extBut _ _ c1 (Heap.get?_push_of_some _ e))
  have hT₈ : IsPair h₈ h₅.objs.size x y := hs₈.extBut _ _ (Nat.ne_of_gt hzlt) (hs₇.extBut _ _ (Nat.ne_of_gt hzlt) (Heap.get?_push_size _ rfl))
  have hz8 : h₈.objs.size = h₅.objs.size + 1 := by rw [hs₈.1, hs₇.1, Heap.size_push]
  rw [hsz] at hz₈ hT₈ hz8
  refine wpAny_pure ⟨_, rfl, ?_⟩
  show Q (.ref h₅.objs.size) _
  rw [hsz]
  exact hQ x y h₈ tk₄ hx hy hz₈ (up _ _ F.TOz hTO₅) (fr1 _ _ _ h1₅ fun o e => up _ o F.i1z e) (fr2 _ _ _ h2₅ fun o e => up _ o F.i2z e) hT₈ hz8 fun c o c1 c2 c3 c4 e => up c o c1 (hk₅ c o c1 c2 c3 c4 e)

theorem zipD_end {z TI TO i1 i2 : Addr} {k n1 n2 : Nat} {P1 P2 : Nat → Value → Prop} {St1 St2 : Nat → Heap → Prop} {a b : Value} {Q : Fin → Shared → Prop} (F : ZipFar z TI TO i1 i2)
    (D1 : Draws prog w A i1 [i1] n1 P1 St1) (D2 : Draws prog w A i2 [i2] n2 P2 St2)
    (hz : IsZip s.heap z TI TO .none) (hTI : IsPair s.heap TI (.ref i1) (.ref i2)) (hTO : IsPair s.heap TO a b)
    (h1 : St1 k s.heap) (h2 : St2 k s.heap) (hend : k = n1 ∨ (k < n1 ∧ k = n2))
    (hE : ∀ h' tk e, (∀ c o, c ≠ z → c ≠ TO → c ≠ i1 → c ≠ i2 → s.heap.get? c = some o → h'.get? c = some o) → (∃ o, h'.get? e = some o ∧ o.cls = .type "StopIteration") → E (.ref e) { s with heap := h', toks := tk }) :
    wpAny (model prog w) A (Builtin.«zip.__next__» ⟨[.ref z], []⟩) Q E s := by
  have fr1 : ∀ i h h', St1 i h → (∀ o, h.get? i1 = some o → h'.get? i1 = some o) → St1 i h' := fun i h h' st hk => D1.frame i h h' st fun b hb o e => by
    have : b = i1 := by simpa using hb
    subst this; exact hk o e
  have fr2 : ∀ i h h', St2 i h → (∀ o, h.get? i2 = some o → h'.get? i2 = some o) → St2 i h' := fun i h h' st hk => D2.frame i h h' st fun b hb o e => by
    have : b = i2 := by simpa using hb
    subst this; exact hk o e
  show wpAny _ _ (field (.ref z) 2 >>= _) _ _ _
  refine wpAny_bind (wpAny_field hz rfl (x := .bool false) rfl ?_)
  show wpAny _ _ (field (.ref z) 3 >>= _) _ _ _
  refine wpAny_bind (wpAny_field hz rfl (x := .ref TI) rfl ?_)
  refine wpAny_bind (wpAny_seqItems hTI rfl ?_)
  show wpAny _ _ (Builtin.SmallTypes.ownedTupleIsFree (.ref z) >>= _) _ _ _
  refine wpAny_bind ?_
  unfold Builtin.SmallTypes.ownedTupleIsFree
  refine wpAny_bind (wpAny_field hz rfl (x := .none) rfl (wpAny_pure ?_))
  simp only [if_true]
  refine wpAny_bind (wpAny_rule ?_)
  refine wpAny_bind (wpAny_field hz rfl (x := .ref TO) rfl ?_)
  refine wpAny_bind (wpAny_setField_rec hz (by simp) fun h₁ hz₁ hs₁ => ?_)
  replace hz₁ : IsZip h₁ z TI TO .ellipsis := hz₁
  refine wpAny_bind ?_
  simp only [List.zipIdx_cons, List.zipIdx_nil, List.forIn_cons, List.forIn_nil]
  refine wpAny_bind (wpAny_bind (wpAny_onRaise ?_))
  show wpAny _ _ (Builtin.SmallTypes.nextOf (.ref i1) >>= _) _ _ _
  rcases hend with hk | ⟨hk1, hk⟩
  · subst hk
    refine wpAny_bind (D1.done _ _ _ (fr1 _ _ _ h1 fun o e => hs₁.extBut _ _ F.i1z e) fun h₂ e hs₂ he => ?_)
    obtain ⟨oe, hoe, hce⟩ := he
    replace hs₂ : Heap.ExtBut i1 h₁ h₂ := hs₂
    have hz₂ : IsZip h₂ z TI TO .ellipsis := hs₂ _ _ F.i1z.symm hz₁
    have hez : e ≠ z := fun x => by subst x; rw [hz₂] at hoe; cases hoe; simp at hce
    exact wpAny_setField_rec hz₂ (by simp) fun h₃ _ hs₃ => hE h₃ _ e (fun c o c1 _ c3 _ x => hs₃.extBut _ _ c1 (hs₂ _ _ c3 (hs₁.extBut _ _ c1 x))) ⟨oe, hs₃.extBut _ _ hez hoe, hce⟩
  · subst hk
    refine wpAny_bind (D1.item k _ _ _ hk1 (fr1 _ _ _ h1 fun o e => hs₁.extBut _ _ F.i1z e) fun x h₂ tk₂ hx h1₂ hs₂ => wpAny_pure ?_)
    replace hs₂ : Heap.SameBut i1 h₁ h₂ := hs₂
    have hTO₂ : IsPair h₂ TO a b := hs₂.extBut _ _ F.TOi1 (hs₁.extBut _ _ F.TOz hTO)
    refine wpAny_bind (wpAny_seqItems hTO₂ rfl ?_)
    refine wpAny_bind (wpAny_updateSeq_pair hTO₂ fun h₃ hTO₃ hs₃ => ?_)
    replace hs₃ : Heap.SameBut TO h₂ h₃ := hs₃
    refine wpAny_bind (wpAny_letGo (wpAny_pure ?_))
    refine wpAny_bind (wpAny_bind (wpAny_onRaise ?_))
    show wpAny _ _ (Builtin.SmallTypes.nextOf (.ref i2) >>= _) _ _ _
    refine wpAny_bind (D2.done _ _ _ (fr2 _ _ _ h2 fun o e => hs₃.extBut _ _ F.TOi2.symm (hs₂.extBut _ _ F.i12.symm (hs₁.extBut _ _ F.i2z e))) fun h₄ e hs₄ he => ?_)
    obtain ⟨oe, hoe, hce⟩ := he
    replace hs₄ : Heap.ExtBut i2 h₃ h₄ := hs₄
    have hz₄ : IsZip h₄ z TI TO .ellipsis := hs₄ _ _ F.i2z.symm (hs₃.extBut _ _ F.TOz.symm (hs₂.extBut _ _ F.i1z.symm hz₁))
    have hez : e ≠ z := fun x => by subst x; rw [hz₄] at hoe; cases hoe; simp at hce
    exact wpAny_setField_rec hz₄ (by simp) fun h₅ _ hs₅ => hE h₅ _ e (fun c o c1 c2 c3 c4 x => hs₅.extBut _ _ c1 (hs₄ _ _ c4 (hs₃.extBut _ _ c2 (hs₂.extBut _ _ c3 (hs₁.extBut _ _ c1 x))))) ⟨oe, hs₅.extBut _ _ hez hoe, hce⟩

theorem drawsTxt {it : Addr} {l : List Nat} {t : Tok} {nm : String} (hh : A.handled = none) (hn : nm = "str_ascii_iterator" ∨ nm = "str_iterator") :
    Draws prog w A it [it] l.length (fun i v => ∃ c u, l[i]? = some c ∧ v = .str ⟨#[c]⟩ u) (fun i h => h.IsStrIter it nm ⟨l.toArray⟩ t i) := by
  rcases hn with rfl | rfl
  · have D := Draws.strAscii (prog := prog) (w := w) hh it ⟨l.toArray⟩ t
    simpa using D
  · have D := Draws.strWide (prog := prog) (w := w) hh it ⟨l.toArray⟩ t
    simpa using D
end

/-- untracked records of ours (an iterator's) have turned -/
theorem Inv.turnedN {X : Cx} {pins : List (Addr × Obj)} {σ : St} {H : Hp} {s : Shared} {h' : Heap} {t' : Nat} {ch : List Addr} (I : Inv X pins σ H s) (k : ∀ b o, b ∉ ch → s.heap.get? b = some o → h'.get? b = some o) (hf : ∀ b ∈ ch, FpOk X pins H b) :
    Inv X pins σ H { s with heap := h', toks := t' } := by
  have nch : ∀ b u, H b = some u → b ∉ ch := fun b u e z => by rw [(hf b z).1] at e; cases e
  refine I.step (g' := s.gens) (d' := s.drawn) (ch := ch) (fun b hb => ?_) (fun b o _ _ hc e _ => k b o hc e) (fun b o _ _ hc e _ => ⟨o.slots, k b o hc e⟩) (fun _ _ _ _ n => n)
    (fun b o hc e => ⟨o, k b o hc e⟩) (fun _ _ e => e) (fun _ _ _ e => e) (fun b ps e => ⟨#[], by rw [e]; simp⟩) (fun m hm => ?_) (fun b u e => ?_) I.bare
  · obtain ⟨f0, f1, f2, f3, f4, f5⟩ := hf b hb
    exact ⟨f3, f1, f4, f5⟩
  · obtain ⟨o, es, ep, ho, r⟩ := hm
    exact ⟨o, es, ep, k _ o (fun z => (hf _ z).2.1 rfl) ho, r⟩
  · refine (I.hok b u e).stay (fun c v hc q => k c v ?_ q) (fun _ q => q) fun _ _ q => q
    rcases hc with z | z
    · rw [z]; exact nch b u e
    · exact nch c _ z

/-- pairs of signs: a new tuple each -/
def Itz (l1 l2 : List Nat) : It :=
  ⟨fun i _ => i < l1.length ∧ i < l2.length, fun i H x H' => ∃ p c d, H p = none ∧ l1[i]? = some c ∧ l2[i]? = some d ∧ x = .ref p ∧ H' = upd H p (.tup [T [c], T [d]]), fun i _ => i = l1.length ∨ (i < l1.length ∧ i = l2.length)⟩
theorem turn_zipT {P : Program} {w : World} {K : PySem.W.Frag} {es : List Expr} {k : Nat} {pos : Pos} {z TI TO i1 i2 : Addr} {l1 l2 : List Nat} {t1 t2 : Tok} {n1 n2 : String} (F : ZipFar z TI TO i1 i2)
    (hn1 : n1 = "str_ascii_iterator" ∨ n1 = "str_iterator") (hn2 : n2 = "str_ascii_iterator" ∨ n2 = "str_iterator") :
    Turn P w K (.Tuple es k pos) (Itz l1 l2) [z, TI, TO, i1, i2] z (fun i h => IsZip h z TI TO .none ∧ IsPair h TI (.ref i1) (.ref i2) ∧ (∃ a b, IsPair h TO a b) ∧ h.IsStrIter i1 n1 ⟨l1.toArray⟩ t1 i ∧ h.IsStrIter i2 n2 ⟨l2.toArray⟩ t2 i) where
  mem := by simp
  obj := fun i h st b hb => by
    obtain ⟨hz, hTI, ⟨a, b', hTO⟩, ⟨o1, e1, c1, d1⟩, o2, e2, c2, d2⟩ := st
    simp only [List.mem_cons, List.not_mem_nil, or_false] at hb
    rcases hb with rfl | rfl | rfl | rfl | rfl
    · exact ⟨_, hz, fun v q => by cases q⟩
    · exact ⟨_, hTI, fun v q => by cases q⟩
    · exact ⟨_, hTO, fun v q => by cases q⟩
    · exact ⟨o1, e1, fun v q => by rw [d1] at q; cases q⟩
    · exact ⟨o2, e2, fun v q => by rw [d2] at q; cases q⟩
  keep := fun i h h' st kk => by
    obtain ⟨hz, hTI, ⟨a, b', hTO⟩, ⟨o1, e1, r1⟩, o2, e2, r2⟩ := st
    exact ⟨kk z (by simp) _ hz, kk TI (by simp) _ hTI, ⟨a, b', kk TO (by simp) _ hTO⟩, ⟨o1, kk i1 (by simp) _ e1, r1⟩, o2, kk i2 (by simp) _ e2, r2⟩
  item := by
    intro X hP hw hK hc i pins s σ H E I hf st hg
    subst hP hw hK
    obtain ⟨hz, hTI, ⟨a, b, hTO⟩, h1, h2⟩ := st
    have hh : X.A.in1.handled = none := I.ok.hd hc
    have hT : s.TypeIs (.ref z) "zip" := ⟨_, hz, rfl⟩
    have D1 := drawsTxt (prog := X.prog) (w := X.w) (it := i1) (l := l1) (t := t1) hh hn1
    have D2 := drawsTxt (prog := X.prog) (w := X.w) (it := i2) (l := l2) (t := t2) hh hn2
    unfold pyNext
    refine wpAny_bind (wpAny_attempt (wpAny_callSpecial?_slot (name := Str.ofString "__next__") hT PySem.F.slot_zip_next (wpAny_call_entry PySem.F.slot_zip_next hT PySem.F.entry_zip_next
      (zipD_item F D1 D2 hz hTI hTO h1 h2 hg.1 hg.2 fun x y h' tk hx hy a1 a2 a3 a4 a5 a6 kp => wpAny_pure ?_) (PySem.F.args_zip_next_1 _))))
    obtain ⟨c, u, hc1, rfl⟩ := hx
    obtain ⟨d, v, hd1, rfl⟩ := hy
    refine ⟨_, rfl, ?_⟩
    refine wpAny_letOwnedTupleGo_zip (s := { s with heap := h', toks := tk }) a1 fun h2' hz' hs' => ?_
    replace hs' : Heap.SameBut z h' h2' := hs'
    have zlt : z < s.heap.objs.size := Heap.lt_size hz
    have far : ∀ q ∈ [z, TI, TO, i1, i2], q < s.heap.objs.size := by
      intro q hq
      obtain ⟨o1, e1, _⟩ := h1
      obtain ⟨o2, e2, _⟩ := h2
      simp only [List.mem_cons, List.not_mem_nil, or_false] at hq
      rcases hq with rfl | rfl | rfl | rfl | rfl
      · exact zlt
      · exact Heap.lt_size hTI
      · exact Heap.lt_size hTO
      · exact Heap.lt_size e1
      · exact Heap.lt_size e2
    have fz := hf z (by simp)
    have fTO := hf TO (by simp)
    have f1 := hf i1 (by simp)
    have f2 := hf i2 (by simp)
    -- the four records turn, then the tuple is laid
    have I1 : Inv X pins σ H { s with heap := s.heap.push { cls := .type "tuple", data := .seq #[.str ⟨#[c]⟩ u, .str ⟨#[d]⟩ v] }, toks := tk } := I.kept fun b o e => Heap.get?_push_of_some _ e
    have keepAll : ∀ b o, b ≠ z → b ≠ TO → b ≠ i1 → b ≠ i2 → s.heap.get? b = some o → h2'.get? b = some o := fun b o b1 b2 b3 b4 e => hs'.extBut _ _ b1 (kp b o b1 b2 b3 b4 e)
    have hnew : H s.heap.objs.size = none := I.hok.fresh (Nat.le_refl _)
    have Tz : s.heap.objs.size ≠ z := Nat.ne_of_gt zlt
    have ht2 : h2'.get? s.heap.objs.size = some { cls := .type "tuple", data := .seq #[.str ⟨#[c]⟩ u, .str ⟨#[d]⟩ v] } := hs'.extBut _ _ Tz a5
    have I2 : Inv X pins σ (upd H s.heap.objs.size (.tup [T [c], T [d]])) { s with heap := h2', toks := tk } := by
      have there : ∀ q ∈ [z, TO, i1, i2], ∃ o', h2'.get? q = some o' := by
        intro q hq
        obtain ⟨o1, e1, _⟩ := a3
        obtain ⟨o2, e2, _⟩ := a4
        simp only [List.mem_cons, List.not_mem_nil, or_false] at hq
        rcases hq with rfl | rfl | rfl | rfl
        · exact ⟨_, hz'⟩
        · exact ⟨_, hs'.extBut _ _ F.TOz a2⟩
        · exact ⟨_, hs'.extBut _ _ F.i1z e1⟩
        · exact ⟨_, hs'.extBut _ _ F.i2z e2⟩
      have nch : ∀ b, b ∉ [z, TO, i1, i2] → b ≠ z ∧ b ≠ TO ∧ b ≠ i1 ∧ b ≠ i2 := fun b hb => by
        simp only [List.mem_cons, List.not_mem_nil, or_false, not_or] at hb
        exact hb
      have trk : ∀ b u', H b = some u' → b ≠ z ∧ b ≠ TO ∧ b ≠ i1 ∧ b ≠ i2 := fun b u' e =>
        ⟨fun q => (by rw [q, fz.1] at e; cases e), fun q => (by rw [q, fTO.1] at e; cases e), fun q => (by rw [q, f1.1] at e; cases e), fun q => (by rw [q, f2.1] at e; cases e)⟩
      have okH : HOk X.prog X.w (upd H s.heap.objs.size (.tup [T [c], T [d]])) h2' := fun b u' e => by
        by_cases hb : b = s.heap.objs.size
        · subst hb
          rw [upd_same] at e
          cases e
          exact ⟨(show 2 ≤ sizeLine by decide), [.str ⟨#[c]⟩ u, .str ⟨#[d]⟩ v], .cons ⟨u, rfl⟩ (.cons ⟨v, rfl⟩ .nil), ⟨_, ht2, rfl, _, rfl⟩⟩
        · rw [upd_ne hb] at e
          have hx := I.hok b u' e
          refine hx.stay (fun q o hq e2 => ?_) (fun q e2 => ?_) (fun q xs e2 => ?_)
          · rcases hq with rfl | hq
            · obtain ⟨b1, b2, b3, b4⟩ := trk q _ e
              exact keepAll q o b1 b2 b3 b4 e2
            · obtain ⟨b1, b2, b3, b4⟩ := trk q _ hq
              exact keepAll q o b1 b2 b3 b4 e2
          · rw [upd_ne (ne_of_none e2 hnew)]; exact e2
          · rw [upd_ne (ne_of_none e2 hnew)]; exact e2
      refine I.step (g' := s.gens) (d' := s.drawn) (ch := [z, TO, i1, i2]) (fun b hb => ?_) (fun b o _ _ hcb e n => ?_) (fun b o _ _ hcb e n => ?_) (fun b o hcb e n => ?_) (fun b o hcb e => ?_) (fun b xs e => ?_) (fun b o u' e => ?_) (fun b ps e => ?_) (fun m hm => ?_) okH I.bare
      · simp only [List.mem_cons, List.not_mem_nil, or_false] at hb
        rcases hb with rfl | rfl | rfl | rfl
        · exact ⟨fz.2.2.2.1, fz.2.1, fz.2.2.2.2.1, fz.2.2.2.2.2⟩
        · exact ⟨fTO.2.2.2.1, fTO.2.1, fTO.2.2.2.2.1, fTO.2.2.2.2.2⟩
        · exact ⟨f1.2.2.2.1, f1.2.1, f1.2.2.2.2.1, f1.2.2.2.2.2⟩
        · exact ⟨f2.2.2.2.1, f2.2.1, f2.2.2.2.2.1, f2.2.2.2.2.2⟩
      · obtain ⟨b1, b2, b3, b4⟩ := nch b hcb
        exact keepAll b o b1 b2 b3 b4 e
      · obtain ⟨b1, b2, b3, b4⟩ := nch b hcb
        exact ⟨o.slots, keepAll b o b1 b2 b3 b4 e⟩
      · rw [upd_ne (Nat.ne_of_lt (Heap.lt_size e))]; exact n
      · obtain ⟨b1, b2, b3, b4⟩ := nch b hcb
        exact ⟨o, keepAll b o b1 b2 b3 b4 e⟩
      · rw [upd_ne (ne_of_none e hnew)]; exact e
      · rw [upd_ne (ne_of_none e hnew)]; exact e
      · exact ⟨#[], by rw [upd_ne (ne_of_none e hnew), e]; simp⟩
      · obtain ⟨o, es', ep, ho, r⟩ := hm
        exact ⟨o, es', ep, keepAll _ o fz.2.1.symm fTO.2.1.symm f1.2.1.symm f2.2.1.symm ho, r⟩
    refine ⟨.ref s.heap.objs.size, _, I2, rfl, ⟨_, c, d, hnew, hc1, hd1, rfl, rfl⟩, ⟨hz', hs'.extBut _ _ F.TIz (kp _ _ F.TIz F.TITO F.TIi1 F.TIi2 hTI), ⟨_, _, hs'.extBut _ _ F.TOz a2⟩, ?_, ?_⟩, fun b hb => ?_⟩
    · obtain ⟨o, e, r⟩ := a3; exact ⟨o, hs'.extBut _ _ F.i1z e, r⟩
    · obtain ⟨o, e, r⟩ := a4; exact ⟨o, hs'.extBut _ _ F.i2z e, r⟩
    · rw [upd_ne (Nat.ne_of_lt (far b hb))]; exact (hf b hb).1
  done := by
    intro X hP hw hK hc i pins s σ H E I hf st hg
    subst hP hw hK
    obtain ⟨hz, hTI, ⟨a, b, hTO⟩, h1, h2⟩ := st
    have hh : X.A.in1.handled = none := I.ok.hd hc
    have hT : s.TypeIs (.ref z) "zip" := ⟨_, hz, rfl⟩
    have D1 := drawsTxt (prog := X.prog) (w := X.w) (it := i1) (l := l1) (t := t1) hh hn1
    have D2 := drawsTxt (prog := X.prog) (w := X.w) (it := i2) (l := l2) (t := t2) hh hn2
    unfold pyNext
    refine wpAny_bind (wpAny_attempt (wpAny_callSpecial?_slot (name := Str.ofString "__next__") hT PySem.F.slot_zip_next (wpAny_call_entry PySem.F.slot_zip_next hT PySem.F.entry_zip_next
      (zipD_end F D1 D2 hz hTI hTO h1 h2 hg fun h' tk e kp he => ?_) (PySem.F.args_zip_next_1 _))))
    obtain ⟨o, ho, hc'⟩ := he
    refine wpAny_bind (wpAny_isInstance (T := "StopIteration") (b := true) ⟨o, ho, hc'⟩ isSubtype_stop ?_)
    refine wpAny_pure ⟨rfl, ?_⟩
    refine I.turnedN (ch := [z, TO, i1, i2]) (fun b o hb q => ?_) fun b hb => hf b ?_
    · simp only [List.mem_cons, List.not_mem_nil, or_false, not_or] at hb
      exact kp b o hb.1 hb.2.1 hb.2.2.1 hb.2.2.2 q
    · simp only [List.mem_cons, List.not_mem_nil, or_false] at hb ⊢
      rcases hb with q | q | q | q
      · exact .inl q
      · exact .inr (.inr (.inl q))
      · exact .inr (.inr (.inr (.inl q)))
      · exact .inr (.inr (.inr (.inr q)))
  self := fun _ _ _ _ _ st h => wpAny_pyIter_zip st.1 h

/-! ### zip(t, u) is made -/
/-- the name of a text's iterator -/
def itName (l : List Nat) : String := if (⟨l.toArray⟩ : Str).cps.all (· < 128) = true then "str_ascii_iterator" else "str_iterator"
theorem itName_or (l : List Nat) : itName l = "str_ascii_iterator" ∨ itName l = "str_iterator" := by
  unfold itName; split
  · exact .inl rfl
  · exact .inr rfl
theorem iter_txt {prog : Program} {w : World} {A : Around} {E : Value → Shared → Prop} {hp : Heap} {g : Array GenState} {d : Drawn} {tk : Nat} {os : OsState} {l : List Nat} {t : Tok} {Q : Value → Shared → Prop}
    (h : Q (.ref hp.objs.size) ⟨hp.push { cls := .type (itName l), data := .fields #[.str ⟨l.toArray⟩ t, .int 0 0] }, g, d, tk, os⟩) : wpAny (model prog w) A (pyIter (.str ⟨l.toArray⟩ t)) Q E ⟨hp, g, d, tk, os⟩ := by
  cases ha : (⟨l.toArray⟩ : Str).cps.all (· < 128) with
  | true =>
    have e : itName l = "str_ascii_iterator" := by unfold itName; rw [if_pos ha]
    rw [e] at h
    exact wpAny_pyIter_ascii (s := ⟨hp, g, d, tk, os⟩) ha h
  | false =>
    have e : itName l = "str_iterator" := by unfold itName; rw [if_neg (by rw [ha]; exact Bool.false_ne_true)]
    rw [e] at h
    exact wpAny_pyIter_wide (s := ⟨hp, g, d, tk, os⟩) ha h
abbrev zipT1 (h : Heap) (l1 : List Nat) (t1 : Tok) : Heap := h.push { cls := .type (itName l1), data := .fields #[.str ⟨l1.toArray⟩ t1, .int 0 0] }
abbrev zipT2 (h : Heap) (l1 l2 : List Nat) (t1 t2 : Tok) : Heap := (zipT1 h l1 t1).push { cls := .type (itName l2), data := .fields #[.str ⟨l2.toArray⟩ t2, .int 0 0] }
abbrev zipT3 (h : Heap) (l1 l2 : List Nat) (t1 t2 : Tok) : Heap := (zipT2 h l1 l2 t1 t2).push { cls := .type "tuple", data := .seq #[.ref h.objs.size, .ref (zipT1 h l1 t1).objs.size] }
abbrev zipT4 (h : Heap) (l1 l2 : List Nat) (t1 t2 : Tok) : Heap := (zipT3 h l1 l2 t1 t2).push { cls := .type "tuple", data := .seq #[.none, .none] }
abbrev zipT5 (h : Heap) (l1 l2 : List Nat) (t1 t2 : Tok) : Heap := (zipT4 h l1 l2 t1 t2).push { cls := .type "zip", data := .fields #[.none, .bool false, .bool false, .ref (zipT2 h l1 l2 t1 t2).objs.size, .ref (zipT3 h l1 l2 t1 t2).objs.size] }
theorem meets_zipT (l1 l2 : List Nat) (t1 t2 : Tok) :
    Meets (Builtin.«zip.__new__» ⟨[.type "zip", .str ⟨l1.toArray⟩ t1, .str ⟨l2.toArray⟩ t2], []⟩) (fun _ R s => R (.ok (.ret (.ref (zipT4 s.heap l1 l2 t1 t2).objs.size))) { s with heap := zipT5 s.heap l1 l2 t1 t2 }) :=
  .of_wp fun prog w A R s h => by
    obtain ⟨hp, g, d, tk, os⟩ := s
    have hsub := sub_zip
    wp_walk using iter_txt (l := l1) (t := t1), iter_txt (l := l2) (t := t2)
    exact ⟨_, rfl, h⟩
theorem call_zipT {prog : Program} {w : World} {A : Around} {E : Value → Shared → Prop} {s : Shared} {l1 l2 : List Nat} {t1 t2 : Tok} {Q : Value → Shared → Prop}
    (h : ∀ h', IsZip h' (s.heap.objs.size + 4) (s.heap.objs.size + 2) (s.heap.objs.size + 3) .none → IsPair h' (s.heap.objs.size + 2) (.ref s.heap.objs.size) (.ref (s.heap.objs.size + 1)) →
      IsPair h' (s.heap.objs.size + 3) .none .none → h'.IsStrIter s.heap.objs.size (itName l1) ⟨l1.toArray⟩ t1 0 → h'.IsStrIter (s.heap.objs.size + 1) (itName l2) ⟨l2.toArray⟩ t2 0 →
      (∀ c o, s.heap.get? c = some o → h'.get? c = some o) → Q (.ref (s.heap.objs.size + 4)) { s with heap := h' }) :
    wpAny (model prog w) A (call (.type "zip") [.str ⟨l1.toArray⟩ t1, .str ⟨l2.toArray⟩ t2]) Q E s := by
  refine callType_new F.called_zip (by decide) (F.typeCall_zip_2 _ _) (F.newCall_zip_2 _ _) (fun obj => F.args_object_init_3 obj _ _) F.entry_zip_new (meets_zipT l1 l2 t1 t2) ?_
  have z1 : (zipT1 s.heap l1 t1).objs.size = s.heap.objs.size + 1 := Heap.size_push ..
  have z2 : (zipT2 s.heap l1 l2 t1 t2).objs.size = s.heap.objs.size + 2 := by rw [Heap.size_push, z1]
  have z3 : (zipT3 s.heap l1 l2 t1 t2).objs.size = s.heap.objs.size + 3 := by rw [Heap.size_push, z2]
  have z4 : (zipT4 s.heap l1 l2 t1 t2).objs.size = s.heap.objs.size + 4 := by rw [Heap.size_push, z3]
  have g5 : (zipT5 s.heap l1 l2 t1 t2).get? (zipT4 s.heap l1 l2 t1 t2).objs.size = some _ := Heap.get?_push_size _ rfl
  have g4 : (zipT5 s.heap l1 l2 t1 t2).get? (zipT3 s.heap l1 l2 t1 t2).objs.size = some _ := Heap.get?_push_of_some _ (Heap.get?_push_size _ rfl)
  have g3 : (zipT5 s.heap l1 l2 t1 t2).get? (zipT2 s.heap l1 l2 t1 t2).objs.size = some _ := Heap.get?_push_of_some _ (Heap.get?_push_of_some _ (Heap.get?_push_size _ rfl))
  have g2 : (zipT5 s.heap l1 l2 t1 t2).get? (zipT1 s.heap l1 t1).objs.size = some _ := Heap.get?_push_of_some _ (Heap.get?_push_of_some _ (Heap.get?_push_of_some _ (Heap.get?_push_size _ rfl)))
  have g1 : (zipT5 s.heap l1 l2 t1 t2).get? s.heap.objs.size = some _ := Heap.get?_push_of_some _ (Heap.get?_push_of_some _ (Heap.get?_push_of_some _ (Heap.get?_push_of_some _ (Heap.get?_push_size _ rfl))))
  show _ ∧ _
  rw [z2, z3, z4] at g5
  rw [z1, z2] at g3
  rw [z3] at g4
  rw [z1] at g2
  rw [z4]
  exact ⟨⟨_, g5, rfl⟩, h _ g5 g3 g4 ⟨_, g1, rfl, rfl⟩ ⟨_, g2, rfl, rfl⟩ fun c o x =>
    Heap.get?_push_of_some _ (Heap.get?_push_of_some _ (Heap.get?_push_of_some _ (Heap.get?_push_of_some _ (Heap.get?_push_of_some _ x))))⟩
section
variable {X : Cx} {es : List Expr} {k : Nat} {tpos : Pos}
def iZipT (ta : TA) : TI := fun σ H R => ta σ H fun vs H1 => ∃ l1 l2, vs = [T l1, T l2] ∧ R (Itz l1 l2) H1
theorem pi_zipT {a b : Expr} {ta : TA} {p pos : Pos} (hg : Gl X "zip") (hm : X.mg "zip" = none) (ha : PA X [a, b] ta) (hv : bootBuiltins "zip" = some (.type "zip") := by decide +kernel) (hs : starEach [a, b] X.env = [(false, eval a X.env), (false, eval b X.env)] := by rfl) (hs2 : starEach [b] X.env = [(false, eval b X.env)] := by rfl) :
    PI X (.Tuple es k tpos) (.Call (.Name "zip" p) [a, b] [] pos) (iZipT ta) := by
  intro pins s σ H R I h
  refine Call_ (ld_blt I hg hm hv (PyProof.Rows.callWith_type1 (thn (ha pos pins s σ H _ I h) fun us s1 ⟨vs, H1, I1, r1, q1⟩ => ?_) (by rw [hs, hs2]) (by rw [hs2]; rfl)))
  obtain ⟨l1, l2, e, q⟩ := q1
  subst e
  obtain ⟨u, v, rfl, ru, rv⟩ := r1.two
  obtain ⟨t1, rfl⟩ := ru
  obtain ⟨t2, rfl⟩ := rv
  refine call_zipT fun h' a1 a2 a3 a4 a5 kp => ?_
  have far : ZipFar (s1.heap.objs.size + 4) (s1.heap.objs.size + 2) (s1.heap.objs.size + 3) s1.heap.objs.size (s1.heap.objs.size + 1) := zipFar_new _
  have I2 : Inv X pins σ H1 { s1 with heap := h' } := I1.kept (t' := s1.toks) kp
  refine wpAny_pyIter_zip a1 ⟨s1.heap.objs.size + 4, [s1.heap.objs.size + 4, s1.heap.objs.size + 2, s1.heap.objs.size + 3, s1.heap.objs.size, s1.heap.objs.size + 1], _, _, H1, rfl, I2, turn_zipT (t1 := t1) (t2 := t2) far (itName_or l1) (itName_or l2), ⟨a1, a2, ⟨_, _, a3⟩, a4, a5⟩, fun b hb => ?_, q⟩
  have hb' : s1.heap.objs.size ≤ b := by
    simp only [List.mem_cons, List.not_mem_nil, or_false] at hb
    rcases hb with rfl | rfl | rfl | rfl | rfl
    · exact Nat.le_add_right _ _
    · exact Nat.le_add_right _ _
    · exact Nat.le_add_right _ _
    · exact Nat.le_refl _
    · exact Nat.le_add_right _ _
  exact I1.fpOk hb' (I1.hok.fresh hb')
end
end L2

set_option linter.all false
set_option maxRecDepth 100000
set_option maxHeartbeats 4000000
/-! a comprehension over zip. -/
namespace L2
open PySem PySem.Spec PyProof.Rows
/-- [e for c, d in zip(t, u)] -/
theorem comp_zipT {K : PySem.W.Frag} {H : Hp} {l1 l2 : List Nat} {rest : St} {te : TE} {Q : VK} (f : Nat → Nat → V) (hx : l1.length ≤ 1000000)
    (he : ∀ c d H', Same H H' → ∀ R : VK, (∀ H'', Same H' H'' → R (f c d) H'') → te (some (T [c]) :: some (T [d]) :: rest) H' R)
    (hQ : ∀ D H', H D = none → Same H H' → H' D = some (.lst ((l1.zip l2).map fun p => f p.1 p.2)) → Q (.ref D) H') :
    CompW (Itz l1 l2) H (none :: none :: rest) (gTup K 2 (gCons (gName 0) (gCons (gName 1) gNil))) tYes te Q := by
  intro D hD
  refine ⟨fun i m σ1 ys H' => m = l1.length - i ∧ i ≤ l1.length ∧ i ≤ l2.length ∧ (∃ a b, σ1 = a :: b :: rest) ∧ ys = ((l1.zip l2).take i).map (fun p => f p.1 p.2) ∧ H' D = some (.lst ys) ∧ Same H H', ⟨l1.length, by simp, Nat.zero_le _, Nat.zero_le _, ⟨_, _, rfl⟩, rfl, upd_same, same_new hD _⟩, ?_⟩
  rintro i m σ1 ys H' ⟨rfl, hi1, hi2, ⟨a, b, rfl⟩, rfl, hDD, hs⟩
  by_cases hlt : i < l1.length ∧ i < l2.length
  · refine .inr ⟨hlt, fun x H'' hy => ?_⟩
    obtain ⟨p, c, d, hp, hc, hd, rfl, rfl⟩ := hy
    refine ⟨p, [T [c], T [d]], rfl, SqT.of upd_same, rfl, T [c], [T [d]], rfl, T [d], [], rfl, rfl, ?_⟩
    unfold tYes
    dsimp only
    refine iteT ?_
    have pD : D ≠ p := fun z => by subst z; rw [hp] at hDD; cases hDD
    have s1 : Same H (upd H' p (.tup [T [c], T [d]])) := hs.trans (same_new hp _)
    have hz : (l1.zip l2)[i]? = some (c, d) := by rw [List.getElem?_zip_eq_some]; exact ⟨hc, hd⟩
    refine he c d _ s1 _ fun H4 s4 => ⟨s4 _ _ (by rw [upd_ne pD]; exact hDD), ?_, l1.length - (i + 1), by omega, rfl, hlt.1, hlt.2, ⟨_, _, rfl⟩, ?_, upd_same, (s1.trans s4).upd hD⟩
    · rw [List.length_map, List.length_take]
      have : (1000001 : Nat) ≤ sizeLine := by decide
      omega
    · rw [List.take_add_one, hz, List.map_append]
      rfl
  · have e : i = l1.length ∨ (i < l1.length ∧ i = l2.length) := by omega
    refine .inl ⟨e, hQ D H' hD hs ?_⟩
    rw [hDD, List.take_of_length_le]
    rw [List.length_zip]
    omega
end L2

set_option linter.all false
set_option maxRecDepth 100000
set_option maxHeartbeats 4000000
/-! Bundles: a def, a method, a class of the text with its promise. -/
namespace L2
open PySem PySem.Spec PyProof.Rows

/-- a def of the module as the top has made it -/
def GF (K : PySem.W.Frag) (mg : Str → Option Value) (x : Str) (st : Stmt) : Prop := ∃ f fd, Fun K x x st f fd ∧ mg x = some (.ref f)
/-- .. with its promise -/
def FnG (P : Program) (w : World) (K : PySem.W.Frag) (mg : Str → Option Value) (base : Heap) (x : Str) (k : Nat) (ps : List Str) (sp : Sp) : Prop :=
  ∃ f fd, FnOk P w K mg base CX0 k f fd ps sp ∧ mg x = some (.ref f) ∧ PySem.W.keepIn K (.ref f) = true ∧ Binds K fd ps []
/-- a method of the class at C -/
def MF (K : PySem.W.Frag) (C : Addr) (m qual : Str) (st : Stmt) : Prop := ∃ f fd, Fun K m qual st f fd ∧ Meth K C m f
def MtG (P : Program) (w : World) (K : PySem.W.Frag) (mg : Str → Option Value) (base : Heap) (C : Addr) (m : Str) (k : Nat) (ps : List Str) (sp : Sp) : Prop :=
  ∃ f fd, FnOk P w K mg base CX0 k f fd ps sp ∧ Cls K C ∧ Meth K C m f ∧ Binds K fd ps []
/-- a class that is made by its __init__ -/
structure CF (K : PySem.W.Frag) (mg : Str → Option Value) (x : Str) (C : Addr) : Prop where
  cl : Cls K C
  mg : mg x = some (.ref C)
  makes : PySem.W.makesIn K C = true
  kp : PySem.W.keepIn K (.ref C) = true
def MkG (P : Program) (w : World) (K : PySem.W.Frag) (mg : Str → Option Value) (base : Heap) (C : Addr) (x : Str) (k : Nat) (ps : List Str) (sp : Sp) : Prop :=
  ∃ f fd, FnOk P w K mg base CX0 k f fd ps sp ∧ Mk K C f ∧ mg x = some (.ref C) ∧ Binds K fd ps []

section
variable {P : Program} {w : World} {K : PySem.W.Frag} {mg : Str → Option Value} {base : Heap}
theorem FnG.mono {x : Str} {j k : Nat} {ps : List Str} {sp : Sp} (G : FnG P w K mg base x j ps sp) (h : j ≤ k) : FnG P w K mg base x k ps sp := by
  obtain ⟨f, fd, a, b⟩ := G
  exact ⟨f, fd, a.mono h, b⟩
theorem MtG.mono {C : Addr} {m : Str} {j k : Nat} {ps : List Str} {sp : Sp} (G : MtG P w K mg base C m j ps sp) (h : j ≤ k) : MtG P w K mg base C m k ps sp := by
  obtain ⟨f, fd, a, b⟩ := G
  exact ⟨f, fd, a.mono h, b⟩
theorem MtG.imp {C : Addr} {m : Str} {k : Nat} {ps : List Str} {sp sp' : Sp} (G : MtG P w K mg base C m k ps sp) (h : ∀ vs H Q E, sp' vs H Q E → sp vs H Q E) : MtG P w K mg base C m k ps sp' := by
  obtain ⟨f, fd, a, b⟩ := G
  exact ⟨f, fd, a.imp h, b⟩
theorem GF.g {x : Str} {st : Stmt} {N ps : List Str} {k : Nat} {sp : Sp} (F : GF K mg x st) (S : FnScope N ps (defScope st))
    (bnd : ∀ (kV doc pm : Value) (an : Option Addr) (cdv ct : Value) (us : List Value), us.length = ps.length → bindArgs (PySem.W.fnOf x x (defArgs st) (defBody st) (defScope st) .none kV doc pm an cdv ct) ⟨us, []⟩ = pure (ps.zip us))
    (len : ∀ vs H Q E, sp vs H Q E → vs.length = ps.length)
    (hbody : ∀ (f : Addr) (cdv : Value) (A : Around) (outer : List Env) (s : Shared) (H : Hp) (vs : List V) (Q : VK) (E : XK), Room k (A.deeper (envOfC x (defScope st) s.heap.objs.size f cdv)) → sp vs H Q E →
      ∃ t, PSs (cxOf CX0 P w K mg base N x (defScope st) f cdv A outer s H E).nox (defBody st) t ∧ t { nx := fun _ H' => Q .non H', rt := Q } (start N vs) H) : FnG P w K mg base x (k + 1) ps sp := by
  obtain ⟨f, fd, F, m⟩ := F
  exact ⟨f, fd, F.ok S len fun cdv A outer s H vs Q E hr h => hbody f cdv A outer s H vs Q E hr h, m, F.kp, F.binds bnd⟩
theorem MF.g {C : Addr} {m qual : Str} {st : Stmt} {N ps : List Str} {k : Nat} {sp : Sp} (F : MF K C m qual st) (cl : Cls K C) (S : FnScope N ps (defScope st))
    (bnd : ∀ (kV doc pm : Value) (an : Option Addr) (cdv ct : Value) (us : List Value), us.length = ps.length → bindArgs (PySem.W.fnOf m qual (defArgs st) (defBody st) (defScope st) .none kV doc pm an cdv ct) ⟨us, []⟩ = pure (ps.zip us))
    (len : ∀ vs H Q E, sp vs H Q E → vs.length = ps.length)
    (hbody : ∀ (f : Addr) (cdv : Value) (A : Around) (outer : List Env) (s : Shared) (H : Hp) (vs : List V) (Q : VK) (E : XK), Room k (A.deeper (envOfC qual (defScope st) s.heap.objs.size f cdv)) → sp vs H Q E →
      ∃ t, PSs (cxOf CX0 P w K mg base N qual (defScope st) f cdv A outer s H E).nox (defBody st) t ∧ t { nx := fun _ H' => Q .non H', rt := Q } (start N vs) H) : MtG P w K mg base C m (k + 1) ps sp := by
  obtain ⟨f, fd, F, m⟩ := F
  exact ⟨f, fd, F.ok S len fun cdv A outer s H vs Q E hr h => hbody f cdv A outer s H vs Q E hr h, cl, m, F.binds bnd⟩
theorem CF.g {C : Addr} {x : Str} {k : Nat} {ps : List Str} {sp : Sp} (c : CF K mg x C) (G : MtG P w K mg base C "__init__" k ps sp) : MkG P w K mg base C x k ps sp := by
  obtain ⟨f, fd, a, _, m, b⟩ := G
  exact ⟨f, fd, a, ⟨c.makes, m.at_, m.fn, c.kp⟩, c.mg, b⟩
end

section
variable {X : Cx} {x m : Str} {k : Nat} {ps : List Str} {sp : Sp} {C : Addr} {p pos apos : Pos} {e o : Expr} {es : List Expr} {t : TA} {to : TE}
/-- f(e, ..) -/
theorem pe_fn (G : FnG X.prog X.w X.K X.mg X.base x k ps sp) (hr : Room k X.A) (ha : PA X (e :: es) t) (hg : Gl X x := by rfl) (hdb : (x == ("__debug__" : Str)) = false := by decide)
    (he : starEach (e :: es) X.env = (false, eval e X.env) :: starEach es X.env := by rfl) (hpl : (backTo pos (starEach es X.env)).any (·.1) = false := by rfl) : PE X (.Call (.Name x p) (e :: es) [] pos) (tCall sp [] E0 t) := by
  obtain ⟨f, fd, a, b, c, d⟩ := G
  exact pe_call a hr hg b c d .nil pass0 ha hdb he hpl
/-- o.m(e, ..), the class of o known at the call -/
def tMethD (P : Program) (w : World) (K : PySem.W.Frag) (mg : Str → Option Value) (base : Heap) (n : Nat) (m : Str) (ta : TE) (t : TA) : TE := fun σ H Q => ta σ H fun x H1 => ∃ a C dx fs k ps sp, x = .ref a ∧ H1 a = some (.ins C dx fs) ∧ fs.lookup m = none ∧
  MtG P w K mg base C m k ps sp ∧ k ≤ n ∧ t σ H1 fun vs H2 => sp (x :: vs) H2 Q E0
theorem pe_mtD {P : Program} {w : World} {K : PySem.W.Frag} {mg : Str → Option Value} {base : Heap} {n : Nat} {pl : Sem Bool} (hr : Room n X.A) (ho : PE X o to) (ha : PA X (e :: es) t) (hP : X.prog = P) (hw : X.w = w) (hK : X.K = K) (hmg : X.mg = mg) (hbs : X.base = base)
    (hst : starEach (e :: es) X.env = (false, eval e X.env) :: starEach es X.env := by rfl) (hpl : (backTo pos (starEach es X.env)).any (·.1) = false := by rfl)
    (ht : eval (.Call (.Attribute o m apos) (e :: es) [] pos) X.env = (do
      let ov ← eval o X.env
      standAt apos.atName
      let (f, first) ← holding [ov] (getMethod ov m pl)
      callWith pos f first (backTo pos (starEach (e :: es) X.env)) (backToKw pos (keywordEach [] X.env))) := by rfl) :
    PE X (.Call (.Attribute o m apos) (e :: es) [] pos) (tMethD P w K mg base n m to t) := by
  subst hP hw hK hmg hbs
  intro pins s σ H Q I h
  refine PySem.W.methodCall_KW (pl := pl) (thn (ho pins s σ H _ I h) fun u s1 ⟨x, H1, I1, rx, a, C, dx, fs, k, ps, sp, ex, ea, l, G, hk, q⟩ => ?_) ht
  have hr := hr.mono hk
  obtain ⟨f, fd, F, c, hm, hb⟩ := G
  subst ex
  obtain rfl : u = Value.ref a := rx
  refine getmeth_ok I1 ea c hm l ?_
  refine PySem.W.callWith_K (first := [.ref a]) (h₀ := X.base) I.ok.mod.kin hm.kp (thn (ha pos pins s1 σ H1 _ I1 q) fun us s2 ⟨vs, H2, I2, r, q2⟩ => ⟨I2.kIn, ?_⟩) hst hpl
  exact run_fn (us := .ref a :: us) (vs := .ref a :: vs) (E := E0) F hr hb .nil pass0 I2 (.cons rfl r) (by rw [List.append_nil]; exact q2)
theorem pe_mt0D {P : Program} {w : World} {K : PySem.W.Frag} {mg : Str → Option Value} {base : Heap} {n : Nat} {pl : Sem Bool} (hr : Room n X.A) (ho : PE X o to) (hP : X.prog = P) (hw : X.w = w) (hK : X.K = K) (hmg : X.mg = mg) (hbs : X.base = base)
    (ht : eval (.Call (.Attribute o m apos) [] [] pos) X.env = (do
      let ov ← eval o X.env
      standAt apos.atName
      let (f, first) ← holding [ov] (getMethod ov m pl)
      callWith pos f first (backTo pos (starEach [] X.env)) (backToKw pos (keywordEach [] X.env))) := by rfl) :
    PE X (.Call (.Attribute o m apos) [] [] pos) (tMethD P w K mg base n m to tNil) := by
  subst hP hw hK hmg hbs
  intro pins s σ H Q I h
  refine PySem.W.methodCall_KW (pl := pl) (thn (ho pins s σ H _ I h) fun u s1 ⟨x, H1, I1, rx, a, C, dx, fs, k, ps, sp, ex, ea, l, G, hk, q⟩ => ?_) ht
  have hr := hr.mono hk
  obtain ⟨f, fd, F, c, hm, hb⟩ := G
  subst ex
  obtain rfl : u = Value.ref a := rx
  refine getmeth_ok I1 ea c hm l ?_
  exact PySem.W.callWith_K0 (first := [.ref a]) I1.kIn hm.kp (run_fn (us := [.ref a]) (vs := [.ref a]) (E := E0) F hr hb .nil pass0 I1 (.cons rfl .nil) (by rw [List.append_nil]; exact q))
end

/-! ### the rules with the written part as a letter of its own (in a comprehension's block the context's own does not stand outside) -/
section
variable {X : Cx} {K : PySem.W.Frag}
theorem ix_listK (h : X.K = K) : IxR X (rIxL K) := h ▸ ix_list
theorem ix_tupK (h : X.K = K) : IxR X (rIxT K) := h ▸ ix_tup
theorem sl_listK (h : X.K = K) : SlR X (rSlL K) := h ▸ sl_list
theorem call_len_seqK (h : X.K = K) : CallR X (.builtin "len") (fun xs H Q => ∃ p ys, xs = [.ref p] ∧ (SqL K H p ys ∨ SqT K H p ys) ∧ Q (.int ys.length) H) := h ▸ call_len_seq
theorem call_allBK (hc : X.calm = true) (h : X.K = K) : CallR X (.builtin "all") (fun xs H Q => ∃ (D : Addr) (bs : List Bool), xs = [.ref D] ∧ SqL K H D (bs.map V.bl) ∧ Q (.bl (bs.all id)) H) := h ▸ call_allB hc
theorem call_anyBK (hc : X.calm = true) (h : X.K = K) : CallR X (.builtin "any") (fun xs H Q => ∃ (D : Addr) (bs : List Bool), xs = [.ref D] ∧ SqL K H D (bs.map V.bl) ∧ Q (.bl (bs.any id)) H) := h ▸ call_anyB hc
theorem pe_fldK {e : Expr} {f : Str} {ta : TE} {pos : Pos} (h : X.K = K) (he : PE X e ta) (hb : attributeBase e f X.env (eval e X.env) = eval e X.env) : PE X (.Attribute e f pos) (tFld K ta f) := h ▸ pe_fld he hb
theorem pe_joinK {o e : Expr} {to : TE} {t : TA} {apos cpos : Pos} (h : X.K = K) (ho : PE X o to) (ha : PA X [e] t)
    (hbase : attributeBase o "join" X.env (eval o X.env) = eval o X.env := by rfl)
    (hfew : ((backTo cpos (starEach [e] X.env)).all (fun x => !x.1) && (backToKw cpos (keywordEach [] X.env)).all (fun x => x.1.isSome)
      && decide ([e].length + ([] : List Keyword).length + (if ([] : List Keyword).isEmpty then 0 else 1) < 30)) = true := by rfl)
    (hline : (apos.endLine == cpos.line) = true := by rfl) (hs : starEach [e] X.env = (false, eval e X.env) :: starEach [] X.env := by rfl) (hplain : (backTo cpos (starEach [] X.env)).any (·.1) = false := by rfl) :
    PE X (.Call (.Attribute o "join" apos) [e] [] cpos) (tBM K "str" (rJoin K) to t) := h ▸ pe_join ho ha hbase hfew hline hs hplain
theorem pi_listK {tg l : Expr} {tl : TE} (h : X.K = K) (hl : PE X l tl) : PI X tg l (iList K tl) := h ▸ pi_list hl
theorem pg_two {i j : Nat} {x y : Str} {px py pos : Pos} {k : Nat} (h : X.K = K) (hc : X.calm = true) (hN : X.N.Nodup) (hi : X.N[i]? = some x) (hj : X.N[j]? = some y) (hx : Loc X.env.scope x) (hy : Loc X.env.scope y)
    (hfx : X.fn x = true ∨ X.env.scope.names.lookup x = some .local := by first | exact .inl rfl | exact .inr rfl | assumption) (hfy : X.fn y = true ∨ X.env.scope.names.lookup y = some .local := by first | exact .inl rfl | exact .inr rfl | assumption) :
    PG X (.Tuple [.Name x px, .Name y py] k pos) (gTup K 2 (gCons (gName i) (gCons (gName j) gNil))) := h ▸ pg_tup hc (pgs_cons (pg_name hN hi hx hfx) (pgs_cons (pg_name hN hj hy hfy) pgs_nil))
end
theorem bt_ty_int : bootBuiltins "int" = some (.type "int") := by decide +kernel
theorem bt_ty_str : bootBuiltins "str" = some (.type "str") := by decide +kernel
theorem bt_max : bootBuiltins "max" = some (.builtin "max") := by decide +kernel
theorem bt_min : bootBuiltins "min" = some (.builtin "min") := by decide +kernel
theorem bt_all : bootBuiltins "all" = some (.builtin "all") := by decide +kernel
theorem bt_any : bootBuiltins "any" = some (.builtin "any") := by decide +kernel
theorem bt_isinstance : bootBuiltins "isinstance" = some (.builtin "isinstance") := by decide +kernel

/-- [e for x in xs]: each item has what is said of it -/
theorem comp_all {J : It} {H : Hp} {xs : List V} {σ0 : St} {k : Nat} {te : TE} {Q : VK} (Pe : V → V → Prop) (hJ : Hands J H xs) (hx : xs.length ≤ 1000000)
    (he : ∀ x ∈ xs, ∀ H', Same H H' → ∀ R : VK, (∀ y H'', Pe x y → Same H' H'' → R y H'') → te (σ0.set k (some x)) H' R)
    (hQ : ∀ D H' ys, H D = none → Same H H' → ys.length = xs.length → (∀ (i : Nat) (x y : V), xs[i]? = some x → ys[i]? = some y → Pe x y) → H' D = some (.lst ys) → Q (.ref D) H') :
    CompW J H σ0 (gName k) tYes te Q := by
  intro D hD
  refine ⟨fun i m σ1 ys H' => m = xs.length - i ∧ i ≤ xs.length ∧ (σ1 = σ0 ∨ ∃ v, σ1 = σ0.set k v) ∧ ys.length = i ∧ (∀ (j : Nat) (x y : V), xs[j]? = some x → ys[j]? = some y → Pe x y) ∧ H' D = some (.lst ys) ∧ Same H H',
    ⟨xs.length, by simp, Nat.zero_le _, .inl rfl, rfl, fun j x y _ h => by simp at h, upd_same, same_new hD _⟩, ?_⟩
  rintro i m σ1 ys H' ⟨rfl, hi, hσ, hlen, hP, hDD, hs⟩
  by_cases hlt : i < xs.length
  · refine .inr ⟨hJ.go i H' hs hlt, fun x H'' hy => ?_⟩
    obtain ⟨e1, hx1⟩ := hJ.yld i H' x H'' hs hlt hy
    subst e1
    have hm : x ∈ xs := List.mem_of_getElem? hx1
    have hset : σ1.set k (some x) = σ0.set k (some x) := by
      rcases hσ with rfl | ⟨v, rfl⟩
      · rfl
      · rw [List.set_set]
    unfold gName tYes
    dsimp only
    rw [hset]
    refine iteT ?_
    refine he x hm H'' hs _ fun y H4 hPy s4 => ⟨s4 _ _ hDD, ?_, xs.length - (i + 1), by omega, rfl, hlt, .inr ⟨_, rfl⟩, ?_, ?_, upd_same, (hs.trans s4).upd hD⟩
    · have : (1000001 : Nat) ≤ sizeLine := by decide
      omega
    · rw [List.length_append, List.length_singleton, hlen]
    · intro j x' y' h1 h2
      by_cases hj : j < i
      · rw [List.getElem?_append_left (by omega)] at h2
        exact hP j x' y' h1 h2
      · have hji : j = i := by
          have := (List.getElem?_eq_some_iff.mp h2).1
          rw [List.length_append, List.length_singleton, hlen] at this
          omega
        subst hji
        rw [List.getElem?_append_right (by omega), hlen, Nat.sub_self] at h2
        rw [hx1] at h1
        cases h1
        have : y = y' := by simpa using h2
        subst this
        exact hPy
  · have e : i = xs.length := by omega
    subst e
    exact .inl ⟨hJ.stop H' hs, hQ D H' ys hD hs hlen hP hDD⟩
end L2

set_option linter.all false
set_option maxRecDepth 100000
set_option maxHeartbeats 4000000
/-! == and != of two lists of flat items. -/
namespace L2
open PySem PySem.Spec PyProof.Rows
theorem Vals.rel {xs : List V} {us : List Value} (r : Vals xs us) : ∀ (j : Nat) (h1 : j < xs.length) (h2 : j < us.length), RelV xs[j] us[j] := by
  induction r with
  | nil => intro j h1; simp at h1
  | cons a t ih =>
    intro j h1 h2
    cases j with
    | zero => exact a
    | succ j => exact ih j (by simpa using h1) (by simpa using h2)
def eqVs : List V → List V → Bool
  | [], [] => true
  | x :: xs, y :: ys => eqV x y && eqVs xs ys
  | _, _ => false
theorem eqVs_len : ∀ {xs ys : List V}, xs.length ≠ ys.length → eqVs xs ys = false
  | [], [], h => absurd rfl h
  | [], _ :: _, _ => rfl
  | _ :: _, [], _ => rfl
  | x :: xs, y :: ys, h => by
    have : xs.length ≠ ys.length := fun e => h (by simp [e])
    rw [eqVs, eqVs_len this, Bool.and_false]
theorem eqVs_range : ∀ {xs ys : List V}, xs.length = ys.length → (List.range xs.length).all (fun j => eqV (xs.getD j .non) (ys.getD j .non)) = eqVs xs ys
  | [], [], _ => rfl
  | [], _ :: _, h => by simp at h
  | _ :: _, [], h => by simp at h
  | x :: xs, y :: ys, h => by
    have h' : xs.length = ys.length := by simpa using h
    rw [List.length_cons, List.range_succ_eq_map, List.all_cons, List.all_map, eqVs, ← eqVs_range h']
    rfl
theorem eqVs_int : ∀ (ms ns : List Int), eqVs (ms.map V.int) (ns.map V.int) = decide (ms = ns)
  | [], [] => rfl
  | [], _ :: _ => rfl
  | _ :: _, [] => rfl
  | m :: ms, n :: ns => by
    rw [List.map_cons, List.map_cons, eqVs, eqVs_int ms ns]
    show ((m == n) && decide (ms = ns)) = _
    by_cases h1 : m = n
    · subst h1
      by_cases h2 : ms = ns
      · subst h2; simp
      · simp [h2]
    · simp [h1]
theorem flat_int (ms : List Int) : (ms.map V.int).all flatV = true := by
  rw [List.all_map]; exact List.all_eq_true.mpr fun _ _ => rfl
section
variable {X : Cx} {K : PySem.W.Frag}
theorem eq_items {A : Around} {s : Shared} {xs ys : List V} {ia ib : List Value} (ra : Vals xs ia) (rb : Vals ys ib) (fx : xs.all flatV = true) (fy : ys.all flatV = true) :
    ∀ j (h1 : j < ia.toArray.size) (h2 : j < ib.toArray.size), SeqAt.EqAt A s ia.toArray[j] ib.toArray[j] (eqV (xs.getD j .non) (ys.getD j .non)) := by
  intro j h1 h2
  have la := ra.length
  have lb := rb.length
  have g1 : j < ia.length := by simpa using h1
  have g2 : j < ib.length := by simpa using h2
  have e1 : xs.getD j .non = xs[j]'(by omega) := by rw [List.getD_eq_getElem?_getD, List.getElem?_eq_getElem (by omega)]; rfl
  have e2 : ys.getD j .non = ys[j]'(by omega) := by rw [List.getD_eq_getElem?_getD, List.getElem?_eq_getElem (by omega)]; rfl
  rw [e1, e2]
  have k1 := ra.rel j (by omega) g1
  have k2 := rb.rel j (by omega) g2
  have q := eqAt_V (A := A) (s := s) k1 k2 (List.all_eq_true.mp fx _ (List.getElem_mem _)) (List.all_eq_true.mp fy _ (List.getElem_mem _))
  simpa using q
def rEqL (K : PySem.W.Frag) (neg : Bool) : R2 := fun x y H Q => ∃ p r xs ys, x = .ref p ∧ y = .ref r ∧ SqL K H p xs ∧ SqL K H r ys ∧ xs.all flatV = true ∧ ys.all flatV = true ∧ Q (.bl (if neg then !eqVs xs ys else eqVs xs ys)) H
theorem op_eqL (h : X.K = K) (hu : X.A.units < cLine) : OpR X (compareOp .Eq) (rEqL K false) := by
  subst h
  intro pins s σ H x y v u Q I rx ry h
  obtain ⟨p, r, xs, ys, rfl, rfl, hp, hr, fx, fy, q⟩ := h
  cases rx; cases ry
  obtain ⟨ia, ra, pa, za⟩ := I.list hp
  obtain ⟨ib, rb, pb, zb⟩ := I.list hr
  have la := ra.length
  have lb := rb.length
  by_cases hsz : xs.length = ys.length
  · refine SeqAt.eq_listAt (e := fun j => eqV (xs.getD j .non) (ys.getD j .non)) pa.isList pb.isList (by simp; omega) hu (eq_items ra rb fx fy) ⟨.bl _, H, I, rfl, ?_⟩
    rw [List.size_toArray, ← la, eqVs_range hsz]
    exact q
  · refine SeqAt.eq_list_lengthsAt pa.isList pb.isList (by simp; omega) hu ⟨.bl false, H, I, rfl, ?_⟩
    have q' : Q (.bl (eqVs xs ys)) H := q
    rw [eqVs_len hsz] at q'
    exact q'
end
end L2

set_option linter.all false
set_option maxRecDepth 100000
set_option maxHeartbeats 4000000
/-! isinstance against own classes; a list taken apart into names. -/
namespace L2
open PySem PySem.Spec PyProof.Rows
/-- the class at C is one whose objects say their class plainly -/
structure InsTy (K : PySem.W.Frag) (C : Addr) : Prop where
  cl : Cls K C
  ha : PySem.W.findIn K (.ref C) "__class__" = some (some (.builtin "object.__class__"))
  hn : PySem.W.specialIn K (.builtin "object.__class__") "__get__" = some (some (.builtin "getset_descriptor.__get__"))
  htk : PySem.W.takesIn K (.builtin "object.__class__") = some true
  hm : PySem.W.mroIn K C (.type "object") = some true
section
variable {X : Cx} {K : PySem.W.Frag}
theorem call_isOwn (h : X.K = K) : CallR X (.builtin "isinstance") (fun xs H Q => ∃ p D C dx fs b, xs = [.ref p, .ref D] ∧ H p = some (.ins C dx fs) ∧ InsTy K C ∧ PySem.W.kitOne K (.ref C) (.ref D) = some b ∧ Q (.bl b) H) := by
  subst h
  intro pins s σ H xs us Q I r h
  obtain ⟨p, D, C, dx, fs, b, rfl, hp, ty, hk, q⟩ := h
  obtain ⟨u, v, rfl, r1, r2⟩ := r.two
  cases r2
  exact isinst_ok I r1 (.ins hp ty.cl ty.ha ty.hn ty.htk ty.hm) hk fun tk => ⟨.bl b, H, I.tok _, rfl, q⟩
end

section
variable {prog : Program} {w : World} {A : Around} {E : Value → Shared → Prop} {s : Shared}
end
section
variable {X : Cx} {K : PySem.W.Frag} {pos : Pos}
end
end L2

set_option linter.all false
set_option maxRecDepth 100000
set_option maxHeartbeats 4000000
/-! zip of two lists. -/
namespace L2
open PySem PySem.Spec PyProof.Rows
section
variable {X : Cx} {es : List Expr} {k : Nat} {tpos : Pos}
end
end L2

set_option linter.all false
set_option maxRecDepth 100000
set_option maxHeartbeats 4000000
/-! name = [comprehension]: the store ahead of the letting go. -/
namespace L2
open PySem PySem.Spec PyProof.Rows
section
variable {X : Cx} {elt tg iter : Expr} {ifs : List Expr} {scope : Scope} {pos : Pos} {N : List Str} {js : List (Option Nat)} {wi : TI} {g : TG} {tc : TT} {te : TE}
theorem ps_setC {osc : Scope} {ON : List Str} {k : Nat} {y : Str} {py spos : Pos} (hN : X.N.Nodup) (hk : X.N[k]? = some y) (hky : Loc X.env.scope y) (cs : CompScope osc ON scope N js) (ho : X.env.scope = osc) (hON : X.N = ON) (hc : X.calm = true) (hi : PI X tg iter wi)
    (hg : ∀ s₀ H₀ cl C ex, PG (compX X scope N s₀ H₀ cl C ex) tg g) (hif : ∀ s₀ H₀ cl C ex, PIfs (compX X scope N s₀ H₀ cl C ex) ifs tc) (he : ∀ s₀ H₀ cl C ex, PE (compX X scope N s₀ H₀ cl C ex) elt te)
    (hsw : swapsWith (.ListComp elt [⟨tg, iter, ifs, 0⟩] scope pos) (some (.Name y py)) spos.line X.env = pure true := by rfl)
    (hs : ∀ x, foldedSetIterable iter X.env x = pure x := by intro _; rfl) (hf : X.fn y = true ∨ X.env.scope.names.lookup y = some .local := by first | exact .inl rfl | exact .inr rfl | assumption) :
    PS X (.Assign [.Name y py] (.ListComp elt [⟨tg, iter, ifs, 0⟩] scope pos) spos) (tAsg (tComp wi (subσ js) g tc te) (gName k)) := by
  intro pins s σ H Dn I h0
  have h : tComp wi (subσ js) g tc te σ H (fun v H' => Dn.nx (σ.set k (some v)) H') := h0
  subst ho hON
  obtain ⟨cl, hcl, cl1, cl2⟩ := closureFor_ok (scope := scope) (env := X.env) fun y hy hf => I.ok.has y.1 (cs.free y hy hf)
  rw [exec_Assign_Name_used _ _ _ _ hsw]
  refine wpAny_bind (wpAny_standAt (wpAny_bind ?_))
  show wpAny _ X.A (do let _ ← comprehension (.ListComp elt [⟨tg, iter, ifs, 0⟩] scope pos) scope X.env _ (newList []) false (eval iter X.env) (some (assign (.Name y py) X.env))) _ _ s
  refine wpAny_bind (wpAny_mono (wpAny_comprehension_free (use := some (assign (.Name y py) X.env)) (Q := fun _ s' => SP X pins Dn .next s') rfl hs hcl cs.kind cs.names ?_) (fun _ s' hq => wpAny_pure (wpAny_pure hq)) fun _ _ e => e)
  refine thn (hi pins s σ H _ I h) fun v s1 h1 => thn h1 fun itv s2 h2 => ?_
  obtain ⟨it, fp, tn, J, H2, e, I2, T, st2, f2, hW⟩ := h2
  subst e
  have hD0 : H2 s2.heap.objs.size = none := I2.hok.fresh (Nat.le_refl _)
  obtain ⟨W, ⟨m0, w0⟩, turn⟩ := hW s2.heap.objs.size hD0
  have I3 := I2.lnew (t' := s2.toks) (ys := []) (its := []) .nil (Nat.zero_le _)
  refine wpAny_newObj_type (wpAny_newFunctionEnv cs.cell (by intro y hy; simp at hy) (fun h₁ hns₁ hsb₁ => ?_) cs.kind)
  dsimp only at hns₁ hsb₁ ⊢
  -- the state with the new list: s3
  obtain ⟨s3, hs3⟩ : ∃ s3 : Shared, s3 = { s2 with heap := s2.heap.push { cls := .type "list", data := .seq ([] : List Value).toArray }, toks := s2.toks } := ⟨_, rfl⟩
  rw [← hs3] at I3
  have e3 : s3.heap = s2.heap.push { cls := .type "list", dict := none, data := .seq ([] : List Value).toArray } := by rw [hs3]
  have e3o : s3.os = s2.os := by rw [hs3]
  have e3g : s3.gens = s2.gens := by rw [hs3]
  rw [← e3] at hns₁ hsb₁ ⊢
  obtain ⟨H3, hH3⟩ : ∃ H3 : Hp, H3 = upd H2 s2.heap.objs.size (.lst []) := ⟨_, rfl⟩
  rw [← hH3] at I3 w0
  have up1 : ∀ b o, s2.heap.get? b = some o → s3.heap.get? b = some o := fun b o q => by rw [e3]; exact Heap.get?_push_of_some _ q
  have up2 : ∀ b o, s3.heap.get? b = some o → h₁.get? b = some o := fun b o q => hsb₁.extBut b o (Nat.ne_of_lt (Heap.lt_size q)) (Heap.get?_push_of_some _ q)
  have fpo : ∀ b ∈ fp, ∃ o, s3.heap.get? b = some o := fun b hb => by
    obtain ⟨o, ho, _⟩ := T.obj 0 _ st2 b hb
    exact ⟨o, up1 b o ho⟩
  have fr3 : ∀ b ∈ fp, H3 b = none := fun b hb => by
    obtain ⟨o, ho, _⟩ := T.obj 0 _ st2 b hb
    rw [hH3, upd_ne (Nat.ne_of_lt (Heap.lt_size ho))]
    exact (f2 b hb).1
  have fpC : ∀ b ∈ fp, b ≠ s3.heap.objs.size := fun b hb => by
    obtain ⟨o, ho⟩ := fpo b hb
    exact Nat.ne_of_lt (Heap.lt_size ho)
  have fpS : ∀ b ∈ fp, b ∉ frs X.stack := fun b hb hs' => by
    rcases List.mem_cons.mp (I2.stkSub b hs') with z | z
    · exact (f2 b hb).2.1 z
    · exact (f2 b hb).2.2.1 z
  have ok' : (compX X scope N s3 H3 cl s3.heap.objs.size fp).Ok := by
    refine ⟨I.ok.mod, cs.kind, I.ok.glob, I.ok.blt, Nat.le_refl _, fun x y c e1 e2 => I.ok.inj x y c (cl2 x c e1) (cl2 y c e2), fun x hx => ?_, fun x c hf => (nomatch hf), I.ok.hd, I.ok.frames, .inl rfl, fun b hb => ⟨fpC b hb, fun x c e => (f2 b hb).2.2.2.2.1 x c (cl2 x c e)⟩,
      I3.bs, Nat.le_trans I.ok.bsz I3.sz, fun b o e hb => ?_, fun b hb => fpS b hb, I3.stack, I3.stkFree⟩
    · have hm : (x, NameKind.free) ∈ scope.names := relabel_back cs.cell hx
      obtain ⟨c, hc⟩ := I.ok.has x (cs.free _ hm rfl)
      exact ⟨c, (cl1 _ hm rfl).trans hc⟩
    · rcases (f2 b hb).2.2.2.1 with z | z
      · exact I.ok.noex b o e z
      · exact absurd (Nat.lt_of_lt_of_le (Heap.lt_size e) (Nat.le_trans I.ok.bsz z)) (Nat.lt_irrefl _)
  have cellK : ∀ c v, s3.heap.IsCell c v → h₁.IsCell c v := fun c v ⟨o, ho, hd⟩ => ⟨o, up2 c o ho, hd⟩
  have I4 : ∀ t : Nat, Inv (compX X scope N s3 H3 cl s3.heap.objs.size fp) [] (subσ js σ) H3 { s2 with heap := h₁, toks := t } := fun t => by
    refine ⟨ok', e3o.symm, I2.bare, Un.kept up2, ⟨_, hns₁, fun i x v hi hv hx => ?_⟩, fun x c e => ?_, I3.hok.fresh (Nat.le_refl _), fun x c e => I3.freeC x c (cl2 x c e), fun p hp => (nomatch hp), I3.hok.kept up2, ?_⟩
    · -- a slot taken over
      have hv' : ∃ j, js[i]? = some (some j) ∧ σ[j]? = some (some v) := by
        unfold subσ at hv
        rw [List.getElem?_map] at hv
        cases hj : js[i]? with
        | none => rw [hj] at hv; cases hv
        | some o =>
          rw [hj] at hv
          cases o with
          | none => cases hv
          | some j =>
            refine ⟨j, rfl, ?_⟩
            have hv2 : (σ[j]?).join = some v := Option.some.inj hv
            cases hs2 : σ[j]? with
            | none => rw [hs2] at hv2; cases hv2
            | some u => rw [hs2] at hv2; exact congrArg some hv2
      obtain ⟨j, hj, hσ⟩ := hv'
      obtain ⟨x', h1', h2', h3'⟩ := cs.sub i j hj
      have hxx : x = x' := Option.some.inj (hi.symm.trans h1')
      subst hxx
      have hm : (x, NameKind.free) ∈ scope.names := mem_of_lookup h3'
      have hk := cs.free _ hm rfl
      obtain ⟨m, hn, hl⟩ := id I3.loc
      obtain ⟨u, ru, lk⟩ := hl j x v h2' hσ (by rcases hk with z | z; exact .inr (.inl z); exact .inr (.inr z))
      refine ⟨u, ru, ?_⟩
      rcases lk with ⟨k1, _⟩ | ⟨k1, c, e1, z⟩
      · rcases hk with z | z <;> (rw [show X.env.kindOf x = _ from z] at k1; cases k1)
      · exact .inr ⟨lookup_relabel_free h3', c, (cl1 _ hm rfl).trans e1, cellK c _ z⟩
    · obtain ⟨v, z⟩ := I3.cell x c (cl2 x c e)
      exact ⟨v, cellK c v z⟩
    · unfold subσ
      rw [List.length_map]
      exact cs.len
  have hst₁ : tn 0 h₁ := T.keep 0 _ _ st2 fun b hb o q => up2 b o (up1 b o q)
  have stat : ∀ {H' : Hp}, (∀ b ∈ fp, H' b = none) → ∀ b ∈ fp, FpOk (compX X scope N s3 H3 cl s3.heap.objs.size fp) [] H' b := fun hn b hb =>
    ⟨hn b hb, fpC b hb, fpS b hb, .inl hb, fun x c e => (f2 b hb).2.2.2.2.1 x c (cl2 x c e), fun p hp => (nomatch hp)⟩
  have loop : ∀ s4 : Shared, (∃ t, s4 = { s2 with heap := h₁, toks := t }) →
      codeAny (model X.prog X.w) X.A (.compLoop (.ListComp elt [⟨tg, iter, ifs, 0⟩] scope pos) 0 (.ref it) (.ref s2.heap.objs.size) (compEnvC scope cl s3.heap.objs.size X.env))
        (compPost (model X.prog X.w) X.A X.xe (some (assign (.Name y py) X.env)) (fun _ s' => SP X pins Dn .next s') (.ref s2.heap.objs.size) s3.heap.objs.size) s4 := by
    rintro s4 ⟨t, rfl⟩
    refine compLoop_any (fun n s' => ∃ i σ' ys H', Inv (compX X scope N s3 H3 cl s3.heap.objs.size fp) [] σ' H' s' ∧ tn i s'.heap ∧ (∀ b ∈ fp, H' b = none) ∧ W i n σ' ys H') ?_ m0 ⟨0, _, [], H3, I4 t, hst₁, fr3, w0⟩
    rintro n s5 ⟨i, σ5, ys, H5, I5, st5, fr5, w5⟩
    rcases turn i n σ5 ys H5 w5 with ⟨stop, qn⟩ | ⟨go, step⟩
    · refine thn (T.done (compX X scope N s3 H3 cl s3.heap.objs.size fp) rfl rfl rfl hc i [] s5 σ5 H5 _ I5 (stat fr5) st5 stop) fun r s6 ⟨hr, I6⟩ => ?_
      subst hr
      obtain ⟨m, hn, _⟩ := id I6.loc
      have IX : ∀ h', Heap.SameBut s3.heap.objs.size s6.heap h' → Inv X pins σ H5 { s6 with heap := h' } := fun h' hs' => by
        have neC : ∀ b o, s3.heap.get? b = some o → b ≠ s3.heap.objs.size := fun b o q => Nat.ne_of_lt (Heap.lt_size q)
        have un : Un (frs X.stack) fp H3 H5 s3.heap h' :=
          ⟨fun b o q n1 hb hx => (hs'.2 b (neC b o q)).trans (I6.base.keep b o q n1 hb hx),
           fun b o q n1 hb hx => by
             obtain ⟨sl, e⟩ := I6.base.slot b o q n1 hb hx
             exact ⟨sl, (hs'.2 b (neC b o q)).trans e⟩,
           fun b o q n1 hx => I6.base.free b o q n1 hx,
           fun b o q hx => by
             obtain ⟨o', e⟩ := I6.base.there b o q hx
             exact ⟨o', (hs'.2 b (neC b o q)).trans e⟩,
           I6.base.tups, I6.base.frzs, I6.base.tbls⟩
        refine I3.call' (ch := fp) (s' := { s6 with heap := h' }) I6.os un (fun b ob e => ?_) I6.bare (fun b hb => ⟨(f2 b hb).2.2.2.1, (f2 b hb).2.1, (f2 b hb).2.2.2.2.1, (f2 b hb).2.2.2.2.2⟩)
        refine (I6.hok b ob e).stay (fun c w' hc' q => (hs'.2 c ?_).trans q) (fun _ q => q) fun _ _ q => q
        rintro rfl
        have fC : H5 s3.heap.objs.size = none := I6.free
        rcases hc' with z | z
        · rw [← z, fC] at e; cases e
        · rw [fC] at z; cases z
      have fC : H5 s3.heap.objs.size = none := I6.free
      have IY : Inv X pins σ H5 s6 := IX s6.heap (Heap.SameBut.refl ..)
      have fo : FpOk X pins H5 s3.heap.objs.size := I3.fpOk (Nat.le_refl _) fC
      obtain ⟨oC, es, ep, ho1, hd1, hrest⟩ := id hn
      have IZ := IY.pinned (fp := [s3.heap.objs.size]) (fun b hb => by obtain rfl : b = _ := (by simpa using hb); exact fo) (fun b hb => by obtain rfl : b = _ := (by simpa using hb); exact ⟨oC, ho1, fun v z => by rw [hd1] at z; cases z⟩)
      show wpAny _ X.A (assign (.Name y py) X.env (.ref s2.heap.objs.size)) _ _ s6
      refine wpAny_assign_Name (store_ok IZ hN hk hky (show RelV (.ref s2.heap.objs.size) (.ref s2.heap.objs.size) from rfl) (fun s7 I7 => ?_) hf)
      have hC7 : s7.heap.get? s3.heap.objs.size = some oC := (I7.pin (s3.heap.objs.size, oC) (List.mem_append_right _ (List.mem_append_right _ (mem_pinsAt (by simp) ho1)))).1
      refine ⟨m, hn.at' fun o e => ?_, fun h' hs' => ⟨_, H5, ?_, qn⟩⟩
      · rw [ho1] at e; cases e; exact hC7
      · have I8 := I7.unpinned
        exact I8.turned (t' := s7.toks) (fun b o hb e => (hs'.2 b hb).trans e) fo.1 fo.2.1 fo.2.2.2.1 fo.2.2.2.2.1 fo.2.2.2.2.2
    · refine thn (T.item (compX X scope N s3 H3 cl s3.heap.objs.size fp) rfl rfl rfl hc i [] s5 σ5 H5 _ I5 (stat fr5) st5 go) fun r s6 ⟨u, hr, h6⟩ => ?_
      subst hr
      refine thn h6 fun _ s7 ⟨x, H7, I7, r7, y7, st7, fr7⟩ => ?_
      have I7' := I7.pinned (stat fr7) (T.obj _ _ st7)
      refine thn (hg _ _ _ _ _ _ s7 σ5 H7 x u _ I7' r7 (step x H7 y7)) fun _ s8 ⟨σ8, H8, I8, q8⟩ => ?_
      refine thn (hif _ _ _ _ _ _ s8 σ8 H8 _ I8 q8) fun ok s9 ⟨H9, I9, q9⟩ => ?_
      have again : ∀ {σ' : St} {H' : Hp} {s' : Shared}, Inv (compX X scope N s3 H3 cl s3.heap.objs.size fp) ([] ++ pinsAt fp s7.heap) σ' H' s' →
          Inv (compX X scope N s3 H3 cl s3.heap.objs.size fp) [] σ' H' s' ∧ tn (i + 1) s'.heap ∧ ∀ b ∈ fp, H' b = none := fun {σ' H' s'} I' => by
        refine ⟨I'.unpinned, T.keep _ _ _ st7 fun b hb o e => (I'.pin (b, o) (List.mem_append_right _ (List.mem_append_right _ (mem_pinsAt hb e)))).1, fun b hb => ?_⟩
        obtain ⟨o, e, d⟩ := T.obj _ _ st7 b hb
        exact (I'.pin (b, o) (List.mem_append_right _ (List.mem_append_right _ (mem_pinsAt hb e)))).2.1
      cases ok with
      | false =>
        rw [if_neg Bool.false_ne_true] at q9 ⊢
        obtain ⟨m', hm, w9⟩ := q9
        obtain ⟨a1, a2, a3⟩ := again I9
        exact ⟨m', hm, i + 1, σ8, ys, H9, a1, a2, a3, w9⟩
      | true =>
        rw [if_pos rfl] at q9 ⊢
        refine thn (he _ _ _ _ _ _ s9 σ8 H9 _ I9 q9) fun yv s10 ⟨y, H10, I10, r10, q10⟩ => ?_
        obtain ⟨hD, hz, m', hm, w10⟩ := q10
        refine thn (mt_append (X := compX X scope N s3 H3 cl s3.heap.objs.size fp) _ s10 σ8 H10 (.ref s2.heap.objs.size) [y] (.ref s2.heap.objs.size) [yv] (fun v H' => H' = upd H10 s2.heap.objs.size (.lst (ys ++ [y]))) I10 rfl (.cons r10 .nil)
          ⟨s2.heap.objs.size, ys, y, rfl, rfl, hD, hz, rfl⟩) fun _ s11 ⟨v11, H11, I11, _, e11⟩ => ?_
        have e11' : H11 = upd H10 s2.heap.objs.size (.lst (ys ++ [y])) := e11
        subst e11'
        obtain ⟨a1, a2, a3⟩ := again I11
        exact ⟨m', hm, i + 1, σ8, ys ++ [y], _, a1, a2, a3, w10⟩
  exact codeAny_compStart_list (loop _ ⟨_, rfl⟩) (T.self X.A 0 _ _ _ hst₁ (loop _ ⟨_, rfl⟩))
end
end L2

set_option linter.all false
namespace L2
open PySem PySem.StrLaws Builtin Builtin.Str
def splitN (c : Nat) : List Nat → List (List Nat)
  | [] => [[]]
  | x :: r => if x = c then [] :: splitN c r else match splitN c r with
    | h :: t => (x :: h) :: t
    | [] => [[x]]
theorem splitN_ne (c : Nat) : ∀ l, ∃ h t, splitN c l = h :: t
  | [] => ⟨_, _, rfl⟩
  | x :: r => by
    obtain ⟨h, t, e⟩ := splitN_ne c r
    unfold splitN
    split
    · exact ⟨_, _, rfl⟩
    · rw [e]; exact ⟨_, _, rfl⟩
def isAt (l : List Nat) (c i : Nat) : Bool := decide (l[i]? = some c)
theorem sub1 (l : List Nat) (c i : Nat) : subAt ⟨l.toArray⟩ ⟨#[c]⟩ i = isAt l c i := by
  rw [subAt_eq]
  show ((l.drop i).take 1 == [c]) = isAt l c i
  unfold isAt
  rw [Bool.eq_iff_iff, take1_drop, decide_eq_true_iff]
theorem occ_fold (l : List Nat) (c hi limit : Nat) (hl : l.length ≤ hi) : ∀ (n a free : Nat) (arr : Array Nat), free ≤ a → arr.size + n ≤ limit →
    (forIn (List.range' a n) (arr, free) (occBody ⟨l.toArray⟩ ⟨#[c]⟩ hi limit)).run.fst.toList = arr.toList ++ (List.range' a n).filter (isAt l c)
  | 0, a, free, arr, _, _ => by simp
  | n + 1, a, free, arr, hf, hz => by
    rw [List.range'_succ, List.forIn_cons]
    by_cases h : isAt l c a = true
    · have hlt : a < l.length := by
        unfold isAt at h
        exact (List.getElem?_eq_some_iff.mp (of_decide_eq_true h)).1
      have e : occBody ⟨l.toArray⟩ ⟨#[c]⟩ hi limit a (arr, free) = pure (ForInStep.yield (arr.push a, a + 1)) := by
        unfold occBody
        rw [if_pos]
        · rfl
        · refine ⟨⟨⟨by show arr.size < limit; omega, hf⟩, ?_⟩, by rw [sub1]; exact h⟩
          show a + 1 ≤ hi
          omega
      rw [e, pure_bind]
      show (forIn (List.range' (a + 1) n) (arr.push a, a + 1) (occBody ⟨l.toArray⟩ ⟨#[c]⟩ hi limit)).run.fst.toList = _
      rw [occ_fold l c hi limit hl n (a + 1) (a + 1) (arr.push a) (Nat.le_refl _) (by rw [Array.size_push]; omega), List.filter_cons_of_pos h, Array.toList_push, List.append_assoc]
      rfl
    · have e : occBody ⟨l.toArray⟩ ⟨#[c]⟩ hi limit a (arr, free) = pure (ForInStep.yield (arr, free)) := by
        unfold occBody
        rw [if_neg]
        rintro ⟨_, q⟩
        rw [sub1] at q
        exact h q
      rw [e, pure_bind]
      show (forIn (List.range' (a + 1) n) (arr, free) (occBody ⟨l.toArray⟩ ⟨#[c]⟩ hi limit)).run.fst.toList = _
      rw [occ_fold l c hi limit hl n (a + 1) free arr (by omega) (by omega), List.filter_cons_of_neg h]
theorem occ_one (l : List Nat) (c : Nat) : occurrences ⟨l.toArray⟩ ⟨#[c]⟩ 0 l.length (l.length + 1) = (List.range' 0 (l.length + 1)).filter (isAt l c) := by
  rw [occ_eq]
  have := occ_fold l c l.length (l.length + 1) (Nat.le_refl _) (l.length + 1) 0 0 #[] (Nat.le_refl _) (by simp)
  simpa using this
theorem sub_list (l : List Nat) (i j : Nat) : strSub ⟨l.toArray⟩ i j = ⟨((l.drop i).take (j - i)).toArray⟩ := by
  apply Str.ext'
  apply Array.toList_inj.mp
  rw [strSub_toList]
theorem parts_shift (l : List Nat) (a x : Nat) (hx : l[a]? = some x) : ∀ (cuts : List Nat), (∀ i ∈ cuts, a + 1 ≤ i) → ∃ h t, partsFrom ⟨l.toArray⟩ 1 (a + 1) cuts = ⟨List.toArray h⟩ :: t ∧ partsFrom ⟨l.toArray⟩ 1 a cuts = ⟨(x :: h).toArray⟩ :: t := by
  have hlt : a < l.length := (List.getElem?_eq_some_iff.mp hx).1
  have key : ∀ j, a + 1 ≤ j → (l.drop a).take (j - a) = x :: (l.drop (a + 1)).take (j - (a + 1)) := fun j hj => by
    rw [List.drop_eq_getElem_cons hlt, show j - a = (j - (a + 1)) + 1 by omega, List.take_succ_cons]
    congr 1
    rw [List.getElem?_eq_getElem hlt] at hx
    exact Option.some.inj hx
  intro cuts hc
  cases cuts with
  | nil =>
    refine ⟨(l.drop (a + 1)).take (l.length - (a + 1)), [], ?_, ?_⟩
    · show [strSub ⟨l.toArray⟩ (a + 1) (⟨l.toArray⟩ : Str).length] = _
      rw [sub_list]; simp [Str.length]
    · show [strSub ⟨l.toArray⟩ a (⟨l.toArray⟩ : Str).length] = _
      rw [sub_list, show (⟨l.toArray⟩ : Str).length = l.length by simp [Str.length], key _ hlt]
  | cons i r =>
    refine ⟨(l.drop (a + 1)).take (i - (a + 1)), partsFrom ⟨l.toArray⟩ 1 (i + 1) r, ?_, ?_⟩
    · show strSub ⟨l.toArray⟩ (a + 1) i :: _ = _
      rw [sub_list]
    · show strSub ⟨l.toArray⟩ a i :: _ = _
      rw [sub_list, key i (hc i List.mem_cons_self)]
theorem parts_split (l : List Nat) (c : Nat) : ∀ (n a : Nat), a + n = l.length + 1 → 0 < n → partsFrom ⟨l.toArray⟩ 1 a ((List.range' a n).filter (isAt l c)) = (splitN c (l.drop a)).map fun w => ⟨w.toArray⟩
  | 0, _, _, h => absurd h (Nat.lt_irrefl _)
  | n + 1, a, h, _ => by
    rw [List.range'_succ]
    cases hn : n with
    | zero =>
      have ha : a = l.length := by omega
      have hno : isAt l c a = false := by
        unfold isAt
        rw [List.getElem?_eq_none (by omega)]
        rfl
      rw [List.filter_cons_of_neg (by rw [hno]; exact Bool.false_ne_true), List.range'_zero, List.drop_eq_nil_of_le (by omega)]
      show [strSub ⟨l.toArray⟩ a (⟨l.toArray⟩ : Str).length] = [⟨([] : List Nat).toArray⟩]
      rw [sub_list, List.drop_eq_nil_of_le (by omega)]
      simp
    | succ m =>
      have hlt : a < l.length := by omega
      have ih := parts_split l c n (a + 1) (by omega) (by omega)
      rw [hn] at ih
      rw [List.drop_eq_getElem_cons hlt]
      by_cases hx : isAt l c a = true
      · have hx' : l[a] = c := by
          unfold isAt at hx
          have := of_decide_eq_true hx
          rw [List.getElem?_eq_getElem hlt] at this
          exact Option.some.inj this
        rw [List.filter_cons_of_pos hx, splitN, if_pos hx', List.map_cons]
        show strSub ⟨l.toArray⟩ a a :: partsFrom ⟨l.toArray⟩ 1 (a + 1) _ = _
        rw [ih, sub_list, Nat.sub_self, List.take_zero]
      · have hx' : l[a] ≠ c := fun e => hx (by unfold isAt; rw [List.getElem?_eq_getElem hlt, e]; exact decide_eq_true rfl)
        rw [List.filter_cons_of_neg hx, splitN, if_neg hx']
        obtain ⟨h, t, e1, e2⟩ := parts_shift l a l[a] (List.getElem?_eq_getElem hlt) ((List.range' (a + 1) (m + 1)).filter (isAt l c)) (fun i hi => by
          have := (List.mem_filter.mp hi).1
          rw [List.mem_range'_1] at this
          exact this.1)
        rw [e2]
        rw [e1] at ih
        obtain ⟨sh, st, es⟩ := splitN_ne c (l.drop (a + 1))
        rw [es] at ih ⊢
        rw [List.map_cons] at ih ⊢
        injection ih with i1 i2
        have i3 : h = sh := by
          have := congrArg (fun s : Str => s.cps.toList) i1
          simpa using this
        rw [i3, i2]
theorem strKind_pos (x : Str) : 1 ≤ Builtin.Str.strKind x := by unfold Builtin.Str.strKind; split <;> (try split) <;> omega
theorem split_txt (l : List Nat) (c : Nat) (hc : c < 256) : Txt.split ⟨l.toArray⟩ ⟨#[c]⟩ = (splitN c l).map fun w => ⟨w.toArray⟩ := by
  have main : partsBetween ⟨l.toArray⟩ (occurrences ⟨l.toArray⟩ ⟨#[c]⟩ 0 l.length (l.length + 1)) 1 = (splitN c l).map fun w => ⟨w.toArray⟩ := by
    rw [partsBetween_eq, occ_one, parts_split l c (l.length + 1) 0 (by omega) (by omega), List.drop_zero]
  have hk : Builtin.Str.strKind ⟨#[c]⟩ = 1 := by unfold Builtin.Str.strKind; rw [if_pos]; simp [hc]
  have hlen : (⟨l.toArray⟩ : Str).length = l.length := by simp [Str.length]
  unfold Txt.split
  rw [hlen]
  by_cases h0 : l.length < 1
  · have : l = [] := List.length_eq_zero_iff.mp (by omega)
    subst this
    rw [if_pos (by rw [decide_eq_true (show ([] : List Nat).length < (⟨#[c]⟩ : Str).length from by simp [Str.length])]; rfl)]
    rfl
  · rw [if_neg (by
      have h1 := strKind_pos ⟨l.toArray⟩
      rw [hk, decide_eq_false (show ¬ l.length < (⟨#[c]⟩ : Str).length from h0), decide_eq_false (by omega)]
      exact Bool.false_ne_true)]
    by_cases he : (occurrences ⟨l.toArray⟩ ⟨#[c]⟩ 0 l.length (l.length + 1)).isEmpty = true
    · rw [if_pos he]
      rw [List.isEmpty_iff.mp he] at main
      rw [← main]
      show [_] = [strSub ⟨l.toArray⟩ 0 (⟨l.toArray⟩ : Str).length]
      rw [sub_whole]
    · rw [if_neg he]
      exact main
end L2

set_option linter.all false
set_option maxRecDepth 100000
set_option maxHeartbeats 4000000
/-! f-strings, split, str(n), int(text). -/
namespace L2
open PySem PySem.Spec PyProof.Rows
abbrev TF := List Nat → St → Hp → VK → Prop
def PF (X : Cx) (es : List Expr) (t : TF) : Prop := ∀ (pins : List (Addr × Obj)) (s : Shared) (σ : St) (H : Hp) (out : List Nat) (Q : VK), Inv X pins σ H s → t out σ H Q →
  wpAny (model X.prog X.w) X.A (joinParts ⟨out.toArray⟩ (evalEach es X.env)) (EP X pins σ Q) X.xe s
def tFnil : TF := fun out _ H Q => out.length ≤ sizeLine ∧ Q (T out) H
def tFcons (te : TE) (tr : TF) : TF := fun out σ H Q => te σ H fun x H1 => ∃ y, x = T y ∧ (out ++ y).length ≤ sizeLine ∧ tr (out ++ y) σ H1 Q
section
variable {X : Cx} {e : Expr} {es : List Expr} {te : TE} {tr : TF} {pos : Pos}
theorem fvs_nil : PF X [] tFnil := by
  intro pins s σ H out Q I h
  exact joinParts_nil ⟨T out, H, I.tok _, ⟨_, rfl⟩, h.2⟩ (by rw [T_len]; exact h.1)
theorem fvs_cons (he : PE X e te) (hr : PF X es tr) (hs : evalEach (e :: es) X.env = eval e X.env :: evalEach es X.env := by rfl) : PF X (e :: es) (tFcons te tr) := by
  intro pins s σ H out Q I h
  rw [hs]
  refine joinParts_cons (thn (he pins s σ H _ I h) fun v s1 ⟨x, H1, I1, r1, y, e1, hz, q⟩ => ?_)
  subst e1
  obtain ⟨t, rfl⟩ := r1
  refine ⟨by rw [T_app, T_len]; exact hz, ?_⟩
  rw [T_app]
  exact hr pins s1 σ H1 _ Q I1 q
theorem fv_txt {x : Str} {l : List Nat} {j} (h : x = ⟨l.toArray⟩) : PE X (.Constant (.str x) j pos) (tC (T l)) := pe_txt h
/-- a field that holds a text -/
def tFs (te : TE) : TE := fun σ H Q => te σ H fun x H1 => ∃ y, x = T y ∧ y.length ≤ sizeLine ∧ Q (T y) H1
theorem fv_str (he : PE X e te) : PE X (.FormattedValue e (-1) none pos) (tFs te) := by
  intro pins s σ H Q I h
  refine FormattedValue_plain (thn (he pins s σ H _ I h) fun v s1 ⟨x, H1, I1, r1, y, e1, hz, q⟩ => ?_)
  subst e1
  obtain ⟨t, rfl⟩ := r1
  exact formatField_str (fun t' tk => ⟨T y, H1, I1.tok _, ⟨t', rfl⟩, q⟩) (by rw [T_len]; exact hz)
/-- one that holds a figure -/
def tFd (te : TE) : TE := fun σ H Q => te σ H fun x H1 => ∃ n : Nat, x = .int n ∧ n ≤ 9 ∧ Q (T [48 + n]) H1
theorem fig_text : ∀ n : Nat, n ≤ 9 → toString ((n : Nat) : Int) = (⟨[48 + n].toArray⟩ : Str) := by
  intro n hn
  have : n = 0 ∨ n = 1 ∨ n = 2 ∨ n = 3 ∨ n = 4 ∨ n = 5 ∨ n = 6 ∨ n = 7 ∨ n = 8 ∨ n = 9 := by omega
  rcases this with rfl | rfl | rfl | rfl | rfl | rfl | rfl | rfl | rfl | rfl <;> decide +kernel
theorem fig_log {n : Nat} (h : n ≤ 9) : ((n : Int).natAbs).log2 < 1920 := by
  have : n = 0 ∨ n = 1 ∨ n = 2 ∨ n = 3 ∨ n = 4 ∨ n = 5 ∨ n = 6 ∨ n = 7 ∨ n = 8 ∨ n = 9 := by omega
  rcases this with rfl | rfl | rfl | rfl | rfl | rfl | rfl | rfl | rfl | rfl <;> decide +kernel
theorem fv_int (he : PE X e te) : PE X (.FormattedValue e (-1) none pos) (tFd te) := by
  intro pins s σ H Q I h
  refine FormattedValue_plain (thn (he pins s σ H _ I h) fun v s1 ⟨x, H1, I1, r1, n, e1, hn, q⟩ => ?_)
  subst e1
  obtain ⟨t, rfl⟩ := r1
  exact formatField_int_small (fig_log hn) ⟨T [48 + n], H1, I1.tok _, ⟨_, by rw [fig_text n hn]⟩, q⟩
theorem pe_fstr {e1 e2 : Expr} (h : PF X (e1 :: e2 :: es) tr) : PE X (.JoinedStr (e1 :: e2 :: es) pos) (tr []) := by
  intro pins s σ H Q I hw
  exact JoinedStr_many (h pins s σ H [] Q I hw)
/-- str(n) of a figure -/
theorem call_str_intT : CallR X (.type "str") (fun xs H Q => ∃ n : Nat, xs = [.int n] ∧ n ≤ 9 ∧ Q (T [48 + n]) H) := by
  intro pins s σ H xs us Q I r h
  obtain ⟨n, rfl, hn, q⟩ := h
  refine call_str_int pins s σ H _ us Q I r ⟨_, rfl, fig_log hn, ?_⟩
  rw [fig_text n hn]
  exact q
/-- t.split(c) -/
def rSplit : V → List V → Hp → VK → Prop := fun x vs H Q => ∃ l c, x = T l ∧ vs = [T [c]] ∧ c < 256 ∧ l.length ≤ 100000 ∧ ∀ p, H p = none → Q (.ref p) (upd H p (.lst ((splitN c l).map T)))
theorem splitN_len (c : Nat) : ∀ l, (splitN c l).length ≤ l.length + 1
  | [] => by simp [splitN]
  | x :: r => by
    have ih := splitN_len c r
    obtain ⟨h, t, e⟩ := splitN_ne c r
    unfold splitN
    split
    · simp; omega
    · rw [e] at ih ⊢; simp at ih ⊢; omega
theorem vals_strs : ∀ (ws : List (List Nat)) (k : Nat), Vals (ws.map T) (strsFrom k (ws.map fun w => ⟨w.toArray⟩))
  | [], _ => .nil
  | w :: r, k => .cons ⟨_, rfl⟩ (vals_strs r (k + 1))
theorem mt_split : MtR X "str.split" rSplit := by
  intro pins s σ H x vs v us Q I rx rv h
  obtain ⟨l, c, rfl, rfl, hc, hl, q⟩ := h
  obtain ⟨t, rfl⟩ := rx
  obtain ⟨u, rfl, ru⟩ := rv.one
  obtain ⟨t2, rfl⟩ := ru
  have hsp := split_txt l c hc
  have hlen : (⟨l.toArray⟩ : Str).length = l.length := T_len l
  have fin : ∀ (its : List Value) (tk : Nat), Vals ((splitN c l).map T) its → EP X pins σ Q (.ref s.heap.objs.size) { s with heap := s.heap.push { cls := .type "list", data := .seq its.toArray }, toks := tk } := fun its tk hv =>
    ⟨.ref s.heap.objs.size, _, I.lnew (t' := tk) hv (by rw [List.length_map]; have := splitN_len c l; have : (100001 : Nat) ≤ sizeLine := (by decide); omega), rfl, q _ (I.hok.fresh (Nat.le_refl _))⟩
  have hy : ((⟨#[c]⟩ : Str).length == 0) = false := by rfl
  have one : (splitN c l).map (fun w => (⟨w.toArray⟩ : Str)) = [⟨l.toArray⟩] → Vals ((splitN c l).map T) [.str ⟨l.toArray⟩ t] := fun e => by
    have : splitN c l = [l] := by
      obtain ⟨a, b, e2⟩ := splitN_ne c l
      rw [e2, List.map_cons] at e
      injection e with e3 e4
      have e5 : a = l := by simpa using congrArg (fun s : Str => s.cps.toList) e3
      have e6 : b = [] := by simpa using e4
      rw [e2, e5, e6]
    rw [this]
    exact .cons ⟨_, rfl⟩ .nil
  by_cases h1 : (decide ((⟨l.toArray⟩ : Str).length < (⟨#[c]⟩ : Str).length) || decide (Builtin.Str.strKind ⟨l.toArray⟩ < Builtin.Str.strKind ⟨#[c]⟩)) = true
  · refine call_meets F.slot_str_split (typeIs_str _ _ _) F.entry_str_split (F.args_str_split_2 _ _) (meets_str_split_cannot_occur ⟨l.toArray⟩ ⟨#[c]⟩ t t2 h1) (fin _ s.toks (one ?_))
    rw [← hsp]; unfold Txt.split; rw [if_pos h1]
  · have h1' := Bool.eq_false_iff.mpr h1
    by_cases hf : (Builtin.Str.occurrences ⟨l.toArray⟩ ⟨#[c]⟩ 0 (⟨l.toArray⟩ : Str).length ((⟨l.toArray⟩ : Str).length + 1)).isEmpty = true
    · refine call_meets F.slot_str_split (typeIs_str _ _ _) F.entry_str_split (F.args_str_split_2 _ _) (meets_str_split_not_found ⟨l.toArray⟩ ⟨#[c]⟩ t t2 h1' hy hf) (fin _ s.toks (one ?_))
      rw [← hsp]; unfold Txt.split; rw [if_neg h1, if_pos hf]
    · have hf' := Bool.eq_false_iff.mpr hf
      have e : Builtin.Str.partsBetween ⟨l.toArray⟩ (Builtin.Str.occurrences ⟨l.toArray⟩ ⟨#[c]⟩ 0 (⟨l.toArray⟩ : Str).length ((⟨l.toArray⟩ : Str).length + 1)) (⟨#[c]⟩ : Str).length = (splitN c l).map fun w => ⟨w.toArray⟩ := by
        rw [← hsp]; unfold Txt.split; rw [if_neg h1, if_neg hf]
      refine call_meets F.slot_str_split (typeIs_str _ _ _) F.entry_str_split (F.args_str_split_2 _ _) (meets_str_split_sep ⟨l.toArray⟩ ⟨#[c]⟩ t t2 h1' hy hf' ?_ ?_) ?_
      · rw [hlen]; exact Nat.le_trans hl (by decide)
      · rw [e, List.length_map]; have := splitN_len c l; have : (100001 : Nat) ≤ sizeLine := by decide
        omega
      · rw [e]
        exact fin _ _ (vals_strs _ _)
theorem pe_splitK {K : PySem.W.Frag} {o e : Expr} {to : TE} {t : TA} {apos cpos : Pos} (h : X.K = K) (ho : PE X o to) (ha : PA X [e] t)
    (hbase : attributeBase o "split" X.env (eval o X.env) = eval o X.env := by rfl)
    (hfew : ((backTo cpos (starEach [e] X.env)).all (fun x => !x.1) && (backToKw cpos (keywordEach [] X.env)).all (fun x => x.1.isSome)
      && decide ([e].length + ([] : List Keyword).length + (if ([] : List Keyword).isEmpty then 0 else 1) < 30)) = true := by rfl)
    (hline : (apos.endLine == cpos.line) = true := by rfl) (hs : starEach [e] X.env = (false, eval e X.env) :: starEach [] X.env := by rfl) (hplain : (backTo cpos (starEach [] X.env)).any (·.1) = false := by rfl) :
    PE X (.Call (.Attribute o "split" apos) [e] [] cpos) (tBM K "str" rSplit to t) := h ▸ pe_bm F.plainAttrs_str F.slot_str_split F.type_str_split mt_split ho ha hbase hfew hline hs hplain
end
end L2

set_option linter.all false
set_option maxRecDepth 100000
set_option maxHeartbeats 4000000
/-! objects made, by what one wants of them; comprehensions by place. -/
namespace L2
open PySem PySem.Spec PyProof.Rows
section
variable {X : Cx} {x m : Str} {k : Nat} {ps : List Str} {sp : Sp} {C : Addr} {p pos apos : Pos} {e o : Expr} {es : List Expr} {t : TA} {to : TE}
theorem pe_mkI {r : List V → Hp → VK → Prop} (G : MkG X.prog X.w X.K X.mg X.base C x k ps sp) (hr : Room (k + 1) X.A)
    (imp : ∀ vs H Q, r vs H Q → ∀ x dx, H x = none → H dx = none → dx ≠ x → sp (.ref x :: (vs ++ [])) (upd (upd H dx (.own x)) x (.ins C dx [])) (fun v H2 => v = .non ∧ Q (.ref x) H2) E0)
    (ha : PA X (e :: es) t) (hg : Gl X x := by rfl) (hdb : (x == ("__debug__" : Str)) = false := by decide)
    (he : starEach (e :: es) X.env = (false, eval e X.env) :: starEach es X.env := by rfl) (hpl : (backTo pos (starEach es X.env)).any (·.1) = false := by rfl) : PE X (.Call (.Name x p) (e :: es) [] pos) (tCB r t) := by
  obtain ⟨f, fd, a, M, hm, hb⟩ := G
  intro pins s σ H Q I h
  refine wpAny_Call_Name_kw (ld_glob I hg hm ?_ hdb)
  refine PySem.W.callWith_K (h₀ := X.base) I.ok.mod.kin M.kp (thn (ha pos pins s σ H _ I h) fun us s1 ⟨vs, H1, I1, rv, q⟩ => ⟨I1.kIn, ?_⟩) he hpl
  exact run_make M a hr hb .nil pass0 I1 rv (imp vs H1 Q q)
end
end L2

set_option linter.all false
set_option maxRecDepth 100000
set_option maxHeartbeats 4000000
/-! comprehensions of any target and test, item by item; sum. -/
namespace L2
open PySem PySem.Spec PyProof.Rows
section
variable {α : Type} {P : α → V → Hp → Prop} {H H' : Hp}
end
section
variable {X : Cx} {K : PySem.W.Frag}
end
end L2

set_option linter.all false
set_option maxRecDepth 100000
set_option maxHeartbeats 4000000
/-! enumerate of a list. -/
namespace L2
open PySem PySem.Spec PyProof.Rows
def Iel (K : PySem.W.Frag) (l : Addr) : It :=
  ⟨fun i H => ∃ xs x, SqL K H l xs ∧ xs[i]? = some x,
   fun i H v H' => ∃ p x, H p = none ∧ (∀ xs, SqL K H l xs → xs[i]? = some x) ∧ v = .ref p ∧ H' = upd H p (.tup [.int i, x]),
   fun i H => ∃ xs, SqL K H l xs ∧ xs.length ≤ i⟩
theorem turn_enumL {P : Program} {w : World} {K : PySem.W.Frag} {es : List Expr} {k : Nat} {pos : Pos} {z it l : Addr} (zi : z ≠ it) :
    Turn P w K (.Tuple es k pos) (Iel K l) [z, it] z (fun i h => (∃ old, IsEnum h z it (i : Int) old) ∧ h.IsListIter it l i) where
  mem := by simp
  obj := fun i h st b hb => by
    obtain ⟨⟨old, hz⟩, o1, e1, c1, d1⟩ := st
    simp only [List.mem_cons, List.not_mem_nil, or_false] at hb
    rcases hb with rfl | rfl
    · exact ⟨_, hz, fun v q => by cases q⟩
    · exact ⟨o1, e1, fun v q => by rw [d1] at q; cases q⟩
  keep := fun i h h' st kk => by
    obtain ⟨⟨old, hz⟩, o1, e1, r1⟩ := st
    exact ⟨⟨old, kk z (by simp) _ hz⟩, ⟨o1, kk it (by simp) _ e1, r1⟩⟩
  item := by
    intro X hP hw hK hc i pins s σ H E I hf st hg
    subst hP hw hK
    obtain ⟨⟨old, hz⟩, h1⟩ := st
    obtain ⟨xs, x, hq1, hx⟩ := hg
    obtain ⟨ia, ra, pa, _⟩ := I.list hq1
    obtain ⟨u, hu, ru⟩ := ra.get hx
    refine wpAny_pyNext_enum_item hz h1 pa.isList (x := u) (by simpa using hu) zi fun h' a1 a2 a3 a4 kp => ?_
    refine ⟨_, rfl, ?_⟩
    refine wpAny_letOwnedTupleGo_enum (s := { s with heap := h', toks := s.toks + 1 }) a1 fun h2' hz' hs' => ?_
    replace hs' : Heap.SameBut z h' h2' := hs'
    have zlt : z < s.heap.objs.size := Heap.lt_size hz
    have far : ∀ q ∈ [z, it], q < s.heap.objs.size := by
      intro q hq
      obtain ⟨o1, e1, _⟩ := h1
      simp only [List.mem_cons, List.not_mem_nil, or_false] at hq
      rcases hq with rfl | rfl
      · exact zlt
      · exact Heap.lt_size e1
    have fz := hf z (by simp)
    have f1 := hf it (by simp)
    have keepAll : ∀ b o, b ≠ z → b ≠ it → s.heap.get? b = some o → h2'.get? b = some o := fun b o b1 b2 e => hs'.extBut _ _ b1 (kp b o b1 b2 e)
    have hnew : H s.heap.objs.size = none := I.hok.fresh (Nat.le_refl _)
    have Tz : s.heap.objs.size ≠ z := Nat.ne_of_gt zlt
    have ht2 : h2'.get? s.heap.objs.size = some { cls := .type "tuple", data := .seq #[.int i s.toks, u] } := hs'.extBut _ _ Tz a3
    have I2 : Inv X pins σ (upd H s.heap.objs.size (.tup [.int i, x])) { s with heap := h2', toks := s.toks + 1 } := by
      have there : ∀ q ∈ [z, it], ∃ o', h2'.get? q = some o' := by
        intro q hq
        obtain ⟨o1, e1, _⟩ := a2
        simp only [List.mem_cons, List.not_mem_nil, or_false] at hq
        rcases hq with rfl | rfl
        · exact ⟨_, hz'⟩
        · exact ⟨_, hs'.extBut _ _ zi.symm e1⟩
      have nch : ∀ b, b ∉ [z, it] → b ≠ z ∧ b ≠ it := fun b hb => by
        simp only [List.mem_cons, List.not_mem_nil, or_false, not_or] at hb
        exact hb
      have trk : ∀ b u', H b = some u' → b ≠ z ∧ b ≠ it := fun b u' e =>
        ⟨fun q => (by rw [q, fz.1] at e; cases e), fun q => (by rw [q, f1.1] at e; cases e)⟩
      have okH : HOk X.prog X.w (upd H s.heap.objs.size (.tup [.int i, x])) h2' := fun b u' e => by
        by_cases hb : b = s.heap.objs.size
        · subst hb
          rw [upd_same] at e
          cases e
          exact ⟨(show 2 ≤ sizeLine by decide), [.int i s.toks, u], .cons ⟨_, rfl⟩ (.cons ru .nil), ⟨_, ht2, rfl, _, rfl⟩⟩
        · rw [upd_ne hb] at e
          have hx := I.hok b u' e
          refine hx.stay (fun q o hq e2 => ?_) (fun q e2 => ?_) (fun q xs e2 => ?_)
          · rcases hq with rfl | hq
            · obtain ⟨b1, b2⟩ := trk q _ e
              exact keepAll q o b1 b2 e2
            · obtain ⟨b1, b2⟩ := trk q _ hq
              exact keepAll q o b1 b2 e2
          · rw [upd_ne (ne_of_none e2 hnew)]; exact e2
          · rw [upd_ne (ne_of_none e2 hnew)]; exact e2
      refine I.step (g' := s.gens) (d' := s.drawn) (ch := [z, it]) (fun b hb => ?_) (fun b o _ _ hcb e n => ?_) (fun b o _ _ hcb e n => ?_) (fun b o hcb e n => ?_) (fun b o hcb e => ?_) (fun b xs e => ?_) (fun b o u' e => ?_) (fun b ps e => ?_) (fun m hm => ?_) okH I.bare
      · simp only [List.mem_cons, List.not_mem_nil, or_false] at hb
        rcases hb with rfl | rfl
        · exact ⟨fz.2.2.2.1, fz.2.1, fz.2.2.2.2.1, fz.2.2.2.2.2⟩
        · exact ⟨f1.2.2.2.1, f1.2.1, f1.2.2.2.2.1, f1.2.2.2.2.2⟩
      · obtain ⟨b1, b2⟩ := nch b hcb
        exact keepAll b o b1 b2 e
      · obtain ⟨b1, b2⟩ := nch b hcb
        exact ⟨o.slots, keepAll b o b1 b2 e⟩
      · rw [upd_ne (Nat.ne_of_lt (Heap.lt_size e))]; exact n
      · obtain ⟨b1, b2⟩ := nch b hcb
        exact ⟨o, keepAll b o b1 b2 e⟩
      · rw [upd_ne (ne_of_none e hnew)]; exact e
      · rw [upd_ne (ne_of_none e hnew)]; exact e
      · exact ⟨#[], by rw [upd_ne (ne_of_none e hnew), e]; simp⟩
      · obtain ⟨o, es', ep, ho, r⟩ := hm
        exact ⟨o, es', ep, keepAll _ o fz.2.1.symm f1.2.1.symm ho, r⟩
    refine ⟨.ref s.heap.objs.size, _, I2, rfl, ⟨_, x, hnew, fun zs hz => by rw [I.list_inj hz hq1]; exact hx, rfl, rfl⟩, ⟨⟨_, by rw [Int.natCast_add]; exact hz'⟩, ?_⟩, fun b hb => ?_⟩
    · obtain ⟨o, e, r⟩ := a2; exact ⟨o, hs'.extBut _ _ zi.symm e, r⟩
    · rw [upd_ne (Nat.ne_of_lt (far b hb))]; exact (hf b hb).1
  done := by
    intro X hP hw hK hc i pins s σ H E I hf st hg
    subst hP hw hK
    obtain ⟨⟨old, hz⟩, h1⟩ := st
    obtain ⟨xs, hq1, hg⟩ := hg
    obtain ⟨ia, ra, pa, _⟩ := I.list hq1
    have la := ra.length
    obtain ⟨f0, f1, f2, f3, f4, f5⟩ := hf it (by simp)
    refine wpAny_pyNext_enum_end (I.ok.hd hc) hz h1 pa.isList (by simp; omega) fun h' eb => ⟨rfl, I.turned (t' := s.toks) (fun b o hb e => eb b o hb e) f0 f1 f3 f4 f5⟩
  self := fun _ _ _ _ _ st h => by
    obtain ⟨⟨old, hz⟩, _⟩ := st
    exact wpAny_pyIter_enum hz h
section
variable {X : Cx} {es : List Expr} {k : Nat} {tpos : Pos}
def iEnumL (K : PySem.W.Frag) (ta : TA) : TI := fun σ H R => ta σ H fun vs H1 => ∃ a, vs = [.ref a] ∧ (∃ xs, SqL K H1 a xs) ∧ R (Iel K a) H1
theorem pi_enumL {a : Expr} {ta : TA} {p pos : Pos} (hg : Gl X "enumerate") (hm : X.mg "enumerate" = none) (ha : PA X [a] ta) (hv : bootBuiltins "enumerate" = some (.type "enumerate") := by decide +kernel) (hs : starEach [a] X.env = [(false, eval a X.env)] := by rfl) :
    PI X (.Tuple es k tpos) (.Call (.Name "enumerate" p) [a] [] pos) (iEnumL X.K ta) := by
  intro pins s σ H R I h
  refine Call_ (ld_blt I hg hm hv (PyProof.Rows.callWith_type1 (thn (ha pos pins s σ H _ I h) fun us s1 ⟨vs, H1, I1, r1, q1⟩ => ?_) (by rw [hs]; rfl) (by rfl)))
  obtain ⟨l1, e, ⟨xs, hq1⟩, q⟩ := q1
  subst e
  obtain ⟨u, rfl, ru⟩ := r1.one
  cases ru
  obtain ⟨ia, ra, pa, _⟩ := I1.list hq1
  refine call_enumerate_list pa.isList fun h' a1 a2 a3 kp => ?_
  have I2 : Inv X pins σ H1 { s1 with heap := h' } := I1.kept (t' := s1.toks) kp
  refine wpAny_pyIter_enum a1 ⟨s1.heap.objs.size + 1, [s1.heap.objs.size + 1, s1.heap.objs.size], _, _, H1, rfl, I2, turn_enumL (Nat.ne_of_gt (Nat.lt_succ_self _)), ⟨⟨_, a1⟩, a2⟩, fun b hb => ?_, q⟩
  have hb' : s1.heap.objs.size ≤ b := by
    simp only [List.mem_cons, List.not_mem_nil, or_false] at hb
    rcases hb with rfl | rfl
    · exact Nat.le_add_right _ _
    · exact Nat.le_refl _
  exact I1.fpOk hb' (I1.hok.fresh hb')
theorem pi_enumLK {K : PySem.W.Frag} {a : Expr} {ta : TA} {p pos : Pos} (h : X.K = K) (hg : Gl X "enumerate") (hm : X.mg "enumerate" = none) (ha : PA X [a] ta) (hv : bootBuiltins "enumerate" = some (.type "enumerate") := by decide +kernel) (hs : starEach [a] X.env = [(false, eval a X.env)] := by rfl) :
    PI X (.Tuple es k tpos) (.Call (.Name "enumerate" p) [a] [] pos) (iEnumL K ta) := h ▸ pi_enumL hg hm ha hv hs
end
/-- for i, x in enumerate(xs) -/
theorem for_enumL {K : PySem.W.Frag} {a : Addr} {xs : List V} {g : TG} {tb : TS} {D : Ends} {σ : St} {H : Hp} (Pv : Nat → St → Hp → Prop) (h0 : Pv 0 σ H) (hl : ∀ i σ H, i ≤ xs.length → Pv i σ H → SqL K H a xs)
    (hs : ∀ i x p σ H, xs[i]? = some x → H p = none → Pv i σ H → g (.ref p) σ (upd H p (.tup [.int i, x])) fun σ2 H2 => tb { D with nx := Pv (i + 1), ct := Pv (i + 1), bk := D.nx } σ2 H2) (hd : ∀ σ H, Pv xs.length σ H → D.nx σ H) :
    ∃ W : Nat → Nat → St → Hp → Prop, (∃ m, W 0 m σ H) ∧ ∀ i m σ H, W i m σ H →
      ((Iel K a).stop i H ∧ D.nx σ H) ∨ ((Iel K a).go i H ∧ ∃ N : St → Hp → Prop, (∀ σ' H', N σ' H' → ∃ m', m' < m ∧ W (i + 1) m' σ' H') ∧ ∀ x H', (Iel K a).yld i H x H' → g x σ H' fun σ2 H2 => tb { D with nx := N, ct := N, bk := D.nx } σ2 H2) := by
  refine ⟨fun i m σ H => m = xs.length - i ∧ i ≤ xs.length ∧ Pv i σ H, ⟨xs.length, by simp, Nat.zero_le _, h0⟩, ?_⟩
  rintro i m σ H ⟨rfl, hi, p⟩
  have q := hl i σ H hi p
  by_cases hlt : i < xs.length
  · refine .inr ⟨⟨xs, xs[i], q, by simp [hlt]⟩, Pv (i + 1), fun σ' H' p' => ⟨xs.length - (i + 1), by omega, rfl, hlt, p'⟩, fun x H' y => ?_⟩
    obtain ⟨r, u, hr, e1, rfl, rfl⟩ := y
    exact hs i u r σ H (e1 xs q) hr p
  · have e : i = xs.length := by omega
    subst e
    exact .inl ⟨⟨xs, q, Nat.le_refl _⟩, hd σ H p⟩
end L2

set_option linter.all false
set_option maxRecDepth 100000
set_option maxHeartbeats 4000000
/-! tuples of flat items compared, looked for in a list, lists of them compared; a list held against an empty one. -/
namespace L2
open PySem PySem.Spec PyProof.Rows
section
variable {X : Cx} {K : PySem.W.Frag} {pins : List (Addr × Obj)} {s : Shared} {σ : St} {H : Hp} {A : Around}
/-- a list held against one without items -/
def rEqE (K : PySem.W.Frag) (neg : Bool) : R2 := fun x y H Q => ∃ p r xs, x = .ref p ∧ y = .ref r ∧ SqL K H p xs ∧ SqL K H r [] ∧ Q (.bl (if neg then !xs.isEmpty else xs.isEmpty)) H
theorem op_eqE (h : X.K = K) (hu : X.A.units < cLine) : OpR X (compareOp .Eq) (rEqE K false) := by
  subst h
  intro pins s σ H x y v u Q I rx ry h
  obtain ⟨p, r, xs, rfl, rfl, hp, hr, q⟩ := h
  cases xs with
  | nil => exact op_eqL rfl hu pins s σ H _ _ v u Q I rx ry ⟨p, r, [], [], rfl, rfl, hp, hr, rfl, rfl, q⟩
  | cons a t =>
    cases rx; cases ry
    obtain ⟨ia, ra, pa, za⟩ := I.list hp
    obtain ⟨ib, rb, pb, zb⟩ := I.list hr
    have la := ra.length
    have lb := rb.length
    rw [List.length_cons] at la
    rw [List.length_nil] at lb
    exact SeqAt.eq_list_lengthsAt pa.isList pb.isList (by simp; omega) hu ⟨.bl false, H, I, rfl, q⟩
end
end L2

set_option linter.all false
set_option maxRecDepth 100000
set_option maxHeartbeats 4000000
/-! a statement cut off from what follows; what is never reached; list += list; tuples unlike; tuples walked. -/
namespace L2
open PySem PySem.Spec PyProof.Rows
/-- what holds behind a statement is told of its own -/
@[irreducible] def tCut (t : TS) : TS := fun D σ H => ∃ R : St → Hp → Prop, t { D with nx := R } σ H ∧ ∀ σ' H', R σ' H' → D.nx σ' H'
theorem tCut.mk {t : TS} {D : Ends} {σ : St} {H : Hp} (R : St → Hp → Prop) (h : t { D with nx := R } σ H) (h' : ∀ σ' H', R σ' H' → D.nx σ' H') : tCut t D σ H := by unfold tCut; exact ⟨R, h, h'⟩
section
variable {X : Cx} {K : PySem.W.Frag}
theorem ps_cut {st : Stmt} {t : TS} (h : PS X st t) : PS X st (tCut t) := by
  intro pins s σ H D I q
  unfold tCut at q
  obtain ⟨R, h1, h2⟩ := q
  refine thn (h pins s σ H _ I h1) fun f s' z => ?_
  cases f with
  | next => obtain ⟨σ', H', I', r⟩ := z; exact ⟨σ', H', I', h2 σ' H' r⟩
  | brk => exact z
  | cont => exact z
  | ret u => exact z
end
end L2
namespace L2
open PySem PySem.Spec PyProof.Rows
section
variable {α β : Type} {H : Hp}
end
end L2

set_option linter.all false
set_option maxRecDepth 100000
set_option maxHeartbeats 4000000
/-! exceptions of own classes: an exception leaves a def, and the defs that called it. -/
namespace L2
open PySem PySem.Spec PyProof.Rows
section
variable {X : Cx} {pins : List (Addr × Obj)} {σ : St} {H : Hp} {s : Shared} {E : XK} {Ex : Value → Shared → Prop}
end
end L2

set_option linter.all false
set_option maxRecDepth 100000
set_option maxHeartbeats 4000000
/-! defs that may raise: their bundles, raise, and calls that pass an exception on. -/
namespace L2
open PySem PySem.Spec PyProof.Rows
/-! ### bundles of defs that may raise -/
section
variable {P : Program} {w : World} {K : PySem.W.Frag} {mg : Str → Option Value} {base : Heap}
end
section
variable {X : Cx} {x m : Str} {k : Nat} {ps : List Str} {sp : Sp} {C : Addr} {p pos apos : Pos} {e o : Expr} {es : List Expr} {t : TA} {to : TE} {E : XK}
end
end L2

set_option linter.all false
set_option maxRecDepth 100000
set_option maxHeartbeats 4000000
/-! isinstance of exceptions of own classes. -/
namespace L2
open PySem PySem.Spec PyProof.Rows
section
variable {prog : Program} {w : World} {A : Around} {E : Value → Shared → Prop} {K : PySem.W.Frag} {x C : Addr} {h : Heap} {g : Array GenState} {d : Drawn} {t : Nat} {os : OsState} {o : Obj}
end
end L2

set_option linter.all false
set_option maxRecDepth 100000
set_option maxHeartbeats 4000000
/-! try: one statement that may raise; except C as n. -/
namespace L2
open PySem PySem.Spec PyProof.Rows
section
variable {X : Cx} {pins : List (Addr × Obj)} {σ : St} {H : Hp} {s : Shared}
end
/-! ### one statement that may raise -/
section
variable {X : Cx} {x m : Str} {k : Nat} {ps : List Str} {sp : Sp} {C : Addr} {p pos apos : Pos} {e o : Expr} {es : List Expr} {t : TA} {to : TE}
end
section
variable {X : Cx}
end
end L2

set_option linter.all false
set_option maxRecDepth 100000
set_option maxHeartbeats 4000000
/-! isinstance(e, C), isinstance(e, (C, ..)) for a caught exception. -/
namespace L2
open PySem PySem.Spec PyProof.Rows
section
variable {X : Cx} {K : PySem.W.Frag}
end
end L2

set_option linter.all false
set_option maxRecDepth 100000
set_option maxHeartbeats 4000000
/-! lists of things alike compared; a def that may raise, called where it can't. -/
namespace L2
open PySem PySem.Spec PyProof.Rows
section
variable {X : Cx} {K : PySem.W.Frag} {pins : List (Addr × Obj)} {σ : St} {H : Hp} {s : Shared} {A : Around}
end
end L2

set_option linter.all false
set_option maxRecDepth 100000
set_option maxHeartbeats 4000000
/-! for nets: an item of a list changed by what it is; any of numbers; `is True`; lists of lists of numbers compared; x in a list of numbers. -/
namespace L2
open PySem PySem.Spec PyProof.Rows
section
variable {X : Cx} {K : PySem.W.Frag} {pins : List (Addr × Obj)} {σ : St} {H : Hp} {s : Shared} {A : Around}
end
end L2

set_option linter.all false
set_option maxRecDepth 100000
set_option maxHeartbeats 4000000
/-! sets of a list's numbers, their size; list.insert; a list from its end. -/
namespace L2
open PySem PySem.Spec PyProof.Rows
section
variable {X : Cx} {K : PySem.W.Frag}
theorem bt_ty_set : bootBuiltins "set" = some (.type "set") := by decide +kernel
end
/-! xs[::-1] of a list: some of its items, no more than it has -/
end L2

set_option linter.all false
set_option maxRecDepth 100000
set_option maxHeartbeats 4000000
/-! the set of a text's signs, and its size. -/
namespace L2
open PySem PySem.Spec PyProof.Rows
section
variable {κ : Type} [DecidableEq κ]
/-- what was met, each once -/
def metK (val : Nat → κ) : Nat → List κ
  | 0 => []
  | i + 1 => if val i ∈ metK val i then metK val i else metK val i ++ [val i]
theorem metK_len (val : Nat → κ) : ∀ i, (metK val i).length ≤ i
  | 0 => Nat.le_refl _
  | i + 1 => by
    have := metK_len val i
    rw [metK]
    split
    · omega
    · rw [List.length_append, List.length_singleton]; omega
theorem metK_mem (val : Nat → κ) (i : Nat) (x : κ) : decide (x ∈ metK val (i + 1)) = (decide (x ∈ metK val i) || decide (x = val i)) := by
  rw [metK]
  by_cases h : val i ∈ metK val i
  · rw [if_pos h]
    by_cases e : x = val i
    · rw [e, decide_eq_true h]; rfl
    · rw [decide_eq_false e, Bool.or_false]
  · rw [if_neg h]
    by_cases e : x = val i <;> by_cases e2 : x ∈ metK val i <;> simp [e, e2]
theorem metK_size (val : Nat → κ) (i : Nat) : (metK val (i + 1)).length = if decide (val i ∈ metK val i) = true then (metK val i).length else (metK val i).length + 1 := by
  rw [metK]
  by_cases h : val i ∈ metK val i
  · rw [if_pos h, if_pos (decide_eq_true h)]
  · rw [if_neg h, if_neg (by rw [decide_eq_false h]; exact Bool.false_ne_true), List.length_append, List.length_singleton]
end
section
variable {p : Program} {w : World} {A : Around} {R : Result → Shared → Prop} {it : Addr} {fp wr : List Addr} {gs : Array GenState → Array GenState → Prop} {n : Nat} {Pv : Nat → Value → Prop} {St : Nat → Shared → Prop}
/-- set.update, turn by turn, for keys of any kind -/
theorem upd_turns {κ : Type} [DecidableEq κ] (kd : PySem.KeyKind p w κ) (W : WalksS p w A.in1 it fp wr gs n Pv St) (z : Addr) (nz : z ∉ fp) (val : Nat → κ) (hv : ∀ i v, Pv i v → kd.is (val i) v = true ∧ v.scannable = true) (hb : n + 1 < scanBound) :
    ∀ (k i : Nat) (s : Shared), i + k = n → St i s → s.heap.SetOf kd z (fun x => decide (x ∈ metK val i)) (metK val i).length → (∀ s', Moved (z :: wr) gs s s' → s'.heap.SetOf kd z (fun x => decide (x ∈ metK val n)) (metK val n).length → R (.ok (.ret .none)) s') → codeAny (model p w) A (.builtin "set.update.loop" ⟨[.ref z, .ref it], []⟩) R s := by
  have nzw : z ∉ wr := fun q => nz (W.sub _ q)
  have wid : ∀ b ∈ wr, b ∈ z :: wr := fun b q => List.mem_cons_of_mem _ q
  intro k
  induction k with
  | zero =>
    intro i s ek st so out
    have ei : i = n := by omega
    subst ei
    refine codeAny_builtin PyProof.Rows.F.entry_set_update_loop ?_
    rw [Around.under_plainId PyProof.Rows.F.plain_set_update_loop _]
    show wpAny _ A.in1 (pyNext (.ref it) >>= _) _ _ s
    refine wpAny_bind (W.done s _ _ st fun s1 mv => ?_)
    show wpAny _ A.in1 (ret Value.none) _ _ s1
    refine wpAny_pure (out s1 (mv.mono wid) ?_)
    obtain ⟨o, es, ep, tb, ho, rest⟩ := so
    exact ⟨o, es, ep, tb, mv.heap z _ nzw ho, rest⟩
  | succ k ih =>
    intro i s ek st so out
    refine codeAny_builtin PyProof.Rows.F.entry_set_update_loop ?_
    rw [Around.under_plainId PyProof.Rows.F.plain_set_update_loop _]
    show wpAny _ A.in1 (pyNext (.ref it) >>= _) _ _ s
    refine wpAny_bind (W.item i s _ _ (by omega) st fun v s1 pv st1 mv => ?_)
    obtain ⟨h1, h2⟩ := hv i v pv
    have so1 : s1.heap.SetOf kd z (fun x => decide (x ∈ metK val i)) (metK val i).length := by
      obtain ⟨o, es, ep, tb, ho, rest⟩ := so
      exact ⟨o, es, ep, tb, mv.heap z _ nzw ho, rest⟩
    show wpAny _ A.in1 (holding [v] (setAdd z v) >>= _) _ _ s1
    refine wpAny_bind (wpAny_holding ?_)
    unfold setAdd
    refine wpAny_holding (wpAny_bind (kd.pyHash (k := val i) h1 ?_))
    have rm : (metK val i).length + 1 < scanBound := by have := metK_len val i; omega
    refine wpAny_setAddHashed_of (knd := kd) (s := { s1 with toks := s1.toks + 1 }) h1 h2 so1 rm fun h' sb so2 => ?_
    have so3 : h'.SetOf kd z (fun x => decide (x ∈ metK val (i + 1))) (metK val (i + 1)).length := PyProof.Rows.SetOf_congr so2 (fun x => (metK_mem val i x).symm) (metK_size val i).symm
    refine wpAny_pure ⟨plainId_quiet PyProof.Rows.F.plain_set_update_loop _, ih (i + 1) _ (by omega) (W.frame _ s1 _ _ st1 (Nat.le_succ _) fun b bf o e => ?_) so3 fun s2 mv2 so4 => ?_⟩
    · rw [sb.2 b (fun q : b = z => nz (by rw [← q]; exact bf))]; exact e
    · refine out s2 (Moved.trans W.gtrans ((mv.mono wid).then_heap (Nat.le_succ _) fun b o hn e => ?_) mv2) so4
      rw [sb.2 b (fun q : b = z => hn (by rw [q]; exact List.mem_cons_self))]; exact e
end
section
variable {p : Program} {w : World} {A : Around} {E : Value → Shared → Prop} {s : Shared}
/-- set(a text) -/
theorem set_text {x : Str} {t : Tok} {Q : Value → Shared → Prop} (hh : A.handled = none) (hb : x.cps.size + 1 < scanBound)
    (h : ∀ (h' : Heap) (tk : Nat), h'.SetOf (PySem.strKind p w) s.heap.objs.size (fun k => decide (k ∈ metK (fun i => (⟨#[x.cps.getD i 0]⟩ : Str)) x.cps.size)) (metK (fun i => (⟨#[x.cps.getD i 0]⟩ : Str)) x.cps.size).length →
      (∀ b o, b < s.heap.objs.size → s.heap.get? b = some o → h'.get? b = some o) → Q (.ref s.heap.objs.size) { s with heap := h', toks := tk }) :
    wpAny (model p w) A (call (.type "set") [.str x t]) Q E s := by
  obtain ⟨c, tl, mro⟩ := PySem.F.called_set.mro
  have m1 := PySem.F.called_set.made
  have m2 := PySem.F.called_set.sub
  refine wpAny_call (codeAny_of_tree ?_)
  show wpAny _ _ (callAny (.type "set") _) _ _ _
  refine wpAny_pure ⟨Code.quiet_builtin _ (by decide +kernel), codeAny_builtin PySem.F.entry_type_call ?_⟩
  rw [Around.under_plain (weight_type_call_type "set" [.str x t] []) rfl]
  have m3 := PySem.F.called_set.notType
  have m4 := PySem.F.called_set.canCreate
  have m5 := PySem.F.typeCall_set_1 (.str x t)
  repeat (any_goals (first | assumption | wp_step))
  have pre := code_set_new_1 (prog := p) (w := w) (A := A.in1) (s := s) (.str x t) (E := E) (Q₁ := fun ob s1 => ∃ led : Bool, ob = .ref s.heap.objs.size ∧ s1 = { s with heap := s.heap.push { cls := .type "set", dict := none, data := .set #[] 0 (.fresh 0 0 led) } }) fun led => ⟨led, rfl, rfl⟩
  refine codeAny_mono pre fun r s1 hr => ?_
  cases r with
  | error e => exact hr
  | ok fl =>
    cases fl with
    | ret ob =>
      obtain ⟨led, rfl, rfl⟩ := hr
      generalize hO : ({ cls := .type "set", dict := none, data := .set #[] 0 (.fresh 0 0 led) } : Obj) = O
      have cO : O.cls = .type "set" := by rw [← hO]
      have gO : (s.heap.push O).get? s.heap.objs.size = some O := Heap.get?_push_size _ (by rw [← hO]; rfl)
      have tO : Shared.TypeIs { s with heap := s.heap.push O } (.ref s.heap.objs.size) "set" := ⟨_, gO, cO⟩
      have li := PySem.F.called_set.init.lookup
      have bi := PySem.F.called_set.init.bind (.ref s.heap.objs.size)
      repeat (any_goals (first | assumption | wp_step))
      refine codeAny_mono (codeAny_call_builtin (R := wants (fun r s2 => r = .none ∧ ∃ h' tk, s2 = { s with heap := h', toks := tk } ∧ h'.SetOf (PySem.strKind p w) s.heap.objs.size (fun k => decide (k ∈ metK (fun i => (⟨#[x.cps.getD i 0]⟩ : Str)) x.cps.size)) (metK (fun i => (⟨#[x.cps.getD i 0]⟩ : Str)) x.cps.size).length ∧ ∀ b o, b < s.heap.objs.size → s.heap.get? b = some o → h'.get? b = some o) E) PySem.F.called_set.init.plain PySem.F.entry_set_init (check_set_init_1 tO ?_)) fun r2 s2 hr2 => ?_
      · have q1 : isSubtype (.type "str") (.type "set") = pure false := by rw [isSubtype_type]; kernel_rfl
        have q2 : isSubtype (.type "str") (.type "frozenset") = pure false := by rw [isSubtype_type]; kernel_rfl
        have q3 : (Value.type "str" == Value.type "dict") = false := by decide
        subst hO
        unfold Builtin.«set.__init__» noKeywords Builtin.Frozenset.updateFrom
        generalize hPI : pyIter = PI
        wp_walk
        subst hPI
        refine wpAny_pyIter_str fun o2 St hW st0 => ?_
        refine wpAny_bind (wpAny_runValue ?_)
        have W := hW A.in1.in1.in1 (by simp [hh])
        have ez : (s.heap.push { cls := .type "set", dict := none, data := .set #[] 0 (.fresh 0 0 led) }).objs.size = s.heap.objs.size + 1 := Heap.size_push ..
        have nz : s.heap.objs.size ∉ [(s.heap.push { cls := .type "set", dict := none, data := .set #[] 0 (.fresh 0 0 led) }).objs.size] := by
          rw [ez, List.mem_singleton]
          omega
        refine upd_turns (PySem.strKind p w) W.toS s.heap.objs.size nz (fun i => (⟨#[x.cps.getD i 0]⟩ : Str)) (fun i v sv => ?_) hb x.cps.size 0 _ (Nat.zero_add _) st0 ?_ fun s3 mv so => ?_
        · obtain ⟨cc, u, e1, rfl⟩ := sv
          have e2 : x.cps.getD i 0 = cc := by rw [Array.getD_eq_getD_getElem?, e1]; rfl
          exact ⟨by show (PySem.strKind p w).is ⟨#[x.cps.getD i 0]⟩ (.str ⟨#[cc]⟩ u) = true; rw [e2]; exact strKind_is p w _ u, rfl⟩
        · have g2 := Heap.get?_push_of_some o2 gO
          exact PyProof.Rows.SetOf_congr ((PyProof.Rows.setObjOf_fresh (knd := PySem.strKind p w) led).setOf g2 (by unfold scanBound; omega)) (fun _ => rfl) rfl
        · obtain ⟨h3, g3, d3, t3, os3⟩ := s3
          have a1 : g3 = s.gens := mv.gens
          have a2 : d3 = s.drawn := mv.drawn
          have a3 : os3 = s.os := mv.os
          subst a1 a2 a3
          show wpAny _ _ _ _ _ _
          refine wpAny_pure ?_
          show wpAny _ _ (ret Value.none) _ _ _
          refine wpAny_pure ⟨rfl, h3, t3, rfl, so, fun b o lt e => ?_⟩
          refine mv.heap b o ?_ (Heap.get?_push_of_some _ (Heap.get?_push_of_some _ e))
          rw [ez]
          simp only [List.mem_cons, List.not_mem_nil, or_false, not_or]
          exact ⟨Nat.ne_of_lt lt, Nat.ne_of_lt (Nat.lt_succ_of_lt lt)⟩
      · cases r2 with
        | error e => exact hr2
        | ok fl2 =>
          cases fl2 with
          | ret r =>
            obtain ⟨rfl, h', tk, rfl, so, kp⟩ := hr2
            repeat (any_goals (first | assumption | wp_step))
            exact h _ _ so kp
          | _ => exact hr2.elim
    | _ => exact hr.elim
end
/-- a set told by its size alone -/
def SO (a : Addr) (n : Nat) : HO := .ext fun h => ∃ o es ep t, h.get? a = some o ∧ o.ExactSet ∧ o.data = .set es ep t ∧ t.fits es.size = true ∧ es.size = n ∧ n < 4096
theorem SO.ok {P : Program} {w : World} {H : Hp} {h : Heap} {a : Addr} {n : Nat} (q : ∃ o es ep t, h.get? a = some o ∧ o.ExactSet ∧ o.data = .set es ep t ∧ t.fits es.size = true ∧ es.size = n ∧ n < 4096) : ObjOk P w H h a (SO a n) :=
  ⟨q, let ⟨o, _, _, _, e, _⟩ := q; ⟨o, e⟩, fun _ _ ⟨o, es, ep, t, e, c⟩ k => ⟨o, es, ep, t, k o e, c⟩⟩
/-- how many unlike signs -/
def manyN (l : List Nat) : Nat := (metK (fun i => (⟨#[l.getD i 0]⟩ : Str)) l.length).length
section
variable {X : Cx}
theorem call_setS (hc : X.calm = true) : CallR X (.type "set") (fun xs H Q => ∃ l, xs = [T l] ∧ l.length ≤ 1000 ∧ ∀ p, H p = none → Q (.ref p) (upd H p (SO p (manyN l)))) := by
  intro pins s σ H xs us Q I r h
  obtain ⟨l, rfl, hl, q⟩ := h
  obtain ⟨u, rfl, ru⟩ := r.one
  obtain ⟨t, rfl⟩ := ru
  have hb : (⟨l.toArray⟩ : Str).cps.size + 1 < scanBound := by
    show l.toArray.size + 1 < 4096
    rw [List.size_toArray]
    omega
  refine set_text (x := ⟨l.toArray⟩) (I.ok.hd hc) hb fun h' tk so kp => ?_
  obtain ⟨o, es, ep, tb, ho, hex, hd, hel, hmem, hb2, hf, hn⟩ := so
  have e1 : (metK (fun i => (⟨#[(⟨l.toArray⟩ : Str).cps.getD i 0]⟩ : Str)) (⟨l.toArray⟩ : Str).cps.size).length = manyN l := by
    unfold manyN
    have e : (fun i => (⟨#[(⟨l.toArray⟩ : Str).cps.getD i 0]⟩ : Str)) = fun i => (⟨#[l.getD i 0]⟩ : Str) := by
      funext i
      show (⟨#[l.toArray.getD i 0]⟩ : Str) = _
      rw [Array.getD_eq_getD_getElem?, List.getElem?_toArray, List.getD_eq_getElem?_getD]
    rw [e]
    show (metK _ l.toArray.size).length = _
    rw [List.size_toArray]
  have hz : es.size = manyN l := by rw [← e1]; omega
  have hz2 : manyN l < 4096 := by
    have : es.size < 4096 := hb2
    omega
  exact ⟨.ref s.heap.objs.size, _, I.laid (o := SO s.heap.objs.size (manyN l)) (t' := tk) (fun b o e => kp b o (Heap.lt_size e) e) (Nat.le_refl _) (SO.ok ⟨o, es, ep, tb, ho, hex, hd, hf, hz, hz2⟩), rfl, q _ (I.hok.fresh (Nat.le_refl _))⟩
theorem call_lenSO : CallR X (.builtin "len") (fun xs H Q => ∃ (p : Addr) (n : Nat), xs = [.ref p] ∧ H p = some (SO p n) ∧ Q (.int n) H) := by
  intro pins s σ H xs us Q I r h
  obtain ⟨p, n, rfl, hp, q⟩ := h
  obtain ⟨u, rfl, ru⟩ := r.one
  cases ru
  obtain ⟨⟨o, es, ep, t, ho, hex, hd, hf, hz, hb⟩, _⟩ := I.hok p _ hp
  refine call_len_set ho hex hd hf ?_ ⟨.int es.size, H, I.tok _, ⟨_, rfl⟩, by rw [hz]; exact q⟩
  omega
end
end L2

set_option linter.all false
set_option maxRecDepth 100000
/-! words: a figure as a number, a text by its global name. -/
namespace L2
open PySem PySem.Spec PyProof.Rows
section
variable {X : Cx}
theorem fig_of {c : Nat} (h0 : 48 ≤ c) (h1 : c ≤ 57) : PySem.intText? ⟨[c].toArray⟩ = some ((c : Int) - 48) := by
  have key : ∀ k : Nat, k < 10 → PySem.intText? ⟨[48 + k].toArray⟩ = some (((48 + k : Nat) : Int) - 48) := by decide +kernel
  have := key (c - 48) (by omega)
  rwa [show 48 + (c - 48) = c by omega] at this
/-- int(a figure) -/
theorem call_int_txt : CallR X (.type "int") (fun xs H Q => ∃ c, xs = [T [c]] ∧ 48 ≤ c ∧ c ≤ 57 ∧ Q (.int ((c : Int) - 48)) H) := by
  intro pins s σ H xs us Q I r h
  obtain ⟨c, rfl, h0, h1, q⟩ := h
  obtain ⟨u, rfl, ru⟩ := r.one
  obtain ⟨t, rfl⟩ := ru
  exact PySem.W.KIN.call_text (fig_of h0 h1) (by show 1 ≤ 640; decide) ⟨.int ((c : Int) - 48), H, I.tok _, ⟨_, rfl⟩, q⟩
/-- a text by its global name -/
theorem pe_globS {x : Str} {l : List Nat} {pos : Pos} (hg : Gl X x) (hm : ∃ t, X.mg x = some (.str ⟨l.toArray⟩ t)) (hd : (x == ("__debug__" : Str)) = false := by decide) : PE X (.Name x pos) (tC (T l)) := by
  obtain ⟨t, hm⟩ := hm
  exact pe_glob hg hm ⟨t, rfl⟩ hd
/-- a number by its global name -/
theorem pe_globN {x : Str} {n : Int} {pos : Pos} (hg : Gl X x) (hm : ∃ t, X.mg x = some (.int n t)) (hd : (x == ("__debug__" : Str)) = false := by decide) : PE X (.Name x pos) (tC (.int n)) := by
  obtain ⟨t, hm⟩ := hm
  exact pe_glob hg hm ⟨t, rfl⟩ hd
end
end L2

set_option maxHeartbeats 4000000

namespace K08
open PySem L2
def top (i : Nat) : Stmt := PySem.Challenge.pw_rotafair_k08_whole_rules_of_texts.main.body.getD i (.Pass ⟨0, 0, 0, 0⟩)
abbrev s_fits : Stmt := top 2
abbrev s_last_marks : Stmt := top 3
abbrev s_let_by : Stmt := top 4
abbrev s_count_among : Stmt := top 5
abbrev s_Never_init : Stmt := inClass (top 9) 0
abbrev s_Never_bad : Stmt := inClass (top 9) 2
abbrev s_Most_init : Stmt := inClass (top 10) 0
abbrev s_Most_bad : Stmt := inClass (top 10) 2
abbrev s_Least_init : Stmt := inClass (top 11) 0
abbrev s_Least_bad : Stmt := inClass (top 11) 2
abbrev s_Both_init : Stmt := inClass (top 12) 0
abbrev s_Either_init : Stmt := inClass (top 13) 0
abbrev s_Not_init : Stmt := inClass (top 14) 0
abbrev s_Both_bad : Stmt := inClass (top 12) 2
abbrev s_Either_bad : Stmt := inClass (top 13) 2
abbrev s_Not_bad : Stmt := inClass (top 14) 2
abbrev s_made_of : Stmt := top 34
abbrev s_is_figure : Stmt := top 31
abbrev s_is_word : Stmt := top 32
abbrev s_are_marks : Stmt := top 33
abbrev s_last_outside : Stmt := top 28
abbrev s_is_count : Stmt := top 30
abbrev s_read_plain : Stmt := top 29
abbrev s_read_words : Stmt := top 27
abbrev s_read_rule : Stmt := top 26
abbrev s_count_text : Stmt := top 6
abbrev s_Never_text : Stmt := inClass (top 9) 3
abbrev s_Most_text : Stmt := inClass (top 10) 3
abbrev s_Least_text : Stmt := inClass (top 11) 3
abbrev s_is_joined : Stmt := top 15
abbrev s_part_text : Stmt := top 7
abbrev s_Both_text : Stmt := inClass (top 12) 3
abbrev s_Either_text : Stmt := inClass (top 13) 3
abbrev s_Not_text : Stmt := inClass (top 14) 3
abbrev s_law_letters : Stmt := top 38
abbrev s_law_signs : Stmt := top 39
abbrev s_law_stream : Stmt := top 37
abbrev s_law_plain : Stmt := top 40
abbrev s_law_tree : Stmt := top 41
abbrev s_law_within : Stmt := top 42
abbrev s_law_text : Stmt := top 43
abbrev s_law_lets : Stmt := top 44
abbrev s_law_word_lies : Stmt := top 45
abbrev s_law_bad : Stmt := top 46
abbrev s_bad_days : Stmt := top 16
abbrev s_law_cell_at : Stmt := top 36
abbrev s_law : Stmt := top 47
theorem sc_fits : FnScope ["sign", "mark"] ["sign", "mark"] (defScope s_fits) := ⟨rfl, rfl, rfl, by decide +kernel, rfl, by decide +kernel, by decide +kernel⟩
theorem sc_last_marks : FnScope ["marks", "many"] ["marks", "many"] (defScope s_last_marks) := ⟨rfl, rfl, rfl, by decide +kernel, rfl, by decide +kernel, by decide +kernel⟩
theorem sc_let_by : FnScope ["signs", "mark"] ["signs", "mark"] (defScope s_let_by) := ⟨rfl, rfl, rfl, by decide +kernel, rfl, by decide +kernel, by decide +kernel⟩
theorem sc_count_among : FnScope ["signs", "marks"] ["signs", "marks"] (defScope s_count_among) := ⟨rfl, rfl, rfl, by decide +kernel, rfl, by decide +kernel, by decide +kernel⟩
theorem sc_Never_init : FnScope ["self", "word"] ["self", "word"] (defScope s_Never_init) := ⟨rfl, rfl, rfl, by decide +kernel, rfl, by decide +kernel, by decide +kernel⟩
theorem sc_Never_bad : FnScope ["self", "marks", "nearest"] ["self", "marks"] (defScope s_Never_bad) := ⟨rfl, rfl, rfl, by decide +kernel, rfl, by decide +kernel, by decide +kernel⟩
theorem sc_Most_init : FnScope ["self", "many", "marks", "days"] ["self", "many", "marks", "days"] (defScope s_Most_init) := ⟨rfl, rfl, rfl, by decide +kernel, rfl, by decide +kernel, by decide +kernel⟩
theorem sc_Most_bad : FnScope ["self", "marks"] ["self", "marks"] (defScope s_Most_bad) := ⟨rfl, rfl, rfl, by decide +kernel, rfl, by decide +kernel, by decide +kernel⟩
theorem sc_Least_init : FnScope ["self", "many", "marks", "days"] ["self", "many", "marks", "days"] (defScope s_Least_init) := ⟨rfl, rfl, rfl, by decide +kernel, rfl, by decide +kernel, by decide +kernel⟩
theorem sc_Least_bad : FnScope ["self", "marks"] ["self", "marks"] (defScope s_Least_bad) := ⟨rfl, rfl, rfl, by decide +kernel, rfl, by decide +kernel, by decide +kernel⟩
theorem sc_Both_init : FnScope ["self", "left", "right"] ["self", "left", "right"] (defScope s_Both_init) := ⟨rfl, rfl, rfl, by decide +kernel, rfl, by decide +kernel, by decide +kernel⟩
theorem sc_Either_init : FnScope ["self", "left", "right"] ["self", "left", "right"] (defScope s_Either_init) := ⟨rfl, rfl, rfl, by decide +kernel, rfl, by decide +kernel, by decide +kernel⟩
theorem sc_Not_init : FnScope ["self", "inner"] ["self", "inner"] (defScope s_Not_init) := ⟨rfl, rfl, rfl, by decide +kernel, rfl, by decide +kernel, by decide +kernel⟩
theorem sc_Both_bad : FnScope ["self", "marks"] ["self", "marks"] (defScope s_Both_bad) := ⟨rfl, rfl, rfl, by decide +kernel, rfl, by decide +kernel, by decide +kernel⟩
theorem sc_Either_bad : FnScope ["self", "marks"] ["self", "marks"] (defScope s_Either_bad) := ⟨rfl, rfl, rfl, by decide +kernel, rfl, by decide +kernel, by decide +kernel⟩
theorem sc_Not_bad : FnScope ["self", "marks"] ["self", "marks"] (defScope s_Not_bad) := ⟨rfl, rfl, rfl, by decide +kernel, rfl, by decide +kernel, by decide +kernel⟩
theorem sc_made_of : FnScope ["word", "signs"] ["word", "signs"] (defScope s_made_of) := ⟨rfl, rfl, rfl, by decide +kernel, rfl, by decide +kernel, by decide +kernel⟩
theorem sc_is_figure : FnScope ["word", "figures"] ["word", "figures"] (defScope s_is_figure) := ⟨rfl, rfl, rfl, by decide +kernel, rfl, by decide +kernel, by decide +kernel⟩
theorem sc_is_word : FnScope ["word"] ["word"] (defScope s_is_word) := ⟨rfl, rfl, rfl, by decide +kernel, rfl, by decide +kernel, by decide +kernel⟩
theorem sc_are_marks : FnScope ["word"] ["word"] (defScope s_are_marks) := ⟨rfl, rfl, rfl, by decide +kernel, rfl, by decide +kernel, by decide +kernel⟩
theorem sc_last_outside : FnScope ["words", "wanted", "found", "height", "place", "word"] ["words", "wanted"] (defScope s_last_outside) := ⟨rfl, rfl, rfl, by decide +kernel, rfl, by decide +kernel, by decide +kernel⟩
theorem sc_is_count : FnScope ["words", "first"] ["words", "first"] (defScope s_is_count) := ⟨rfl, rfl, rfl, by decide +kernel, rfl, by decide +kernel, by decide +kernel⟩
theorem sc_read_plain : FnScope ["words"] ["words"] (defScope s_read_plain) := ⟨rfl, rfl, rfl, by decide +kernel, rfl, by decide +kernel, by decide +kernel⟩
theorem sc_read_words : FnScope ["words", "place"] ["words"] (defScope s_read_words) := ⟨rfl, rfl, rfl, by decide +kernel, rfl, by decide +kernel, by decide +kernel⟩
theorem sc_read_rule : FnScope ["text", "words"] ["text"] (defScope s_read_rule) := ⟨rfl, rfl, rfl, by decide +kernel, rfl, by decide +kernel, by decide +kernel⟩
theorem sc_count_text : FnScope ["word", "many", "marks", "days"] ["word", "many", "marks", "days"] (defScope s_count_text) := ⟨rfl, rfl, rfl, by decide +kernel, rfl, by decide +kernel, by decide +kernel⟩
theorem sc_Never_text : FnScope ["self"] ["self"] (defScope s_Never_text) := ⟨rfl, rfl, rfl, by decide +kernel, rfl, by decide +kernel, by decide +kernel⟩
theorem sc_Most_text : FnScope ["self"] ["self"] (defScope s_Most_text) := ⟨rfl, rfl, rfl, by decide +kernel, rfl, by decide +kernel, by decide +kernel⟩
theorem sc_Least_text : FnScope ["self"] ["self"] (defScope s_Least_text) := ⟨rfl, rfl, rfl, by decide +kernel, rfl, by decide +kernel, by decide +kernel⟩
theorem sc_is_joined : FnScope ["rule"] ["rule"] (defScope s_is_joined) := ⟨rfl, rfl, rfl, by decide +kernel, rfl, by decide +kernel, by decide +kernel⟩
theorem sc_part_text : FnScope ["rule", "in_brackets", "text"] ["rule", "in_brackets"] (defScope s_part_text) := ⟨rfl, rfl, rfl, by decide +kernel, rfl, by decide +kernel, by decide +kernel⟩
theorem sc_Both_text : FnScope ["self", "left", "right"] ["self"] (defScope s_Both_text) := ⟨rfl, rfl, rfl, by decide +kernel, rfl, by decide +kernel, by decide +kernel⟩
theorem sc_Either_text : FnScope ["self", "left", "right"] ["self"] (defScope s_Either_text) := ⟨rfl, rfl, rfl, by decide +kernel, rfl, by decide +kernel, by decide +kernel⟩
theorem sc_Not_text : FnScope ["self"] ["self"] (defScope s_Not_text) := ⟨rfl, rfl, rfl, by decide +kernel, rfl, by decide +kernel, by decide +kernel⟩
theorem sc_law_letters : FnScope ["_law_cell", "_law_letters_here", "_law_first"] ["_law_cell"] (defScope s_law_letters) := ⟨rfl, rfl, rfl, by decide +kernel, rfl, by decide +kernel, by decide +kernel⟩
theorem sc_law_signs : FnScope ["_law_xs", "_law_signs_here", "_law_each_once", "_law_found", "_law_number", "_law_sign"] ["_law_xs", "_law_signs_here", "_law_each_once"] (defScope s_law_signs) := ⟨rfl, rfl, rfl, by decide +kernel, rfl, by decide +kernel, by decide +kernel⟩
theorem sc_law_stream : FnScope ["_law_cell", "_law_many", "_law_found", "_law_number", "_law_k"] ["_law_cell", "_law_many"] (defScope s_law_stream) := ⟨rfl, rfl, rfl, by decide +kernel, rfl, by decide +kernel, by decide +kernel⟩
theorem sc_law_plain : FnScope ["_law_cell", "_law_two", "_law_xs", "_law_more", "_law_word", "_law_marks"] ["_law_cell", "_law_two"] (defScope s_law_plain) := ⟨rfl, rfl, rfl, by decide +kernel, rfl, by decide +kernel, by decide +kernel⟩
theorem sc_law_tree : FnScope ["_law_cells", "_law_two", "_law_held", "_law_cell", "_law_way", "_law_right"] ["_law_cells", "_law_two"] (defScope s_law_tree) := ⟨rfl, rfl, rfl, by decide +kernel, rfl, by decide +kernel, by decide +kernel⟩
theorem sc_law_within : FnScope ["_law_tree_here", "_law_height", "_law_extra", "_law_text_here", "_law_here"] ["_law_tree_here", "_law_height", "_law_extra"] (defScope s_law_within) := ⟨rfl, rfl, rfl, by decide +kernel, rfl, by decide +kernel, by decide +kernel⟩
theorem sc_law_text : FnScope ["_law_tree_here", "_law_extra", "_law_counted", "_law_one", "_law_two"] ["_law_tree_here", "_law_extra"] (defScope s_law_text) := ⟨rfl, rfl, rfl, by decide +kernel, rfl, by decide +kernel, by decide +kernel⟩
theorem sc_law_lets : FnScope ["_law_sign", "_law_mark"] ["_law_sign", "_law_mark"] (defScope s_law_lets) := ⟨rfl, rfl, rfl, by decide +kernel, rfl, by decide +kernel, by decide +kernel⟩
theorem sc_law_word_lies : FnScope ["_law_word", "_law_marks", "_law_k"] ["_law_word", "_law_marks"] (defScope s_law_word_lies) := ⟨rfl, rfl, rfl, by decide +kernel, rfl, by decide +kernel, by decide +kernel⟩
theorem sc_law_bad : FnScope ["_law_tree_here", "_law_marks", "_law_many", "_law_k", "_law_mark"] ["_law_tree_here", "_law_marks"] (defScope s_law_bad) := ⟨rfl, rfl, rfl, by decide +kernel, rfl, by decide +kernel, by decide +kernel⟩
theorem sc_bad_days : FnScope ["rule", "past", "row"] ["rule", "past", "row"] (defScope s_bad_days) := ⟨rfl, rfl, rfl, by decide +kernel, rfl, by decide +kernel, by decide +kernel⟩
theorem sc_law_cell_at : FnScope ["_law_script", "_law_k"] ["_law_script", "_law_k"] (defScope s_law_cell_at) := ⟨rfl, rfl, rfl, by decide +kernel, rfl, by decide +kernel, by decide +kernel⟩
theorem sc_law : FnScope ["_law_script", "_law_two", "_law_tree_here", "_law_extra", "_law_text_here", "_law_cell", "_law_past", "_law_row", "_law_due", "_law_rule"] ["_law_script"] (defScope s_law) := ⟨rfl, rfl, rfl, by decide +kernel, rfl, by decide +kernel, by decide +kernel⟩
structure Tx (K : PySem.W.Frag) (mg : Str → Option Value) (C_Never C_Most C_Least C_Both C_Either C_Not : Addr) : Prop where
  f_fits : GF K mg "fits" s_fits
  f_last_marks : GF K mg "last_marks" s_last_marks
  f_let_by : GF K mg "let_by" s_let_by
  f_count_among : GF K mg "count_among" s_count_among
  m_Never_init : MF K C_Never "__init__" "Never.__init__" s_Never_init
  m_Never_bad : MF K C_Never "bad" "Never.bad" s_Never_bad
  m_Most_init : MF K C_Most "__init__" "Most.__init__" s_Most_init
  m_Most_bad : MF K C_Most "bad" "Most.bad" s_Most_bad
  m_Least_init : MF K C_Least "__init__" "Least.__init__" s_Least_init
  m_Least_bad : MF K C_Least "bad" "Least.bad" s_Least_bad
  m_Both_init : MF K C_Both "__init__" "Both.__init__" s_Both_init
  m_Either_init : MF K C_Either "__init__" "Either.__init__" s_Either_init
  m_Not_init : MF K C_Not "__init__" "Not.__init__" s_Not_init
  m_Both_bad : MF K C_Both "bad" "Both.bad" s_Both_bad
  m_Either_bad : MF K C_Either "bad" "Either.bad" s_Either_bad
  m_Not_bad : MF K C_Not "bad" "Not.bad" s_Not_bad
  f_made_of : GF K mg "made_of" s_made_of
  f_is_figure : GF K mg "is_figure" s_is_figure
  f_is_word : GF K mg "is_word" s_is_word
  f_are_marks : GF K mg "are_marks" s_are_marks
  f_last_outside : GF K mg "last_outside" s_last_outside
  f_is_count : GF K mg "is_count" s_is_count
  f_read_plain : GF K mg "read_plain" s_read_plain
  f_read_words : GF K mg "read_words" s_read_words
  f_read_rule : GF K mg "read_rule" s_read_rule
  f_count_text : GF K mg "count_text" s_count_text
  m_Never_text : MF K C_Never "text" "Never.text" s_Never_text
  m_Most_text : MF K C_Most "text" "Most.text" s_Most_text
  m_Least_text : MF K C_Least "text" "Least.text" s_Least_text
  f_is_joined : GF K mg "is_joined" s_is_joined
  f_part_text : GF K mg "part_text" s_part_text
  m_Both_text : MF K C_Both "text" "Both.text" s_Both_text
  m_Either_text : MF K C_Either "text" "Either.text" s_Either_text
  m_Not_text : MF K C_Not "text" "Not.text" s_Not_text
  f_law_letters : GF K mg "_law_letters" s_law_letters
  f_law_signs : GF K mg "_law_signs" s_law_signs
  f_law_stream : GF K mg "_law_stream" s_law_stream
  f_law_plain : GF K mg "_law_plain" s_law_plain
  f_law_tree : GF K mg "_law_tree" s_law_tree
  f_law_within : GF K mg "_law_within" s_law_within
  f_law_text : GF K mg "_law_text" s_law_text
  f_law_lets : GF K mg "_law_lets" s_law_lets
  f_law_word_lies : GF K mg "_law_word_lies" s_law_word_lies
  f_law_bad : GF K mg "_law_bad" s_law_bad
  f_bad_days : GF K mg "bad_days" s_bad_days
  f_law_cell_at : GF K mg "_law_cell_at" s_law_cell_at
  f_law : GF K mg "law" s_law
  c_Never : CF K mg "Never" C_Never
  c_Most : CF K mg "Most" C_Most
  c_Least : CF K mg "Least" C_Least
  c_Both : CF K mg "Both" C_Both
  c_Either : CF K mg "Either" C_Either
  c_Not : CF K mg "Not" C_Not
  y_Never : InsTy K C_Never
  i_Never_Both : PySem.W.kitOne K (.ref C_Never) (.ref C_Both) = some false
  i_Never_Either : PySem.W.kitOne K (.ref C_Never) (.ref C_Either) = some false
  y_Most : InsTy K C_Most
  i_Most_Both : PySem.W.kitOne K (.ref C_Most) (.ref C_Both) = some false
  i_Most_Either : PySem.W.kitOne K (.ref C_Most) (.ref C_Either) = some false
  y_Least : InsTy K C_Least
  i_Least_Both : PySem.W.kitOne K (.ref C_Least) (.ref C_Both) = some false
  i_Least_Either : PySem.W.kitOne K (.ref C_Least) (.ref C_Either) = some false
  y_Both : InsTy K C_Both
  i_Both_Both : PySem.W.kitOne K (.ref C_Both) (.ref C_Both) = some true
  i_Both_Either : PySem.W.kitOne K (.ref C_Both) (.ref C_Either) = some false
  y_Either : InsTy K C_Either
  i_Either_Both : PySem.W.kitOne K (.ref C_Either) (.ref C_Both) = some false
  i_Either_Either : PySem.W.kitOne K (.ref C_Either) (.ref C_Either) = some true
  y_Not : InsTy K C_Not
  i_Not_Both : PySem.W.kitOne K (.ref C_Not) (.ref C_Both) = some false
  i_Not_Either : PySem.W.kitOne K (.ref C_Not) (.ref C_Either) = some false
  n_Never_word : NoAttr K C_Never "word"
  n_Most_many : NoAttr K C_Most "many"
  n_Most_marks : NoAttr K C_Most "marks"
  n_Most_days : NoAttr K C_Most "days"
  n_Least_many : NoAttr K C_Least "many"
  n_Least_marks : NoAttr K C_Least "marks"
  n_Least_days : NoAttr K C_Least "days"
  n_Both_left : NoAttr K C_Both "left"
  n_Both_right : NoAttr K C_Both "right"
  n_Either_left : NoAttr K C_Either "left"
  n_Either_right : NoAttr K C_Either "right"
  n_Not_inner : NoAttr K C_Not "inner"
  z_all : mg "all" = none
  z_any : mg "any" = none
  z_enumerate : mg "enumerate" = none
  z_int : mg "int" = none
  z_isinstance : mg "isinstance" = none
  z_len : mg "len" = none
  z_max : mg "max" = none
  z_min : mg "min" = none
  z_range : mg "range" = none
  z_set : mg "set" = none
  z_str : mg "str" = none
  z_zip : mg "zip" = none
  k_MOST_WORDS : ∃ t, mg "MOST_WORDS" = some (.int 60 t)
  k_MARK_SIGNS : ∃ t, mg "MARK_SIGNS" = some (.str ⟨[65, 66, 67, 68, 69, 70, 71, 72, 73, 74, 75, 76, 77, 78, 79, 80, 81, 82, 83, 84, 85, 86, 87, 88, 89, 90, 45, 35].toArray⟩ t)
  k_WORD_SIGNS : ∃ t, mg "WORD_SIGNS" = some (.str ⟨[65, 66, 67, 68, 69, 70, 71, 72, 73, 74, 75, 76, 77, 78, 79, 80, 81, 82, 83, 84, 85, 86, 87, 88, 89, 90, 45, 35, 63].toArray⟩ t)
  k_MANY_FIGURES : ∃ t, mg "MANY_FIGURES" = some (.str ⟨[48, 49, 50, 51, 52, 53, 54, 55].toArray⟩ t)
  k_DAYS_FIGURES : ∃ t, mg "DAYS_FIGURES" = some (.str ⟨[49, 50, 51, 52, 53, 54, 55].toArray⟩ t)
theorem small6 {n : Nat} (h : n ≤ 1000) : n ≤ sizeLine := Nat.le_trans h (by decide)
theorem cut_from {α : Type} (l : List α) (k : Int) (h0 : 0 ≤ k) : cutN l (some k) none = l.drop k.toNat := by
  unfold cutN
  have e : HT.sIx l.length 0 (some k) = min k.toNat l.length := by
    show (if k < 0 then _ else min k.toNat l.length) = _
    rw [if_neg (by omega)]
  rw [e, HT.sIx_none]
  by_cases h : k.toNat ≤ l.length
  · rw [Nat.min_eq_left h]
    exact List.take_of_length_le (by rw [List.length_drop]; omega)
  · rw [Nat.min_eq_right (by omega), List.drop_eq_nil_of_le (Nat.le_refl _), List.drop_eq_nil_of_le (by omega), List.take_nil]
theorem cut_to {α : Type} (l : List α) (k : Int) (h0 : 0 ≤ k) : cutN l none (some k) = l.take k.toNat := by
  unfold cutN
  have e : HT.sIx l.length l.length (some k) = min k.toNat l.length := by
    show (if k < 0 then _ else min k.toNat l.length) = _
    rw [if_neg (by omega)]
  rw [e, HT.sIx_none, List.drop_zero, Nat.sub_zero]
  by_cases h : k.toNat ≤ l.length
  · rw [Nat.min_eq_left h]
  · rw [Nat.min_eq_right (by omega), List.take_of_length_le (Nat.le_refl _), List.take_of_length_le (by omega)]
theorem cut_len {α : Type} (l : List α) (lo hi : Option Int) : (cutN l lo hi).length ≤ l.length := by
  unfold cutN
  rw [List.length_take, List.length_drop]
  omega
theorem at_some {α : Type} (l : List α) (i : Int) (h0 : 0 ≤ i) (h : i < l.length) : ∃ c, atI l i = some c ∧ l[i.toNat]? = some c := by
  have hi : i.toNat < l.length := by omega
  have e : i = ((i.toNat : Nat) : Int) := by omega
  have q : atI l ((i.toNat : Nat) : Int) = some l[i.toNat] := atI_nat (by simp [hi])
  rw [← e] at q
  exact ⟨l[i.toNat], q, List.getElem?_eq_getElem hi⟩
theorem at_int (ns : List Int) (i : Int) (h0 : 0 ≤ i) (h : i < ns.length) : ∃ z, atI (ns.map V.int) i = some (.int z) ∧ ns[i.toNat]? = some z := by
  obtain ⟨c, h1, h2⟩ := at_some (ns.map V.int) i h0 (by rw [List.length_map]; exact h)
  rw [List.getElem?_map] at h2
  cases hz : ns[i.toNat]? with
  | none => rw [hz] at h2; cases h2
  | some z =>
    rw [hz] at h2
    have e : c = .int z := (Option.some.inj h2).symm
    subst e
    exact ⟨z, h1, rfl⟩
theorem ones_txt {ys : List V} (h : ∀ y ∈ ys, ∃ c, y = T [c]) : ∃ cs : List Nat, ys = (cs.map fun c => [c]).map T ∧ cs.length = ys.length := by
  induction ys with
  | nil => exact ⟨[], rfl, rfl⟩
  | cons y r ih =>
    obtain ⟨c, rfl⟩ := h y List.mem_cons_self
    obtain ⟨cs, e, hl⟩ := ih fun z hz => h z (List.mem_cons_of_mem _ hz)
    exact ⟨c :: cs, by rw [e]; rfl, by simp [hl]⟩
def fitsV (x y : V) : Bool := if decide (x = T [63]) = true then true else if decide (x = T [35]) = true then !decide (y = T [45]) else decide (x = y)
def sp_fits : Sp := fun vs H Q _ => ∃ a b, vs = [T a, T b] ∧ Q (.bl (fitsV (T a) (T b))) H
def sp_last : Sp := fun vs H Q _ => ∃ l n, vs = [T l, .int n] ∧ l.length ≤ 1000 ∧ 0 ≤ n ∧ Q (T (l.drop (l.length - n.toNat))) H
def sp_cell (K : PySem.W.Frag) : Sp := fun vs H Q _ => ∃ (a : Addr) (ns : List Int) (k : Int), vs = [.ref a, .int k] ∧ SqL K H a (ns.map V.int) ∧ 0 ≤ k ∧ ∀ v, Q (.int v) H
def sp_stream : Sp := fun vs H Q _ => ∃ c m, vs = [.int c, .int m] ∧ 0 ≤ m ∧ m ≤ 100 ∧ ∀ (a : Addr) (H' : Hp) (xs : List Int), Same H H' → H' a = some (.lst (xs.map V.int)) → (xs.length : Int) = m → Q (.ref a) H'
def sp_law (K : PySem.W.Frag) : Sp := fun vs H Q _ => ∃ (a : Addr) (ns : List Int), vs = [.ref a] ∧ SqL K H a (ns.map V.int) ∧ ns.length ≤ 63 ∧ ∀ H', Q (.bl true) H'

theorem noloop {p : (Nat → Nat → St → Hp → Prop) → Prop} (h : ∃ W, p W) : ∃ W, p W := h
theorem nowhile {p : (Nat → St → Hp → Prop) → Prop} (h : ∃ W, p W) : ∃ W, p W := h
theorem iteNT {A B : Prop} (h : B) : if (!true) = true then A else B := h
theorem iteNF {A B : Prop} (h : A) : if (!false) = true then A else B := h
theorem cdiv_of {i j : Int} (h1 : 0 < j) (h2 : j < 1073741824) : CDiv i j := ⟨h1, h2⟩
theorem cmulL {i j : Int} (h1 : -(2 ^ 64) < i) (h2 : i < 2 ^ 64) : CMul i j := .inl ⟨h1, h2⟩
theorem cmulR {i j : Int} (h1 : -(2 ^ 64) < j) (h2 : j < 2 ^ 64) : CMul i j := .inr ⟨h1, h2⟩
theorem pos_of {n : Int} (h : 0 < n) : 0 < n := h
@[irreducible] def Here (p : Prop) : Prop := p
theorem Here.mk {p : Prop} (h : p) : Here p := by unfold Here; exact h
theorem Here.out {p : Prop} (h : Here p) : p := by unfold Here at h; exact h
theorem gName_nf {i : Nat} {v : V} {σ σ' : St} {H : Hp} {Q : St → Hp → Prop} (e : σ.set i (some v) = σ') (h : Q σ' H) : gName i v σ H Q := by subst e; exact h
theorem small8 {n : Nat} (h : n ≤ 100000) : n ≤ sizeLine := Nat.le_trans h (by decide)
theorem small9 {n : Nat} (h : n ≤ 100000) : n < sizeLine := Nat.lt_of_le_of_lt h (by decide)

local macro_rules | `(tactic| walk_at "len") => `(tactic| (simp only [List.length_append, List.length_cons, List.length_nil, List.length_singleton, List.length_take, List.length_drop, List.length_map, List.length_reverse, List.length_range] <;> omega))
local macro_rules | `(tactic| walk_at "st") => `(tactic| (try simp only [L2.start, List.map_cons, List.map_nil, List.length_cons, List.length_nil, Nat.reduceAdd, Nat.reduceSub, List.replicate_succ, List.replicate_zero, List.cons_append, List.nil_append]))
local macro_rules | `(tactic| walk_at "lk") => `(tactic| fail)
local macro_rules | `(tactic| walk_at "cl") => `(tactic| first
  | (with_reducible assumption) | rfl
  | (with_reducible show @LE.le Nat _ _ _; first | omega | (walk_at "len") | exact small8 (by omega) | exact small8 (by walk_at "len"))
  | (with_reducible show @LT.lt Nat _ _ _; first | omega | (walk_at "len") | exact small9 (by omega) | exact small9 (by walk_at "len"))
  | (with_reducible show @LE.le Int _ _ _; omega) | (with_reducible show @LT.lt Int _ _ _; omega)
  | ((with_reducible refine cdiv_of ?_ ?_) <;> omega) | ((with_reducible refine cmulL ?_ ?_) <;> omega) | ((with_reducible refine cmulR ?_ ?_) <;> omega) | ((with_reducible refine pos_of ?_) <;> omega)
  | exact upd_same | exact same_new (by with_reducible assumption) _ _ _ upd_same | exact SqL.of (by with_reducible assumption) | exact SqL.of upd_same | exact SqT.of upd_same | exact SqT.of (by with_reducible assumption) | exact Or.inl (by with_reducible assumption) | exact Or.inl (SqL.of (by with_reducible assumption)) | exact Or.inl (SqL.of upd_same)
  | exact Or.inl ⟨rfl, _, SqL.of (by with_reducible assumption)⟩ | exact Or.inl ⟨rfl, _, SqL.of upd_same⟩ | exact Or.inl ⟨rfl, _, by with_reducible assumption⟩ | exact ⟨_, by with_reducible assumption⟩ | exact ⟨_, SqL.of (by with_reducible assumption)⟩ | exact ⟨_, SqL.of upd_same⟩
  | exact ⟨by omega, by omega⟩ | assumption | walk_at "lk")
local macro_rules | `(tactic| walk_at "rd1") => `(tactic| first
  | (with_reducible refine gName_nf (by first | (simp only [List.set_cons_zero, List.set_cons_succ]; done) | (simp only [List.set_cons_zero, List.set_cons_succ]; rfl)) ?_)
  | (with_reducible refine iteT ?_) | (with_reducible refine iteF ?_) | (with_reducible refine iteNT ?_) | (with_reducible refine iteNF ?_)
  | ((fail_if_success apply noloop); (fail_if_success apply nowhile); apply Exists.intro)
  | (apply And.intro; (· walk_at "cl"))
  | (refine Or.inl ⟨_, rfl, ?_⟩) | (refine Or.inr (Or.inl ⟨_, rfl, ?_⟩)) | (refine Or.inr (Or.inr (Or.inl ⟨_, rfl, ?_⟩))) | (refine Or.inr (Or.inr (Or.inr (Or.inl ⟨_, rfl, ?_⟩)))) | (refine Or.inr (Or.inr (Or.inr (Or.inr ⟨_, _, rfl, by with_reducible assumption, ?_⟩)))))
local macro_rules | `(tactic| walk_at "rd") => `(tactic| repeat (walk_at "rd1"))

/-! ### counts -/
def letV (m : List Nat) (c : Nat) : Bool := (m.map fun s => fitsV (T [s]) (T [c])).any id
def cntV (m l : List Nat) : Nat := (l.filter (letV m)).length
def mostB (n : Int) (m : List Nat) (d : Int) (l : List Nat) : Bool := decide (n < (cntV m (l.drop (l.length - d.toNat)) : Int))
def leastB (n : Int) (m : List Nat) (d : Int) (l : List Nat) : Bool := if (l.length : Int) < d then false else decide ((cntV m (l.drop (l.length - d.toNat)) : Int) < n)
def CntAt (C : Addr) (H : Hp) (p : Addr) (n : Int) (m : List Nat) (d : Int) : Prop := ∃ dx, H p = some (.ins C dx [("many", .int n), ("marks", T m), ("days", .int d)])
theorem CntAt.same {C : Addr} {H H' : Hp} {p : Addr} {n d : Int} {m : List Nat} (h : CntAt C H p n m d) (s : Same H H') : CntAt C H' p n m d := let ⟨dx, e⟩ := h; ⟨dx, s _ _ e⟩
theorem lk_many (x y z : V) : List.lookup ("many" : Str) [(("many" : Str), x), ("marks", y), ("days", z)] = some x := by rw [List.lookup_cons, beq_self_eq_true]
theorem lk_marks (x y z : V) : List.lookup ("marks" : Str) [(("many" : Str), x), ("marks", y), ("days", z)] = some y := by
  rw [List.lookup_cons, beq_eq_false_iff_ne.mpr (by decide +kernel), List.lookup_cons, beq_self_eq_true]
theorem lk_days (x y z : V) : List.lookup ("days" : Str) [(("many" : Str), x), ("marks", y), ("days", z)] = some z := by
  rw [List.lookup_cons, beq_eq_false_iff_ne.mpr (by decide +kernel), List.lookup_cons, beq_eq_false_iff_ne.mpr (by decide +kernel), List.lookup_cons, beq_self_eq_true]
theorem put3 (n : Int) (m : List Nat) (d : Int) : putF "days" (.int d) (putF "marks" (T m) (putF "many" (.int n) [])) = ([("many", .int n), ("marks", T m), ("days", .int d)] : List (Str × V)) := by
  have h1 : ¬ (("many" : Str) = "marks") := by decide +kernel
  have h2 : ¬ (("many" : Str) = "days") := by decide +kernel
  have h3 : ¬ (("marks" : Str) = "days") := by decide +kernel
  simp [putF, h1, h2, h3]
def sp_let : Sp := fun vs H Q _ => ∃ m c, vs = [T m, T [c]] ∧ m.length ≤ 1000 ∧ ∀ H', Same H H' → Q (.bl (letV m c)) H'
def sp_count : Sp := fun vs H Q _ => ∃ m l, vs = [T m, T l] ∧ m.length ≤ 1000 ∧ l.length ≤ 1000 ∧ ∀ H', Same H H' → Q (.int (cntV m l)) H'
def sp_init3 (C : Addr) : Sp := fun vs H Q _ => ∃ p dx n m d, vs = [.ref p, .int n, T m, .int d] ∧ H p = some (.ins C dx []) ∧ Q .non (upd (upd (upd H p (.ins C dx (putF "many" (.int n) []))) p (.ins C dx (putF "marks" (T m) (putF "many" (.int n) [])))) p (.ins C dx [("many", .int n), ("marks", T m), ("days", .int d)]))
def sp_bad3 (C : Addr) (B : Int → List Nat → Int → List Nat → Bool) : Sp := fun vs H Q _ => ∃ p n m d l, vs = [.ref p, T l] ∧ CntAt C H p n m d ∧ m.length ≤ 1000 ∧ 0 ≤ d ∧ l.length ≤ 1000 ∧ ∀ H', Same H H' → Q (.bl (B n m d l)) H'

/-! ### rules as trees -/
def nevB (w l : List Nat) : Bool := if l.length < w.length then false else ((w.zip (l.drop (l.length - w.length))).map fun p => fitsV (T [p.1]) (T [p.2])).all id
def NevAt (C : Addr) (H : Hp) (p : Addr) (w : List Nat) : Prop := ∃ dx, H p = some (.ins C dx [("word", T w)])
theorem NevAt.same {C : Addr} {H H' : Hp} {p : Addr} {w : List Nat} (h : NevAt C H p w) (s : Same H H') : NevAt C H' p w := let ⟨dx, e⟩ := h; ⟨dx, s _ _ e⟩
theorem wl (v : V) : List.lookup ("word" : Str) [(("word" : Str), v)] = some v := by rw [List.lookup_cons, beq_self_eq_true]
theorem lk_left (x y : V) : List.lookup ("left" : Str) [(("left" : Str), x), ("right", y)] = some x := by rw [List.lookup_cons, beq_self_eq_true]
theorem lk_right (x y : V) : List.lookup ("right" : Str) [(("left" : Str), x), ("right", y)] = some y := by
  rw [List.lookup_cons, beq_eq_false_iff_ne.mpr (by decide +kernel), List.lookup_cons, beq_self_eq_true]
theorem lk_inner (x : V) : List.lookup ("inner" : Str) [(("inner" : Str), x)] = some x := by rw [List.lookup_cons, beq_self_eq_true]
theorem put2 (x y : V) : putF "right" y (putF "left" x []) = ([("left", x), ("right", y)] : List (Str × V)) := by
  have h1 : ¬ (("left" : Str) = "right") := by decide +kernel
  simp [putF, h1]
def sp_init (C : Addr) : Sp := fun vs H Q _ => ∃ p dx w, vs = [.ref p, T w] ∧ H p = some (.ins C dx []) ∧ Q .non (upd H p (.ins C dx [("word", T w)]))
def sp_bad (C : Addr) : Sp := fun vs H Q _ => ∃ p w l, vs = [.ref p, T l] ∧ NevAt C H p w ∧ w.length ≤ 1000 ∧ l.length ≤ 1000 ∧ ∀ H', Same H H' → Q (.bl (nevB w l)) H'
def sp_init2 (C : Addr) : Sp := fun vs H Q _ => ∃ p dx a b, vs = [.ref p, .ref a, .ref b] ∧ H p = some (.ins C dx []) ∧ Q .non (upd (upd H p (.ins C dx (putF "left" (.ref a) []))) p (.ins C dx [("left", .ref a), ("right", .ref b)]))
def sp_init1 (C : Addr) : Sp := fun vs H Q _ => ∃ p dx a, vs = [.ref p, .ref a] ∧ H p = some (.ins C dx []) ∧ Q .non (upd H p (.ins C dx [("inner", .ref a)]))
inductive R where
  | nev (w : List Nat)
  | most (n : Int) (m : List Nat) (d : Int)
  | least (n : Int) (m : List Nat) (d : Int)
  | both (l r : R)
  | either (l r : R)
  | neg (i : R)
def R.depth : R → Nat
  | .nev _ => 0
  | .most _ _ _ => 0
  | .least _ _ _ => 0
  | .both l r => max l.depth r.depth + 1
  | .either l r => max l.depth r.depth + 1
  | .neg i => i.depth + 1
def R.bad : R → List Nat → Bool
  | .nev w, x => nevB w x
  | .most n m d, x => mostB n m d x
  | .least n m d, x => leastB n m d x
  | .both l r, x => l.bad x || r.bad x
  | .either l r, x => l.bad x && r.bad x
  | .neg i, x => !i.bad x
structure Cs where
  nev : Addr
  most : Addr
  least : Addr
  both : Addr
  either : Addr
  neg : Addr
def R.cls (c : Cs) : R → Addr
  | .nev _ => c.nev
  | .most _ _ _ => c.most
  | .least _ _ _ => c.least
  | .both _ _ => c.both
  | .either _ _ => c.either
  | .neg _ => c.neg
/-- the rule stands at p -/
def RuleAt (c : Cs) (H : Hp) : R → Addr → Prop
  | .nev w, p => NevAt c.nev H p w ∧ w.length ≤ 1000
  | .most n m d, p => CntAt c.most H p n m d ∧ m.length ≤ 1000 ∧ 0 ≤ d
  | .least n m d, p => CntAt c.least H p n m d ∧ m.length ≤ 1000 ∧ 0 ≤ d
  | .both l r, p => ∃ dx a b, H p = some (.ins c.both dx [("left", .ref a), ("right", .ref b)]) ∧ RuleAt c H l a ∧ RuleAt c H r b
  | .either l r, p => ∃ dx a b, H p = some (.ins c.either dx [("left", .ref a), ("right", .ref b)]) ∧ RuleAt c H l a ∧ RuleAt c H r b
  | .neg i, p => ∃ dx a, H p = some (.ins c.neg dx [("inner", .ref a)]) ∧ RuleAt c H i a
theorem RuleAt.same {c : Cs} {H H' : Hp} (s : Same H H') : ∀ {r : R} {p : Addr}, RuleAt c H r p → RuleAt c H' r p
  | .nev _, _, h => ⟨h.1.same s, h.2⟩
  | .most _ _ _, _, h => ⟨h.1.same s, h.2⟩
  | .least _ _ _, _, h => ⟨h.1.same s, h.2⟩
  | .both _ _, _, ⟨dx, a, b, e, h1, h2⟩ => ⟨dx, a, b, s _ _ e, RuleAt.same s h1, RuleAt.same s h2⟩
  | .either _ _, _, ⟨dx, a, b, e, h1, h2⟩ => ⟨dx, a, b, s _ _ e, RuleAt.same s h1, RuleAt.same s h2⟩
  | .neg _, _, ⟨dx, a, e, h1⟩ => ⟨dx, a, s _ _ e, RuleAt.same s h1⟩
/-- a rule's own object: its class; it has no method's name among its fields -/
theorem RuleAt.obj {c : Cs} {H : Hp} {r : R} {p : Addr} (h : RuleAt c H r p) : ∃ dx fs, H p = some (.ins (r.cls c) dx fs) ∧ fs.lookup ("bad" : Str) = none ∧ fs.lookup ("reach" : Str) = none ∧ fs.lookup ("text" : Str) = none := by
  have no1 : ∀ (x m : Str) (v : V), m ≠ x → List.lookup m [(x, v)] = none := fun x m v hm => by rw [List.lookup_cons, beq_eq_false_iff_ne.mpr hm]; rfl
  have no2 : ∀ (x y m : Str) (v u : V), m ≠ x → m ≠ y → List.lookup m [(x, v), (y, u)] = none := fun x y m v u h1 h2 => by rw [List.lookup_cons, beq_eq_false_iff_ne.mpr h1]; exact no1 _ _ _ h2
  have no3 : ∀ (x y z m : Str) (v u t : V), m ≠ x → m ≠ y → m ≠ z → List.lookup m [(x, v), (y, u), (z, t)] = none := fun x y z m v u t h1 h2 h3 => by rw [List.lookup_cons, beq_eq_false_iff_ne.mpr h1]; exact no2 _ _ _ _ _ h2 h3
  cases r with
  | nev w =>
    obtain ⟨⟨dx, e⟩, _⟩ := h
    exact ⟨dx, _, e, no1 _ _ _ (by decide +kernel), no1 _ _ _ (by decide +kernel), no1 _ _ _ (by decide +kernel)⟩
  | most n m d =>
    obtain ⟨⟨dx, e⟩, _⟩ := h
    exact ⟨dx, _, e, no3 _ _ _ _ _ _ _ (by decide +kernel) (by decide +kernel) (by decide +kernel), no3 _ _ _ _ _ _ _ (by decide +kernel) (by decide +kernel) (by decide +kernel), no3 _ _ _ _ _ _ _ (by decide +kernel) (by decide +kernel) (by decide +kernel)⟩
  | least n m d =>
    obtain ⟨⟨dx, e⟩, _⟩ := h
    exact ⟨dx, _, e, no3 _ _ _ _ _ _ _ (by decide +kernel) (by decide +kernel) (by decide +kernel), no3 _ _ _ _ _ _ _ (by decide +kernel) (by decide +kernel) (by decide +kernel), no3 _ _ _ _ _ _ _ (by decide +kernel) (by decide +kernel) (by decide +kernel)⟩
  | both l r =>
    obtain ⟨dx, a, b, e, _⟩ := h
    exact ⟨dx, _, e, no2 _ _ _ _ _ (by decide +kernel) (by decide +kernel), no2 _ _ _ _ _ (by decide +kernel) (by decide +kernel), no2 _ _ _ _ _ (by decide +kernel) (by decide +kernel)⟩
  | either l r =>
    obtain ⟨dx, a, b, e, _⟩ := h
    exact ⟨dx, _, e, no2 _ _ _ _ _ (by decide +kernel) (by decide +kernel), no2 _ _ _ _ _ (by decide +kernel) (by decide +kernel), no2 _ _ _ _ _ (by decide +kernel) (by decide +kernel)⟩
  | neg i =>
    obtain ⟨dx, a, e, _⟩ := h
    exact ⟨dx, _, e, no1 _ _ _ (by decide +kernel), no1 _ _ _ (by decide +kernel), no1 _ _ _ (by decide +kernel)⟩
/-- what a rule's methods promise, rule by rule -/
def sp_R (c : Cs) (r : R) : Sp := fun vs H Q _ => ∃ p l, vs = [.ref p, T l] ∧ RuleAt c H r p ∧ l.length ≤ 1000 ∧ ∀ H', Same H H' → Q (.bl (r.bad l)) H'
/-! ### a rule hangs on the last marks alone -/
theorem cutV_map (ns : List Int) (lo hi : Option Int) : cutV (ns.map V.int) lo hi = (cutN ns lo hi).map V.int := by
  unfold cutV cutN
  rw [List.length_map, List.map_take, List.map_drop]
theorem cut_span {α : Type} (l : List α) (a b : Nat) : (cutN l (some (a : Int)) (some (b : Int))).length ≤ b - a := by
  unfold cutN
  have e1 : HT.sIx l.length 0 (some (a : Int)) = min a l.length := by
    show (if (a : Int) < 0 then ((a : Int) + (l.length : Int)).toNat else min (a : Int).toNat l.length) = _
    rw [if_neg (by omega), Int.toNat_natCast]
  have e2 : HT.sIx l.length l.length (some (b : Int)) = min b l.length := by
    show (if (b : Int) < 0 then ((b : Int) + (l.length : Int)).toNat else min (b : Int).toNat l.length) = _
    rw [if_neg (by omega), Int.toNat_natCast]
  rw [e1, e2, List.length_take, List.length_drop]
  omega
theorem ints_of {ys : List V} (h : ∀ y ∈ ys, ∃ z, y = V.int z) : ∃ zs : List Int, ys = zs.map V.int ∧ zs.length = ys.length := by
  induction ys with
  | nil => exact ⟨[], rfl, rfl⟩
  | cons y r ih =>
    obtain ⟨z, rfl⟩ := h y List.mem_cons_self
    obtain ⟨zs, e, hl⟩ := ih fun u hu => h u (List.mem_cons_of_mem _ hu)
    exact ⟨z :: zs, by rw [e]; rfl, by simp [hl]⟩
/-! ### rules made -/
def rNev (c6 : Cs) : List V → Hp → VK → Prop := fun vs H Q => ∃ w, vs = [T w] ∧ w.length ≤ 1000 ∧ ∀ p H', Same H H' → RuleAt c6 H' (.nev w) p → Q (.ref p) H'
def rMost (c6 : Cs) : List V → Hp → VK → Prop := fun vs H Q => ∃ n m d, vs = [.int n, T m, .int d] ∧ m.length ≤ 1000 ∧ 0 ≤ d ∧ ∀ p H', Same H H' → RuleAt c6 H' (.most n m d) p → Q (.ref p) H'
def rLeast (c6 : Cs) : List V → Hp → VK → Prop := fun vs H Q => ∃ n m d, vs = [.int n, T m, .int d] ∧ m.length ≤ 1000 ∧ 0 ≤ d ∧ ∀ p H', Same H H' → RuleAt c6 H' (.least n m d) p → Q (.ref p) H'
def rBoth (c6 : Cs) : List V → Hp → VK → Prop := fun vs H Q => ∃ a b x y, vs = [.ref a, .ref b] ∧ RuleAt c6 H x a ∧ RuleAt c6 H y b ∧ ∀ p dx H', Same H H' → RuleAt c6 H' (.both x y) p → H' p = some (.ins c6.both dx [("left", .ref a), ("right", .ref b)]) → Q (.ref p) H'
def rEither (c6 : Cs) : List V → Hp → VK → Prop := fun vs H Q => ∃ a b x y, vs = [.ref a, .ref b] ∧ RuleAt c6 H x a ∧ RuleAt c6 H y b ∧ ∀ p dx H', Same H H' → RuleAt c6 H' (.either x y) p → H' p = some (.ins c6.either dx [("left", .ref a), ("right", .ref b)]) → Q (.ref p) H'
def rNot (c6 : Cs) : List V → Hp → VK → Prop := fun vs H Q => ∃ a x, vs = [.ref a] ∧ RuleAt c6 H x a ∧ ∀ p dx H', Same H H' → RuleAt c6 H' (.neg x) p → H' p = some (.ins c6.neg dx [("inner", .ref a)]) → Q (.ref p) H'
theorem mk_nev {c6 : Cs} : ∀ vs H Q, rNev c6 vs H Q → ∀ x dx, H x = none → H dx = none → dx ≠ x → sp_init c6.nev (.ref x :: (vs ++ [])) (upd (upd H dx (.own x)) x (.ins c6.nev dx [])) (fun v H2 => v = .non ∧ Q (.ref x) H2) E0 := by
  rintro _ H Q ⟨w, rfl, hw, q⟩ x dx nx ndx _
  exact ⟨x, dx, w, rfl, upd_same, rfl, q x _ (((same_new ndx _).upd nx).upd nx) ⟨⟨dx, upd_same⟩, hw⟩⟩
theorem mk_most {c6 : Cs} : ∀ vs H Q, rMost c6 vs H Q → ∀ x dx, H x = none → H dx = none → dx ≠ x → sp_init3 c6.most (.ref x :: (vs ++ [])) (upd (upd H dx (.own x)) x (.ins c6.most dx [])) (fun v H2 => v = .non ∧ Q (.ref x) H2) E0 := by
  rintro _ H Q ⟨n, m, d, rfl, hm, hd, q⟩ x dx nx ndx _
  exact ⟨x, dx, n, m, d, rfl, upd_same, rfl, q x _ (((((same_new ndx _).upd nx).upd nx).upd nx).upd nx) ⟨⟨dx, upd_same⟩, hm, hd⟩⟩
theorem mk_least {c6 : Cs} : ∀ vs H Q, rLeast c6 vs H Q → ∀ x dx, H x = none → H dx = none → dx ≠ x → sp_init3 c6.least (.ref x :: (vs ++ [])) (upd (upd H dx (.own x)) x (.ins c6.least dx [])) (fun v H2 => v = .non ∧ Q (.ref x) H2) E0 := by
  rintro _ H Q ⟨n, m, d, rfl, hm, hd, q⟩ x dx nx ndx _
  exact ⟨x, dx, n, m, d, rfl, upd_same, rfl, q x _ (((((same_new ndx _).upd nx).upd nx).upd nx).upd nx) ⟨⟨dx, upd_same⟩, hm, hd⟩⟩
theorem mk_both {c6 : Cs} : ∀ vs H Q, rBoth c6 vs H Q → ∀ x dx, H x = none → H dx = none → dx ≠ x → sp_init2 c6.both (.ref x :: (vs ++ [])) (upd (upd H dx (.own x)) x (.ins c6.both dx [])) (fun v H2 => v = .non ∧ Q (.ref x) H2) E0 := by
  rintro _ H Q ⟨a, b, y, z, rfl, ha, hb, q⟩ x dx nx ndx _
  have ss := ((((same_new ndx (.own x)).upd nx (o := .ins c6.both dx [])).upd nx (o := .ins c6.both dx (putF "left" (.ref a) []))).upd nx (o := .ins c6.both dx [("left", .ref a), ("right", .ref b)]))
  exact ⟨x, dx, a, b, rfl, upd_same, rfl, q x dx _ ss ⟨dx, a, b, upd_same, ha.same ss, hb.same ss⟩ upd_same⟩
theorem mk_either {c6 : Cs} : ∀ vs H Q, rEither c6 vs H Q → ∀ x dx, H x = none → H dx = none → dx ≠ x → sp_init2 c6.either (.ref x :: (vs ++ [])) (upd (upd H dx (.own x)) x (.ins c6.either dx [])) (fun v H2 => v = .non ∧ Q (.ref x) H2) E0 := by
  rintro _ H Q ⟨a, b, y, z, rfl, ha, hb, q⟩ x dx nx ndx _
  have ss := ((((same_new ndx (.own x)).upd nx (o := .ins c6.either dx [])).upd nx (o := .ins c6.either dx (putF "left" (.ref a) []))).upd nx (o := .ins c6.either dx [("left", .ref a), ("right", .ref b)]))
  exact ⟨x, dx, a, b, rfl, upd_same, rfl, q x dx _ ss ⟨dx, a, b, upd_same, ha.same ss, hb.same ss⟩ upd_same⟩
theorem mk_not {c6 : Cs} : ∀ vs H Q, rNot c6 vs H Q → ∀ x dx, H x = none → H dx = none → dx ≠ x → sp_init1 c6.neg (.ref x :: (vs ++ [])) (upd (upd H dx (.own x)) x (.ins c6.neg dx [])) (fun v H2 => v = .non ∧ Q (.ref x) H2) E0 := by
  rintro _ H Q ⟨a, y, rfl, ha, q⟩ x dx nx ndx _
  have ss := (((same_new ndx (.own x)).upd nx (o := .ins c6.neg dx [])).upd nx (o := .ins c6.neg dx [("inner", .ref a)]))
  exact ⟨x, dx, a, rfl, upd_same, rfl, q x dx _ ss ⟨dx, a, upd_same, ha.same ss⟩ upd_same⟩

/-! ### words of rules, and how they are read -/
abbrev Wd := List Nat
abbrev wOr : Wd := [111, 114]
abbrev wAnd : Wd := [97, 110, 100]
abbrev wNot : Wd := [110, 111, 116]
abbrev wL : Wd := [40]
abbrev wR : Wd := [41]
abbrev wNever : Wd := [110, 101, 118, 101, 114]
abbrev wMost : Wd := [109, 111, 115, 116]
abbrev wLeast : Wd := [108, 101, 97, 115, 116]
abbrev wOf : Wd := [111, 102]
abbrev wIn : Wd := [105, 110]
def loStep (wanted : Wd) (i : Nat) (st : Int × Int) (w : Wd) : Int × Int :=
  if w = wL then (st.1, st.2 + 1) else if w = wR then (st.1, st.2 - 1) else if w = wanted ∧ st.2 = 0 then ((i : Int), st.2) else st
def lo (wanted : Wd) : Nat → Int × Int → List Wd → Int × Int
  | _, st, [] => st
  | i, st, w :: r => lo wanted (i + 1) (loStep wanted i st w) r
def lastOut (ws : List Wd) (wanted : Wd) : Int := (lo wanted 0 (-1, 0) ws).1
theorem lo_app (wanted : Wd) : ∀ (a b : List Wd) (i : Nat) (st : Int × Int), lo wanted i st (a ++ b) = lo wanted (i + a.length) (lo wanted i st a) b
  | [], b, i, st => rfl
  | w :: r, b, i, st => by
    show lo wanted (i + 1) (loStep wanted i st w) (r ++ b) = _
    rw [lo_app wanted r b]
    show lo wanted (i + 1 + r.length) _ b = lo wanted (i + (r.length + 1)) _ b
    rw [show i + 1 + r.length = i + (r.length + 1) by omega]
    rfl
/-- signs of words -/
def isUp (c : Nat) : Bool := 65 ≤ c && c ≤ 90
def signW (c : Nat) : Bool := isUp c || c == 45 || c == 35 || c == 63
def signM (c : Nat) : Bool := isUp c || c == 45 || c == 35
def goodW (w : Wd) : Bool := 1 ≤ w.length && w.length ≤ 7 && w.all signW
def goodM (w : Wd) : Bool := 1 ≤ w.length && w.length ≤ 8 && w.all signM && decide w.Nodup
def fig (lo hi : Nat) (w : Wd) : Option Nat := match w with
  | [c] => if 48 + lo ≤ c ∧ c ≤ 48 + hi then some (c - 48) else none
  | _ => none
def plainW : List Wd → Option R
  | [a, w] => if a = wNever ∧ goodW w = true then some (.nev w) else none
  | [a, n, o, m, i, d] => if o = wOf ∧ i = wIn ∧ goodM m = true then
      match fig 0 7 n, fig 1 7 d with
      | some n, some d => if a = wMost then some (.most n m d) else if a = wLeast then some (.least n m d) else none
      | _, _ => none
    else none
  | _ => none
/-- the words of a rule: bound tightest (0), with and (1), with or (2) -/
inductive Rds : Nat → List Wd → R → Prop where
  | plain {ws r} : plainW ws = some r → Rds 0 ws r
  | neg {ws r} : Rds 0 ws r → Rds 0 (wNot :: ws) (.neg r)
  | br {ws r} : Rds 2 ws r → Rds 0 (wL :: (ws ++ [wR])) r
  | up1 {ws r} : Rds 0 ws r → Rds 1 ws r
  | both {a b x y} : Rds 1 a x → Rds 0 b y → Rds 1 (a ++ wAnd :: b) (.both x y)
  | up2 {ws r} : Rds 1 ws r → Rds 2 ws r
  | either {a b x y} : Rds 2 a x → Rds 1 b y → Rds 2 (a ++ wOr :: b) (.either x y)
def rdW : Nat → List Wd → Option R
  | 0, _ => none
  | n + 1, ws =>
    if 0 ≤ lastOut ws wOr then
      match rdW n (ws.take (lastOut ws wOr).toNat), rdW n (ws.drop ((lastOut ws wOr).toNat + 1)) with
      | some x, some y => some (.either x y)
      | _, _ => none
    else if 0 ≤ lastOut ws wAnd then
      match rdW n (ws.take (lastOut ws wAnd).toNat), rdW n (ws.drop ((lastOut ws wAnd).toNat + 1)) with
      | some x, some y => some (.both x y)
      | _, _ => none
    else if ws.take 1 = [wNot] then
      match rdW n (ws.drop 1) with
      | some x => some (.neg x)
      | none => none
    else if ws.take 1 = [wL] ∧ ws.drop (ws.length - 1) = [wR] then rdW n ((ws.drop 1).take (ws.length - 2))
    else plainW ws
theorem goodW_no {w x : Wd} (h : goodW w = true) (c : Nat) (hc : c ∈ x) (hs : signW c = false) : w ≠ x := by
  rintro rfl
  unfold goodW at h
  have h2 := ((Bool.and_eq_true _ _).mp h).2
  have := List.all_eq_true.mp h2 c hc
  rw [hs] at this
  cases this
theorem goodM_no {w x : Wd} (h : goodM w = true) (c : Nat) (hc : c ∈ x) (hs : signM c = false) : w ≠ x := by
  rintro rfl
  unfold goodM at h
  have h2 := ((Bool.and_eq_true _ _).mp ((Bool.and_eq_true _ _).mp h).1).2
  have := List.all_eq_true.mp h2 c hc
  rw [hs] at this
  cases this
theorem fig_no {lo hi : Nat} {w : Wd} {n : Nat} (h : fig lo hi w = some n) (hh : hi ≤ 9) : w ≠ wL ∧ w ≠ wR ∧ w ≠ wOr ∧ w ≠ wAnd ∧ w ≠ wNot := by
  unfold fig at h
  split at h
  · rename_i c
    split at h
    · rename_i hc
      refine ⟨?_, ?_, ?_, ?_, ?_⟩ <;> intro e <;> simp at e
      · omega
      · omega
    · cases h
  · cases h
/-- no word of a plain rule is one of these -/
theorem plain_no {ws : List Wd} {r : R} (h : plainW ws = some r) : (∀ w ∈ ws, w ≠ wL ∧ w ≠ wR ∧ w ≠ wOr ∧ w ≠ wAnd ∧ w ≠ wNot) ∧ ws ≠ [] := by
  unfold plainW at h
  split at h
  · rename_i a w
    split at h
    · rename_i hh
      obtain ⟨rfl, hw⟩ := hh
      refine ⟨fun v hv => ?_, by simp⟩
      simp only [List.mem_cons, List.not_mem_nil, or_false] at hv
      rcases hv with rfl | rfl
      · decide
      · exact ⟨goodW_no hw 40 (by decide) (by decide), goodW_no hw 41 (by decide) (by decide), goodW_no hw 111 (by decide) (by decide), goodW_no hw 97 (by decide) (by decide), goodW_no hw 110 (by decide) (by decide)⟩
    · cases h
  · rename_i a n o m i d
    split at h
    · rename_i hh
      obtain ⟨rfl, rfl, hm⟩ := hh
      split at h
      · rename_i n' d' h1 h2
        have ha : a = wMost ∨ a = wLeast := by
          split at h
          · rename_i e; exact .inl e
          · split at h
            · rename_i e; exact .inr e
            · cases h
        refine ⟨fun v hv => ?_, by simp⟩
        simp only [List.mem_cons, List.not_mem_nil, or_false] at hv
        rcases hv with rfl | rfl | rfl | rfl | rfl | rfl
        · rcases ha with rfl | rfl <;> decide
        · exact fig_no h1 (by decide)
        · decide
        · exact ⟨goodM_no hm 40 (by decide) (by decide), goodM_no hm 41 (by decide) (by decide), goodM_no hm 111 (by decide) (by decide), goodM_no hm 97 (by decide) (by decide), goodM_no hm 110 (by decide) (by decide)⟩
        · decide
        · exact fig_no h2 (by decide)
      · cases h
    · cases h
  · cases h
theorem step_skip {wanted w : Wd} {i : Nat} {st : Int × Int} (h1 : w ≠ wL) (h2 : w ≠ wR) (h3 : w ≠ wanted ∨ st.2 ≠ 0) : loStep wanted i st w = st := by
  unfold loStep
  rw [if_neg h1, if_neg h2, if_neg]
  rintro ⟨a, b⟩
  rcases h3 with h3 | h3
  · exact h3 a
  · exact h3 b
theorem lo_skip {wanted : Wd} : ∀ {ws : List Wd} {i : Nat} {st : Int × Int}, (∀ w ∈ ws, w ≠ wL ∧ w ≠ wR ∧ (w ≠ wanted ∨ st.2 ≠ 0)) → lo wanted i st ws = st
  | [], _, _, _ => rfl
  | w :: r, i, st, h => by
    obtain ⟨a, b, c⟩ := h w List.mem_cons_self
    show lo wanted (i + 1) (loStep wanted i st w) r = st
    rw [step_skip a b c]
    exact lo_skip fun v hv => h v (List.mem_cons_of_mem _ hv)
/-- within brackets nothing is found -/
theorem scan_in {n : Nat} {ws : List Wd} {r : R} (d : Rds n ws r) : ∀ (wanted : Wd) (i : Nat) (f h : Int), 0 < h → lo wanted i (f, h) ws = (f, h) := by
  induction d with
  | plain hp =>
    intro wanted i f h hh
    exact lo_skip fun w hw => ⟨((plain_no hp).1 w hw).1, ((plain_no hp).1 w hw).2.1, .inr (by show h ≠ 0; omega)⟩
  | neg _ ih =>
    intro wanted i f h hh
    show lo wanted (i + 1) (loStep wanted i (f, h) wNot) _ = _
    rw [step_skip (by decide) (by decide) (.inr (by show h ≠ 0; omega))]
    exact ih wanted _ f h hh
  | br _ ih =>
    intro wanted i f h hh
    show lo wanted (i + 1) (loStep wanted i (f, h) wL) _ = _
    have e : loStep wanted i (f, h) wL = (f, h + 1) := by unfold loStep; rw [if_pos rfl]
    rw [e, lo_app, ih wanted (i + 1) f (h + 1) (by omega)]
    rw [lo, lo]
    unfold loStep
    rw [if_neg (by decide), if_pos rfl]
    show (f, h + 1 - 1) = (f, h)
    rw [show h + 1 - 1 = h by omega]
  | up1 _ ih => exact ih
  | both _ _ i1 i2 =>
    intro wanted i f h hh
    rw [lo_app, i1 wanted i f h hh]
    show lo wanted _ (loStep wanted _ (f, h) wAnd) _ = _
    rw [step_skip (by decide) (by decide) (.inr (by show h ≠ 0; omega))]
    exact i2 wanted _ f h hh
  | up2 _ ih => exact ih
  | either _ _ i1 i2 =>
    intro wanted i f h hh
    rw [lo_app, i1 wanted i f h hh]
    show lo wanted _ (loStep wanted _ (f, h) wOr) _ = _
    rw [step_skip (by decide) (by decide) (.inr (by show h ≠ 0; omega))]
    exact i2 wanted _ f h hh
/-- outside brackets: the height comes back; below its level nothing is found -/
theorem scan_out {n : Nat} {ws : List Wd} {r : R} (d : Rds n ws r) : ∀ (i : Nat) (f : Int),
    (∃ g, lo wOr i (f, 0) ws = (g, 0)) ∧ (∃ g, lo wAnd i (f, 0) ws = (g, 0)) ∧ (n ≤ 1 → lo wOr i (f, 0) ws = (f, 0)) ∧ (n = 0 → lo wAnd i (f, 0) ws = (f, 0)) := by
  induction d with
  | @plain ws r hp =>
    intro i f
    have a : lo wOr i (f, 0) ws = (f, 0) := lo_skip fun w hw => ⟨((plain_no hp).1 w hw).1, ((plain_no hp).1 w hw).2.1, .inl ((plain_no hp).1 w hw).2.2.1⟩
    have b : lo wAnd i (f, 0) ws = (f, 0) := lo_skip fun w hw => ⟨((plain_no hp).1 w hw).1, ((plain_no hp).1 w hw).2.1, .inl ((plain_no hp).1 w hw).2.2.2.1⟩
    exact ⟨⟨_, a⟩, ⟨_, b⟩, fun _ => a, fun _ => b⟩
  | @neg ws r _ ih =>
    intro i f
    have a : lo wOr i (f, 0) (wNot :: ws) = (f, 0) := by
      show lo wOr (i + 1) (loStep wOr i (f, 0) wNot) ws = _
      rw [step_skip (by decide) (by decide) (.inl (by decide))]
      exact (ih (i + 1) f).2.2.1 (by decide)
    have b : lo wAnd i (f, 0) (wNot :: ws) = (f, 0) := by
      show lo wAnd (i + 1) (loStep wAnd i (f, 0) wNot) ws = _
      rw [step_skip (by decide) (by decide) (.inl (by decide))]
      exact (ih (i + 1) f).2.2.2 rfl
    exact ⟨⟨_, a⟩, ⟨_, b⟩, fun _ => a, fun _ => b⟩
  | @br ws r hd _ =>
    intro i f
    have key : ∀ wanted, lo wanted i (f, 0) (wL :: (ws ++ [wR])) = (f, 0) := fun wanted => by
      show lo wanted (i + 1) (loStep wanted i (f, 0) wL) _ = _
      have e : loStep wanted i (f, 0) wL = (f, 1) := by unfold loStep; rw [if_pos rfl]; rfl
      rw [e, lo_app, scan_in hd wanted (i + 1) f 1 (by decide)]
      rw [lo, lo]
      unfold loStep
      rw [if_neg (by decide), if_pos rfl]
      rfl
    exact ⟨⟨_, key _⟩, ⟨_, key _⟩, fun _ => key _, fun _ => key _⟩
  | @up1 ws r _ ih =>
    intro i f
    obtain ⟨a, b, c, d⟩ := ih i f
    exact ⟨a, b, fun _ => c (by decide), fun z => by cases z⟩
  | @both a b x y _ _ i1 i2 =>
    intro i f
    have p : lo wOr i (f, 0) (a ++ wAnd :: b) = (f, 0) := by
      rw [lo_app, (i1 i f).2.2.1 (by decide)]
      show lo wOr _ (loStep wOr _ (f, 0) wAnd) b = _
      rw [step_skip (by decide) (by decide) (.inl (by decide))]
      exact (i2 _ f).2.2.1 (by decide)
    obtain ⟨g, hg⟩ := (i1 i f).2.1
    refine ⟨⟨_, p⟩, ⟨((i + a.length : Nat) : Int), ?_⟩, fun _ => p, fun z => by cases z⟩
    rw [lo_app, hg]
    show lo wAnd _ (loStep wAnd _ (g, 0) wAnd) b = _
    have e : loStep wAnd (i + a.length) (g, 0) wAnd = (((i + a.length : Nat) : Int), 0) := by
      unfold loStep
      rw [if_neg (by decide), if_neg (by decide), if_pos ⟨rfl, rfl⟩]
    rw [e]
    exact (i2 _ _).2.2.2 rfl
  | @up2 ws r _ ih =>
    intro i f
    obtain ⟨a, b, c, d⟩ := ih i f
    exact ⟨a, b, fun z => by omega, fun z => by cases z⟩
  | @either a b x y _ _ i1 i2 =>
    intro i f
    obtain ⟨g, hg⟩ := (i1 i f).1
    obtain ⟨g2, hg2⟩ := (i1 i f).2.1
    refine ⟨⟨((i + a.length : Nat) : Int), ?_⟩, ?_, fun z => by omega, fun z => by cases z⟩
    · rw [lo_app, hg]
      show lo wOr _ (loStep wOr _ (g, 0) wOr) b = _
      have e : loStep wOr (i + a.length) (g, 0) wOr = (((i + a.length : Nat) : Int), 0) := by
        unfold loStep
        rw [if_neg (by decide), if_neg (by decide), if_pos ⟨rfl, rfl⟩]
      rw [e]
      exact (i2 _ _).2.2.1 (by decide)
    · obtain ⟨g3, hg3⟩ := (i2 (i + a.length + 1) g2).2.1
      refine ⟨g3, ?_⟩
      rw [lo_app, hg2]
      show lo wAnd _ (loStep wAnd _ (g2, 0) wOr) b = _
      rw [step_skip (by decide) (by decide) (.inl (by decide))]
      exact hg3
theorem out_or {a b : List Wd} {x y : R} (h1 : Rds 2 a x) (h2 : Rds 1 b y) : lastOut (a ++ wOr :: b) wOr = (a.length : Int) := by
  unfold lastOut
  obtain ⟨g, hg⟩ := (scan_out h1 0 (-1)).1
  rw [lo_app, hg]
  show (lo wOr _ (loStep wOr _ (g, 0) wOr) b).1 = _
  have e : loStep wOr (0 + a.length) (g, 0) wOr = (((0 + a.length : Nat) : Int), 0) := by
    unfold loStep
    rw [if_neg (by decide), if_neg (by decide), if_pos ⟨rfl, rfl⟩]
  rw [e, (scan_out h2 _ _).2.2.1 (by decide)]
  show ((0 + a.length : Nat) : Int) = _
  rw [Nat.zero_add]
theorem out_and {a b : List Wd} {x y : R} (h1 : Rds 1 a x) (h2 : Rds 0 b y) : lastOut (a ++ wAnd :: b) wAnd = (a.length : Int) := by
  unfold lastOut
  obtain ⟨g, hg⟩ := (scan_out h1 0 (-1)).2.1
  rw [lo_app, hg]
  show (lo wAnd _ (loStep wAnd _ (g, 0) wAnd) b).1 = _
  have e : loStep wAnd (0 + a.length) (g, 0) wAnd = (((0 + a.length : Nat) : Int), 0) := by
    unfold loStep
    rw [if_neg (by decide), if_neg (by decide), if_pos ⟨rfl, rfl⟩]
  rw [e, (scan_out h2 _ _).2.2.2 rfl]
  show ((0 + a.length : Nat) : Int) = _
  rw [Nat.zero_add]
theorem no_or {n : Nat} {ws : List Wd} {r : R} (h : Rds n ws r) (hn : n ≤ 1) : lastOut ws wOr = -1 := by unfold lastOut; rw [(scan_out h 0 (-1)).2.2.1 hn]
theorem no_and {ws : List Wd} {r : R} (h : Rds 0 ws r) : lastOut ws wAnd = -1 := by unfold lastOut; rw [(scan_out h 0 (-1)).2.2.2 rfl]
theorem Rds.pos {n : Nat} {ws : List Wd} {r : R} (d : Rds n ws r) : 0 < ws.length := by
  induction d with
  | plain hp => exact List.length_pos_iff.mpr (plain_no hp).2
  | neg _ _ => simp
  | br _ _ => simp
  | up1 _ ih => exact ih
  | both _ _ _ _ => simp; omega
  | up2 _ ih => exact ih
  | either _ _ _ _ => simp; omega
/-- what is written so is read -/
theorem rd_of {n : Nat} {ws : List Wd} {r : R} (d : Rds n ws r) : ∀ m, ws.length ≤ m → rdW m ws = some r := by
  induction d with
  | @plain ws r hp =>
    intro m hm
    have h1 := plain_no hp
    have h2 : Rds 0 ws r := .plain hp
    cases m with
    | zero => have := h2.pos; omega
    | succ m =>
      rw [rdW, no_or h2 (by decide), if_neg (by decide), no_and h2, if_neg (by decide)]
      obtain ⟨w, t, rfl⟩ : ∃ w t, ws = w :: t := by
        cases ws with
        | nil => exact absurd rfl h1.2
        | cons w t => exact ⟨w, t, rfl⟩
      obtain ⟨a, _, _, _, e⟩ := h1.1 w List.mem_cons_self
      rw [if_neg (by simpa using e), if_neg (by intro z; exact a (by simpa using z.1))]
      exact hp
  | @neg ws r hd ih =>
    intro m hm
    have h2 : Rds 0 (wNot :: ws) (.neg r) := .neg hd
    cases m with
    | zero => simp at hm
    | succ m =>
      rw [rdW, no_or h2 (by decide), if_neg (by decide), no_and h2, if_neg (by decide), if_pos (show List.take 1 (wNot :: ws) = [wNot] from rfl)]
      show (match rdW m ws with | some x => some (R.neg x) | none => none) = _
      rw [ih m (by simpa using hm)]
  | @br ws r hd ih =>
    intro m hm
    have h2 : Rds 0 (wL :: (ws ++ [wR])) r := .br hd
    cases m with
    | zero => simp at hm
    | succ m =>
      rw [rdW, no_or h2 (by decide), if_neg (by decide), no_and h2, if_neg (by decide), if_neg (by simp), if_pos]
      · have e : ((wL :: (ws ++ [wR])).drop 1).take ((wL :: (ws ++ [wR])).length - 2) = ws := by
          simp
        rw [e]
        exact ih m (by simp at hm; omega)
      · refine ⟨rfl, ?_⟩
        simp
  | @up1 ws r _ ih => exact ih
  | @both a b x y h1 h2 i1 i2 =>
    intro m hm
    have h3 : Rds 1 (a ++ wAnd :: b) (.both x y) := .both h1 h2
    cases m with
    | zero => simp at hm
    | succ m =>
      have hl : a.length + (b.length + 1) ≤ m + 1 := by simpa using hm
      rw [rdW, no_or h3 (by decide), if_neg (by decide), out_and h1 h2, if_pos (by omega)]
      have e1 : (a ++ wAnd :: b).take ((a.length : Int).toNat) = a := by simp
      have e2 : (a ++ wAnd :: b).drop ((a.length : Int).toNat + 1) = b := by
        rw [Int.toNat_natCast, ← List.drop_drop]
        simp
      rw [e1, e2, i1 m (by omega), i2 m (by omega)]
  | @up2 ws r _ ih => exact ih
  | @either a b x y h1 h2 i1 i2 =>
    intro m hm
    cases m with
    | zero => simp at hm
    | succ m =>
      have hl : a.length + (b.length + 1) ≤ m + 1 := by simpa using hm
      rw [rdW, out_or h1 h2, if_pos (by omega)]
      have e1 : (a ++ wOr :: b).take ((a.length : Int).toNat) = a := by simp
      have e2 : (a ++ wOr :: b).drop ((a.length : Int).toNat + 1) = b := by
        rw [Int.toNat_natCast, ← List.drop_drop]
        simp
      rw [e1, e2, i1 m (by omega), i2 m (by omega)]

abbrev sgM : Wd := [65, 66, 67, 68, 69, 70, 71, 72, 73, 74, 75, 76, 77, 78, 79, 80, 81, 82, 83, 84, 85, 86, 87, 88, 89, 90, 45, 35]
abbrev sgW : Wd := [65, 66, 67, 68, 69, 70, 71, 72, 73, 74, 75, 76, 77, 78, 79, 80, 81, 82, 83, 84, 85, 86, 87, 88, 89, 90, 45, 35, 63]
abbrev fgN : Wd := [48, 49, 50, 51, 52, 53, 54, 55]
abbrev fgD : Wd := [49, 50, 51, 52, 53, 54, 55]

/-! ### texts of rules -/
abbrev wBoth : Wd := [98, 111, 116, 104]
abbrev wEither : Wd := [101, 105, 116, 104, 101, 114]
def R.sz : R → Nat
  | .nev _ => 1
  | .most _ _ _ => 1
  | .least _ _ _ => 1
  | .both l r => l.sz + r.sz + 1
  | .either l r => l.sz + r.sz + 1
  | .neg i => i.sz + 1
theorem R.sz_pos : ∀ r : R, 1 ≤ r.sz
  | .nev _ => Nat.le_refl _
  | .most _ _ _ => Nat.le_refl _
  | .least _ _ _ => Nat.le_refl _
  | .both _ _ => Nat.le_add_left _ _
  | .either _ _ => Nat.le_add_left _ _
  | .neg _ => Nat.le_add_left _ _
theorem R.depth_sz : ∀ r : R, r.depth + 1 ≤ r.sz
  | .nev _ => Nat.le_refl _
  | .most _ _ _ => Nat.le_refl _
  | .least _ _ _ => Nat.le_refl _
  | .both l r => by
    have := R.depth_sz l
    have := R.depth_sz r
    show max l.depth r.depth + 1 + 1 ≤ l.sz + r.sz + 1
    omega
  | .either l r => by
    have := R.depth_sz l
    have := R.depth_sz r
    show max l.depth r.depth + 1 + 1 ≤ l.sz + r.sz + 1
    omega
  | .neg i => by
    have := R.depth_sz i
    show i.depth + 1 + 1 ≤ i.sz + 1
    omega
def R.lvl : R → Nat
  | .both _ _ => 1
  | .either _ _ => 2
  | _ => 0
theorem R.lvl2 : ∀ r : R, r.lvl ≤ 2
  | .nev _ => Nat.zero_le _
  | .most _ _ _ => Nat.zero_le _
  | .least _ _ _ => Nat.zero_le _
  | .both _ _ => Nat.le_succ 1
  | .either _ _ => Nat.le_refl 2
  | .neg _ => Nat.zero_le _
def cnT (w : List Nat) (n : Int) (m : List Nat) (d : Int) : List Nat := w ++ [32] ++ [48 + n.toNat] ++ [32, 111, 102, 32] ++ m ++ [32, 105, 110, 32] ++ [48 + d.toNat]
def brT (b : Bool) (t : List Nat) : List Nat := if b = true then [40, 32] ++ t ++ [32, 41] else t
def R.tx : R → List Nat
  | .nev w => [110, 101, 118, 101, 114, 32] ++ w
  | .most n m d => cnT [109, 111, 115, 116] n m d
  | .least n m d => cnT [108, 101, 97, 115, 116] n m d
  | .both l r => brT (decide (1 < l.lvl)) l.tx ++ [32, 97, 110, 100, 32] ++ brT (decide (0 < r.lvl)) r.tx
  | .either l r => brT (decide (2 < l.lvl)) l.tx ++ [32, 111, 114, 32] ++ brT (decide (1 < r.lvl)) r.tx
  | .neg i => [110, 111, 116, 32] ++ brT (decide (0 < i.lvl)) i.tx
def R.ok : R → Prop
  | .nev w => goodW w = true
  | .most n m d => (0 ≤ n ∧ n ≤ 7) ∧ (1 ≤ d ∧ d ≤ 7) ∧ goodM m = true
  | .least n m d => (0 ≤ n ∧ n ≤ 7) ∧ (1 ≤ d ∧ d ≤ 7) ∧ goodM m = true
  | .both l r => l.ok ∧ r.ok
  | .either l r => l.ok ∧ r.ok
  | .neg i => i.ok
theorem goodW_len {w : Wd} (h : goodW w = true) : 1 ≤ w.length ∧ w.length ≤ 7 := by
  unfold goodW at h
  simp only [Bool.and_eq_true, decide_eq_true_eq] at h
  exact h.1
theorem goodM_len {w : Wd} (h : goodM w = true) : 1 ≤ w.length ∧ w.length ≤ 8 := by
  unfold goodM at h
  simp only [Bool.and_eq_true, decide_eq_true_eq] at h
  exact h.1.1
/-! words of a text -/
theorem spl_app (a b : List Nat) : splitN 32 (a ++ 32 :: b) = splitN 32 a ++ splitN 32 b := by
  induction a with
  | nil => rfl
  | cons x r ih =>
    show splitN 32 (x :: (r ++ 32 :: b)) = splitN 32 (x :: r) ++ splitN 32 b
    by_cases e : x = 32
    · rw [splitN, if_pos e, ih, splitN, if_pos e]
      rfl
    · rw [splitN, if_neg e, ih, splitN, if_neg e]
      obtain ⟨h, t, eq⟩ := splitN_ne 32 r
      rw [eq]
      rfl
theorem spl_one {w : List Nat} (h : 32 ∉ w) : splitN 32 w = [w] := by
  induction w with
  | nil => rfl
  | cons x r ih =>
    rw [splitN, if_neg (fun e => h (by rw [e]; exact List.mem_cons_self)), ih (fun z => h (List.mem_cons_of_mem _ z))]
def wcN (t : List Nat) : Nat := (splitN 32 t).length
theorem goodW_32 {w : Wd} (h : goodW w = true) : 32 ∉ w := fun z => goodW_no h 32 z (by decide) rfl
theorem goodM_32 {w : Wd} (h : goodM w = true) : 32 ∉ w := fun z => goodM_no h 32 z (by decide) rfl
theorem spl_cn {a m : List Nat} {n d : Int} (ha : 32 ∉ a) (hm : 32 ∉ m) : splitN 32 (cnT a n m d) = [a, [48 + n.toNat], wOf, m, wIn, [48 + d.toNat]] := by
  have e : cnT a n m d = a ++ 32 :: ([48 + n.toNat] ++ 32 :: ([111, 102] ++ 32 :: (m ++ 32 :: ([105, 110] ++ 32 :: [48 + d.toNat])))) := by
    unfold cnT
    simp [List.append_assoc]
  have one : ∀ k : Nat, 32 ∉ [48 + k] := fun k z => by
    have := List.mem_singleton.mp z
    omega
  rw [e, spl_app, spl_app, spl_app, spl_app, spl_app, spl_one ha, spl_one (one _), spl_one (w := [111, 102]) (by decide), spl_one hm, spl_one (w := [105, 110]) (by decide), spl_one (one _)]
  rfl
theorem spl_not (t : List Nat) : splitN 32 ([110, 111, 116, 32] ++ t) = wNot :: splitN 32 t := by
  rw [show [110, 111, 116, 32] ++ t = [110, 111, 116] ++ 32 :: t from rfl, spl_app]
  rfl
theorem spl_br (t : List Nat) : splitN 32 ([40, 32] ++ t ++ [32, 41]) = wL :: (splitN 32 t ++ [wR]) := by
  rw [show [40, 32] ++ t ++ [32, 41] = [40] ++ 32 :: (t ++ 32 :: [41]) by simp, spl_app, spl_app]
  rfl
theorem spl_and (a b : List Nat) : splitN 32 (a ++ [32, 97, 110, 100, 32] ++ b) = splitN 32 a ++ wAnd :: splitN 32 b := by
  rw [show a ++ [32, 97, 110, 100, 32] ++ b = a ++ 32 :: ([97, 110, 100] ++ 32 :: b) by simp, spl_app, spl_app]
  rfl
theorem spl_or (a b : List Nat) : splitN 32 (a ++ [32, 111, 114, 32] ++ b) = splitN 32 a ++ wOr :: splitN 32 b := by
  rw [show a ++ [32, 111, 114, 32] ++ b = a ++ 32 :: ([111, 114] ++ 32 :: b) by simp, spl_app, spl_app]
  rfl
theorem Rds.up {n m : Nat} {ws : List Wd} {r : R} (h : Rds n ws r) (h1 : n ≤ m) (h2 : m ≤ 2) : Rds m ws r := by
  have : (n = 0 ∨ n = 1 ∨ n = 2) ∧ (m = 0 ∨ m = 1 ∨ m = 2) := by omega
  obtain ⟨rfl | rfl | rfl, rfl | rfl | rfl⟩ := this
  · exact h
  · exact .up1 h
  · exact .up2 (.up1 h)
  · omega
  · exact h
  · exact .up2 h
  · omega
  · omega
  · exact h
theorem rd_nev {w : Wd} (h : goodW w = true) : Rds 0 (splitN 32 ([110, 101, 118, 101, 114, 32] ++ w)) (.nev w) := by
  rw [show [110, 101, 118, 101, 114, 32] ++ w = [110, 101, 118, 101, 114] ++ 32 :: w from rfl, spl_app, spl_one (w := [110, 101, 118, 101, 114]) (by decide), spl_one (goodW_32 h)]
  refine .plain ?_
  show (if wNever = wNever ∧ goodW w = true then some (R.nev w) else none) = _
  rw [if_pos ⟨rfl, h⟩]
theorem fig_at {lo hi : Nat} {n : Int} (h0 : (lo : Int) ≤ n) (h1 : n ≤ (hi : Int)) : fig lo hi [48 + n.toNat] = some n.toNat := by
  show (if 48 + lo ≤ 48 + n.toNat ∧ 48 + n.toNat ≤ 48 + hi then some (48 + n.toNat - 48) else none) = _
  rw [if_pos ⟨by omega, by omega⟩, show 48 + n.toNat - 48 = n.toNat by omega]
theorem rd_most {n d : Int} {m : Wd} (hn : 0 ≤ n ∧ n ≤ 7) (hd : 1 ≤ d ∧ d ≤ 7) (hm : goodM m = true) : Rds 0 (splitN 32 (cnT [109, 111, 115, 116] n m d)) (.most n m d) := by
  rw [spl_cn (by decide) (goodM_32 hm)]
  refine .plain ?_
  show (if wOf = wOf ∧ wIn = wIn ∧ goodM m = true then
      match fig 0 7 [48 + n.toNat], fig 1 7 [48 + d.toNat] with
      | some n, some d => if wMost = wMost then some (R.most n m d) else if wMost = wLeast then some (.least n m d) else none
      | _, _ => none
    else none) = _
  rw [if_pos ⟨rfl, rfl, hm⟩, fig_at (lo := 0) (hi := 7) (by omega) (by omega), fig_at (lo := 1) (hi := 7) (by omega) (by omega)]
  show (if wMost = wMost then some (R.most (n.toNat : Int) m (d.toNat : Int)) else _) = _
  rw [if_pos rfl, show ((n.toNat : Nat) : Int) = n by omega, show ((d.toNat : Nat) : Int) = d by omega]
theorem rd_least {n d : Int} {m : Wd} (hn : 0 ≤ n ∧ n ≤ 7) (hd : 1 ≤ d ∧ d ≤ 7) (hm : goodM m = true) : Rds 0 (splitN 32 (cnT [108, 101, 97, 115, 116] n m d)) (.least n m d) := by
  rw [spl_cn (by decide) (goodM_32 hm)]
  refine .plain ?_
  show (if wOf = wOf ∧ wIn = wIn ∧ goodM m = true then
      match fig 0 7 [48 + n.toNat], fig 1 7 [48 + d.toNat] with
      | some n, some d => if wLeast = wMost then some (R.most n m d) else if wLeast = wLeast then some (.least n m d) else none
      | _, _ => none
    else none) = _
  rw [if_pos ⟨rfl, rfl, hm⟩, fig_at (lo := 0) (hi := 7) (by omega) (by omega), fig_at (lo := 1) (hi := 7) (by omega) (by omega)]
  show (if wLeast = wMost then _ else if wLeast = wLeast then some (R.least (n.toNat : Int) m (d.toNat : Int)) else _) = _
  rw [if_neg (by decide), if_pos rfl, show ((n.toNat : Nat) : Int) = n by omega, show ((d.toNat : Nat) : Int) = d by omega]
/-- a text that stands within, at this height -/
structure TxW (h : Nat) (r : R) (t : List Nat) : Prop where
  rd : Rds h (splitN 32 t) r
  ln : t.length ≤ 32 * r.sz + 4
  wc : wcN (brT (decide (h < r.lvl)) r.tx) ≤ wcN t
structure TxA (r : R) (t : List Nat) : Prop where
  rd : Rds r.lvl (splitN 32 t) r
  ln : t.length ≤ 32 * r.sz
  wc : wcN r.tx ≤ wcN t
theorem wc_br (t : List Nat) : wcN ([40, 32] ++ t ++ [32, 41]) = wcN t + 2 := by
  unfold wcN
  rw [spl_br]
  simp
theorem wc_brT (b : Bool) (t : List Nat) : wcN (brT b t) = if b = true then wcN t + 2 else wcN t := by
  unfold brT
  cases b
  · rfl
  · exact wc_br t
theorem brT_len (b : Bool) (t : List Nat) : (brT b t).length ≤ t.length + 4 := by
  unfold brT
  cases b
  · simp
  · simp
theorem TxA.br {r : R} {t : List Nat} (x : TxA r t) (h : Nat) (h2 : h ≤ 2) : TxW h r ([40, 32] ++ t ++ [32, 41]) := by
  refine ⟨?_, ?_, ?_⟩
  · rw [spl_br]
    exact (Rds.br (x.rd.up (R.lvl2 r) (Nat.le_refl _))).up (Nat.zero_le _) h2
  · have := x.ln
    simp
    omega
  · have := x.wc
    rw [wc_br, wc_brT]
    split <;> omega
theorem TxA.in {r : R} {t : List Nat} (x : TxA r t) {h : Nat} (h2 : h ≤ 2) (hl : r.lvl ≤ h) : TxW h r t := by
  refine ⟨x.rd.up hl h2, by have := x.ln; omega, ?_⟩
  rw [wc_brT, decide_eq_false (by omega), if_neg Bool.false_ne_true]
  exact x.wc
theorem tx_nev {w : Wd} (h : goodW w = true) : TxA (.nev w) ([110, 101, 118, 101, 114, 32] ++ w) := by
  refine ⟨rd_nev h, ?_, Nat.le_refl _⟩
  have := goodW_len h
  rw [List.length_append]
  show 6 + w.length ≤ 32 * 1
  omega
theorem cn_len (a m : List Nat) (n d : Int) : (cnT a n m d).length = a.length + m.length + 11 := by
  unfold cnT
  simp
  omega
theorem tx_most {n d : Int} {m : Wd} (hn : 0 ≤ n ∧ n ≤ 7) (hd : 1 ≤ d ∧ d ≤ 7) (hm : goodM m = true) : TxA (.most n m d) (cnT [109, 111, 115, 116] n m d) := by
  refine ⟨rd_most hn hd hm, ?_, Nat.le_refl _⟩
  have := goodM_len hm
  rw [cn_len]
  show 4 + m.length + 11 ≤ 32 * 1
  omega
theorem tx_least {n d : Int} {m : Wd} (hn : 0 ≤ n ∧ n ≤ 7) (hd : 1 ≤ d ∧ d ≤ 7) (hm : goodM m = true) : TxA (.least n m d) (cnT [108, 101, 97, 115, 116] n m d) := by
  refine ⟨rd_least hn hd hm, ?_, Nat.le_refl _⟩
  have := goodM_len hm
  rw [cn_len]
  show 5 + m.length + 11 ≤ 32 * 1
  omega
theorem tx_neg {i : R} {t : List Nat} (x : TxW 0 i t) : TxA (.neg i) ([110, 111, 116, 32] ++ t) := by
  refine ⟨?_, ?_, ?_⟩
  · rw [spl_not]
    exact .neg x.rd
  · have := x.ln
    rw [List.length_append]
    show 4 + t.length ≤ 32 * (i.sz + 1)
    omega
  · have := x.wc
    unfold wcN at this ⊢
    show (splitN 32 ([110, 111, 116, 32] ++ brT (decide (0 < i.lvl)) i.tx)).length ≤ _
    rw [spl_not, spl_not, List.length_cons, List.length_cons]
    omega
theorem tx_both {l r : R} {a b : List Nat} (x : TxW 1 l a) (y : TxW 0 r b) : TxA (.both l r) (a ++ [32, 97, 110, 100, 32] ++ b) := by
  refine ⟨?_, ?_, ?_⟩
  · rw [spl_and]
    exact .both x.rd y.rd
  · have := x.ln
    have := y.ln
    rw [List.length_append, List.length_append]
    show a.length + 5 + b.length ≤ 32 * (l.sz + r.sz + 1)
    omega
  · have := x.wc
    have := y.wc
    unfold wcN at *
    show (splitN 32 (brT (decide (1 < l.lvl)) l.tx ++ [32, 97, 110, 100, 32] ++ brT (decide (0 < r.lvl)) r.tx)).length ≤ _
    rw [spl_and, spl_and, List.length_append, List.length_append, List.length_cons, List.length_cons]
    omega
theorem tx_either {l r : R} {a b : List Nat} (x : TxW 2 l a) (y : TxW 1 r b) : TxA (.either l r) (a ++ [32, 111, 114, 32] ++ b) := by
  refine ⟨?_, ?_, ?_⟩
  · rw [spl_or]
    exact .either x.rd y.rd
  · have := x.ln
    have := y.ln
    rw [List.length_append, List.length_append]
    show a.length + 4 + b.length ≤ 32 * (l.sz + r.sz + 1)
    omega
  · have := x.wc
    have := y.wc
    unfold wcN at *
    show (splitN 32 (brT (decide (2 < l.lvl)) l.tx ++ [32, 111, 114, 32] ++ brT (decide (1 < r.lvl)) r.tx)).length ≤ _
    rw [spl_or, spl_or, List.length_append, List.length_append, List.length_cons, List.length_cons]
    omega
theorem TxA.wt {r : R} {t : List Nat} (x : TxA r t) (h : Nat) (h2 : h ≤ 2) : TxW h r (brT (decide (h < r.lvl)) t) := by
  unfold brT
  by_cases e : h < r.lvl
  · rw [decide_eq_true e, if_pos rfl]
    exact x.br h h2
  · rw [decide_eq_false e, if_neg Bool.false_ne_true]
    exact x.in h2 (by omega)
/-- a rule's own text -/
theorem R.tx_ok : ∀ {r : R}, r.ok → TxA r r.tx
  | .nev _, h => tx_nev h
  | .most _ _ _, h => tx_most h.1 h.2.1 h.2.2
  | .least _ _ _, h => tx_least h.1 h.2.1 h.2.2
  | .both _ _, h => tx_both ((R.tx_ok h.1).wt 1 (by decide)) ((R.tx_ok h.2).wt 0 (by decide))
  | .either _ _, h => tx_either ((R.tx_ok h.1).wt 2 (by decide)) ((R.tx_ok h.2).wt 1 (by decide))
  | .neg i, h => tx_neg ((R.tx_ok (r := i) h).wt 0 (by decide))

/-! ### rules as trees of tuples -/
/-- the tree stands at p -/
def TrAt (H : Hp) : R → Addr → Prop
  | .nev w, p => H p = some (.tup [T wNever, T w])
  | .most n m d, p => H p = some (.tup [T wMost, .int n, T m, .int d])
  | .least n m d, p => H p = some (.tup [T wLeast, .int n, T m, .int d])
  | .both l r, p => ∃ a b, H p = some (.tup [T wBoth, .ref a, .ref b]) ∧ TrAt H l a ∧ TrAt H r b
  | .either l r, p => ∃ a b, H p = some (.tup [T wEither, .ref a, .ref b]) ∧ TrAt H l a ∧ TrAt H r b
  | .neg i, p => ∃ a, H p = some (.tup [T wNot, .ref a]) ∧ TrAt H i a
theorem TrAt.same {H H' : Hp} (s : Same H H') : ∀ {r : R} {p : Addr}, TrAt H r p → TrAt H' r p
  | .nev _, _, h => s _ _ h
  | .most _ _ _, _, h => s _ _ h
  | .least _ _ _, _, h => s _ _ h
  | .both _ _, _, ⟨a, b, e, h1, h2⟩ => ⟨a, b, s _ _ e, TrAt.same s h1, TrAt.same s h2⟩
  | .either _ _, _, ⟨a, b, e, h1, h2⟩ => ⟨a, b, s _ _ e, TrAt.same s h1, TrAt.same s h2⟩
  | .neg _, _, ⟨a, e, h1⟩ => ⟨a, s _ _ e, TrAt.same s h1⟩
theorem TrAt.lst {H : Hp} {h : Addr} {xs ys : List V} (hh : H h = some (.lst xs)) : ∀ {r : R} {p : Addr}, TrAt H r p → TrAt (upd H h (.lst ys)) r p := by
  have key : ∀ (q : Addr) (vs : List V), H q = some (.tup vs) → upd H h (.lst ys) q = some (.tup vs) := fun q vs e => by
    have : q ≠ h := fun z => by rw [z, hh] at e; cases e
    rw [upd_ne this]; exact e
  intro r
  induction r with
  | nev w => intro p e; exact key _ _ e
  | most n m d => intro p e; exact key _ _ e
  | least n m d => intro p e; exact key _ _ e
  | both l r i1 i2 => rintro p ⟨a, b, e, h1, h2⟩; exact ⟨a, b, key _ _ e, i1 h1, i2 h2⟩
  | either l r i1 i2 => rintro p ⟨a, b, e, h1, h2⟩; exact ⟨a, b, key _ _ e, i1 h1, i2 h2⟩
  | neg i i1 => rintro p ⟨a, e, h1⟩; exact ⟨a, key _ _ e, i1 h1⟩
theorem at_zero {α : Type} (x : α) (xs : List α) : atI (x :: xs) (0 : Int) = some x := by
  have h : atI (x :: xs) ((0 : Nat) : Int) = some x := atI_nat (by simp)
  exact h
/-- the head of a tree, and how high it binds -/
theorem TrAt.head {H : Hp} {r : R} {p : Addr} (h : TrAt H r p) : ∃ hd xs lv, H p = some (.tup (T hd :: xs)) ∧ r.lvl = lv ∧ ((hd = wNever ∧ lv = 0) ∨ (hd = wMost ∧ lv = 0) ∨ (hd = wLeast ∧ lv = 0) ∨ (hd = wNot ∧ lv = 0) ∨ (hd = wBoth ∧ lv = 1) ∨ (hd = wEither ∧ lv = 2)) := by
  cases r with
  | nev w => exact ⟨_, _, _, h, rfl, .inl ⟨rfl, rfl⟩⟩
  | most n m d => exact ⟨_, _, _, h, rfl, .inr (.inl ⟨rfl, rfl⟩)⟩
  | least n m d => exact ⟨_, _, _, h, rfl, .inr (.inr (.inl ⟨rfl, rfl⟩))⟩
  | neg i =>
    obtain ⟨a, e, _⟩ := h
    exact ⟨_, _, _, e, rfl, .inr (.inr (.inr (.inl ⟨rfl, rfl⟩)))⟩
  | both l r =>
    obtain ⟨a, b, e, _⟩ := h
    exact ⟨_, _, _, e, rfl, .inr (.inr (.inr (.inr (.inl ⟨rfl, rfl⟩))))⟩
  | either l r =>
    obtain ⟨a, b, e, _⟩ := h
    exact ⟨_, _, _, e, rfl, .inr (.inr (.inr (.inr (.inr ⟨rfl, rfl⟩))))⟩
/-! the trees that are held -/
def HeldT (H : Hp) (h : Addr) (zs : List (R × Addr)) : Prop := H h = some (.lst (zs.map fun z => V.ref z.2)) ∧ ∀ z ∈ zs, TrAt H z.1 z.2 ∧ z.1.ok
def szs : List (R × Addr) → Nat
  | [] => 0
  | z :: zs => z.1.sz + szs zs
theorem szs_app : ∀ a b : List (R × Addr), szs (a ++ b) = szs a + szs b
  | [], b => by show szs b = 0 + szs b; omega
  | z :: a, b => by
    show z.1.sz + szs (a ++ b) = z.1.sz + szs a + szs b
    rw [szs_app a b]
    omega
theorem szs_len : ∀ a : List (R × Addr), a.length ≤ szs a
  | [] => Nat.le_refl _
  | z :: a => by
    have := szs_len a
    have := z.1.sz_pos
    show a.length + 1 ≤ z.1.sz + szs a
    omega
theorem szs_one (z : R × Addr) : szs [z] = z.1.sz := rfl
theorem HeldT.same {H H' : Hp} {h : Addr} {zs : List (R × Addr)} (k : HeldT H h zs) (s : Same H H') : HeldT H' h zs :=
  ⟨s _ _ k.1, fun z hz => ⟨(k.2 z hz).1.same s, (k.2 z hz).2⟩⟩
theorem HeldT.push {H : Hp} {h : Addr} {zs : List (R × Addr)} {r : R} {p : Addr} (k : HeldT H h zs) (hr : TrAt H r p) (ho : r.ok) :
    HeldT (upd H h (.lst (zs.map (fun z => V.ref z.2) ++ [.ref p]))) h (zs ++ [(r, p)]) := by
  refine ⟨by rw [upd_same, List.map_append]; rfl, fun z hz => ?_⟩
  rcases List.mem_append.mp hz with hz | hz
  · exact ⟨(k.2 z hz).1.lst k.1, (k.2 z hz).2⟩
  · obtain rfl : z = (r, p) := by simpa using hz
    exact ⟨hr.lst k.1, ho⟩
theorem HeldT.pop {H : Hp} {h : Addr} {zs : List (R × Addr)} {z : R × Addr} (k : HeldT H h (zs ++ [z])) :
    HeldT (upd H h (.lst (((zs ++ [z]).map fun z => V.ref z.2).dropLast))) h zs ∧ TrAt (upd H h (.lst (((zs ++ [z]).map fun z => V.ref z.2).dropLast))) z.1 z.2 ∧ z.1.ok ∧
    ((zs ++ [z]).map fun z => V.ref z.2)[((zs ++ [z]).map fun z => V.ref z.2).length - 1]? = some (V.ref z.2) := by
  have e : ((zs ++ [z]).map fun z => V.ref z.2).dropLast = zs.map fun z => V.ref z.2 := by rw [List.map_append]; exact List.dropLast_concat
  obtain ⟨a, b⟩ := k.2 z (by simp)
  refine ⟨⟨by rw [upd_same, e], fun y hy => ?_⟩, a.lst k.1, b, ?_⟩
  · obtain ⟨a, b⟩ := k.2 y (by simp [hy])
    exact ⟨a.lst k.1, b⟩
  · rw [List.map_append, List.length_append]
    simp
theorem snoc_of {α : Type} {zs : List α} (h : zs ≠ []) : ∃ ys z, zs = ys ++ [z] := ⟨zs.dropLast, zs.getLast h, (List.dropLast_concat_getLast h).symm⟩
def lenAt (H : Hp) (h : Addr) : Nat := match H h with
  | some (.lst xs) => xs.length
  | _ => 0
theorem lenAt_of {H : Hp} {h : Addr} {xs : List V} (e : H h = some (.lst xs)) : lenAt H h = xs.length := by unfold lenAt; rw [e]
theorem nwt {H : Hp} {l : Addr} {xs : List V} (h : H l = none) : ∃ H', H' = upd H l (.tup xs) ∧ H' l = some (.tup xs) ∧ Same H H' := ⟨_, rfl, upd_same, same_new h _⟩
theorem two_wd (i : Int) (h0 : 0 ≤ i) (h : i < 2) : ∃ wd : Wd, atI [T wBoth, T wEither] i = some (T wd) ∧ (wd = wBoth ∨ wd = wEither) := by
  have : i = 0 ∨ i = 1 := by omega
  rcases this with rfl | rfl
  · exact ⟨wBoth, by simp [atI, ixN], .inl rfl⟩
  · exact ⟨wEither, by simp [atI, ixN], .inr rfl⟩
/-- two trees joined -/
theorem joinT {H : Hp} {wd : Wd} {x y : R} {p a b : Addr} (h : wd = wBoth ∨ wd = wEither) (e : H p = some (.tup [T wd, .ref a, .ref b])) (hx : TrAt H x a) (hy : TrAt H y b) (ox : x.ok) (oy : y.ok) :
    ∃ r : R, TrAt H r p ∧ r.ok ∧ r.sz = x.sz + y.sz + 1 := by
  rcases h with rfl | rfl
  · exact ⟨.both x y, ⟨a, b, e, hx, hy⟩, ⟨ox, oy⟩, rfl⟩
  · exact ⟨.either x y, ⟨a, b, e, hx, hy⟩, ⟨ox, oy⟩, rfl⟩
def upS (two : List Nat) : Prop := two.length = 2 ∧ ∀ c ∈ two, isUp c = true
theorem up_signW {c : Nat} (h : isUp c = true) : signW c = true := by unfold signW; rw [h]; rfl
theorem up_signM {c : Nat} (h : isUp c = true) : signM c = true := by unfold signM; rw [h]; rfl
theorem goodW_of {w : Wd} (h1 : 1 ≤ w.length) (h2 : w.length ≤ 7) (h3 : ∀ c ∈ w, signW c = true) : goodW w = true := by
  unfold goodW
  rw [decide_eq_true h1, decide_eq_true h2, List.all_eq_true.mpr h3]
  rfl
theorem goodM_of {w : Wd} (h1 : 1 ≤ w.length) (h2 : w.length ≤ 8) (h3 : ∀ c ∈ w, signM c = true) (h4 : w.Nodup) : goodM w = true := by
  unfold goodM
  rw [decide_eq_true h1, decide_eq_true h2, List.all_eq_true.mpr h3, decide_eq_true h4]
  rfl
theorem goodM_all {w : Wd} (h : goodM w = true) : ∀ c ∈ w, signM c = true := by
  unfold goodM at h
  simp only [Bool.and_eq_true] at h
  exact List.all_eq_true.mp h.1.2

def sp_letU : Sp := fun vs H Q _ => ∃ c, vs = [.int c] ∧ ∀ a b, isUp a = true → isUp b = true → Q (T [a, b]) H
def sp_signs (K : PySem.W.Frag) : Sp := fun vs H Q _ => ∃ (D : Addr) (ns : List Int) (sg : List Nat) (b : Bool), vs = [.ref D, T sg, .bl b] ∧ SqL K H D (ns.map V.int) ∧ 1 ≤ ns.length ∧ ns.length ≤ 8 ∧ 1 ≤ sg.length ∧ sg.length ≤ 100 ∧
  ∀ l : List Nat, (∀ c ∈ l, c ∈ sg) → 1 ≤ l.length → l.length ≤ ns.length → (b = true → l.Nodup) → Q (T l) H
def sp_lp : Sp := fun vs H Q _ => ∃ (c : Int) (two : List Nat), vs = [.int c, T two] ∧ upS two ∧ ∀ (r : R) p H', r.ok → r.sz = 1 → Same H H' → TrAt H' r p → Q (.ref p) H'
def sp_lt (K : PySem.W.Frag) : Sp := fun vs H Q _ => ∃ (cs : Addr) (two : List Nat) (ns : List Int), vs = [.ref cs, T two] ∧ SqL K H cs (ns.map V.int) ∧ ns.length ≤ 12 ∧ upS two ∧ ∀ (r : R) p H', r.ok → r.sz ≤ 24 → Same H H' → TrAt H' r p → Q (.ref p) H'
def sp_ltx (n : Nat) : Sp := fun vs H Q _ => ∃ (r : R) (p : Addr) (e : Int), vs = [.ref p, .int e] ∧ TrAt H r p ∧ r.ok ∧ r.sz ≤ n ∧ r.sz ≤ 25 ∧ ∀ t, TxA r t → (e < 0 → t = r.tx) → Q (T t) H
def sp_lw (n : Nat) : Sp := fun vs H Q _ => ∃ (r : R) (p : Addr) (h e : Int), vs = [.ref p, .int h, .int e] ∧ TrAt H r p ∧ r.ok ∧ r.sz ≤ n ∧ r.sz ≤ 25 ∧ 0 ≤ h ∧ h ≤ 2 ∧ ∀ t, TxW h.toNat r t → (e < 0 → t = brT (decide (h.toNat < r.lvl)) r.tx) → Q (T t) H
def sp_wl : Sp := fun vs H Q _ => ∃ w l, vs = [T w, T l] ∧ w.length ≤ 300 ∧ l.length ≤ 300 ∧ Q (.bl (nevB w l)) H
def sp_lb (n : Nat) : Sp := fun vs H Q _ => ∃ (r : R) (p : Addr) (l : List Nat), vs = [.ref p, T l] ∧ TrAt H r p ∧ r.ok ∧ r.sz ≤ n ∧ l.length ≤ 300 ∧ Q (.bl (r.bad l)) H

/-! ### how the law tells bad days -/
theorem nev_back {wd l : List Nat} (h : wd.length ≤ l.length) : nevB wd l = true ↔ ∀ j < wd.length, ∀ a b, wd[wd.length - 1 - j]? = some a → l[l.length - 1 - j]? = some b → fitsV (T [a]) (T [b]) = true := by
  unfold nevB
  rw [if_neg (by omega), List.all_map, List.all_eq_true]
  have hd : (l.drop (l.length - wd.length)).length = wd.length := by rw [List.length_drop]; omega
  constructor
  · intro z j hj a b ha hb
    refine z (a, b) (List.mem_of_getElem? (i := wd.length - 1 - j) ?_)
    rw [List.getElem?_zip_eq_some]
    refine ⟨ha, ?_⟩
    rw [List.getElem?_drop, show l.length - wd.length + (wd.length - 1 - j) = l.length - 1 - j by omega]
    exact hb
  · rintro z ⟨a, b⟩ hm
    obtain ⟨i, hi⟩ := List.mem_iff_getElem?.mp hm
    rw [List.getElem?_zip_eq_some] at hi
    obtain ⟨h1, h2⟩ := hi
    have h1 : wd[i]? = some a := h1
    have h2 : (l.drop (l.length - wd.length))[i]? = some b := h2
    have il := (List.getElem?_eq_some_iff.mp h1).1
    rw [List.getElem?_drop] at h2
    refine z (wd.length - 1 - i) (by omega) a b ?_ ?_
    · rw [show wd.length - 1 - (wd.length - 1 - i) = i by omega]
      exact h1
    · rw [show l.length - 1 - (wd.length - 1 - i) = l.length - wd.length + i by omega]
      exact h2
theorem fits_one (s c : Nat) : fitsV (T [s]) (T [c]) = if s = 63 then true else if s = 35 then !decide (c = 45) else decide (s = c) := by
  have k : ∀ x y : Nat, decide (T [x] = T [y]) = decide (x = y) := fun x y => by
    rw [T_eq]
    by_cases h : x = y
    · subst h; simp
    · rw [decide_eq_false h, decide_eq_false]
      intro z
      exact h (by simpa using z)
  unfold fitsV
  rw [k, k, k, k]
  by_cases h1 : s = 63
  · rw [if_pos (decide_eq_true h1), if_pos h1]
  · rw [if_neg (by rw [decide_eq_false h1]; exact Bool.false_ne_true), if_neg h1]
    by_cases h2 : s = 35
    · rw [if_pos (decide_eq_true h2), if_pos h2]
    · rw [if_neg (by rw [decide_eq_false h2]; exact Bool.false_ne_true), if_neg h2]
theorem let_law {m : List Nat} {c : Nat} (h : 63 ∉ m) : letV m c = (decide (c ∈ m) || (!decide (c = 45) && decide (35 ∈ m))) := by
  unfold letV
  rw [List.any_map]
  rw [Bool.eq_iff_iff, List.any_eq_true]
  simp only [Function.comp, id, Bool.or_eq_true, Bool.and_eq_true, decide_eq_true_eq, Bool.not_eq_true', decide_eq_false_iff_not]
  constructor
  · rintro ⟨s, hs, e⟩
    rw [fits_one] at e
    by_cases h1 : s = 63
    · exact absurd (h1 ▸ hs) h
    · rw [if_neg h1] at e
      by_cases h2 : s = 35
      · rw [if_pos h2] at e
        refine .inr ⟨?_, h2 ▸ hs⟩
        intro z
        rw [decide_eq_true z] at e
        cases e
      · rw [if_neg h2] at e
        exact .inl ((of_decide_eq_true e) ▸ hs)
  · rintro (hc | ⟨h1, h2⟩)
    · by_cases hc2 : c = 35
      · refine ⟨c, hc, ?_⟩
        rw [fits_one, hc2]
        rfl
      · refine ⟨c, hc, ?_⟩
        rw [fits_one, if_neg hc2]
        split
        · rfl
        · exact decide_eq_true rfl
    · refine ⟨35, h2, ?_⟩
      rw [fits_one, if_neg (by decide), if_pos rfl, decide_eq_false h1]
      rfl
theorem goodM_63 {m : Wd} (h : goodM m = true) : 63 ∉ m := fun z => by
  have := goodM_all h 63 z
  exact absurd this (by decide)
theorem cnt_step {m l : List Nat} {i : Nat} {c : Nat} (hi : i < l.length) (hc : l[l.length - 1 - i]? = some c) : cntV m (l.drop (l.length - (i + 1))) = cntV m (l.drop (l.length - i)) + (if letV m c = true then 1 else 0) := by
  have e : l.drop (l.length - (i + 1)) = c :: l.drop (l.length - i) := by
    have hx : l.length - (i + 1) < l.length := by omega
    rw [List.drop_eq_getElem_cons hx]
    have h1 : l[l.length - (i + 1)]? = some c := by rw [show l.length - (i + 1) = l.length - 1 - i by omega]; exact hc
    rw [List.getElem?_eq_getElem hx] at h1
    rw [Option.some.inj h1, show l.length - (i + 1) + 1 = l.length - i by omega]
  unfold cntV
  rw [e, List.filter_cons]
  split <;> simp

section
variable {P : Program} {w : World} {K : PySem.W.Frag} {mg : Str → Option Value} {base : Heap} {C_Never C_Most C_Least C_Both C_Either C_Not : Addr}

theorem g_fits (tx : Tx K mg C_Never C_Most C_Least C_Both C_Either C_Not) : FnG P w K mg base "fits" 1 ["sign", "mark"] sp_fits := by
  refine tx.f_fits.g sc_fits (fun _ _ _ _ _ _ us hl => match us, hl with | [_, _], _ => rfl) (fun vs H Q E h => ?_) (fun f cdv A outer s H vs Q E hr h => ?_)
  · obtain ⟨a, b, rfl, _⟩ := h
    rfl
  · obtain ⟨a, b, rfl, q⟩ := h
    refine ⟨_, (pss_cons (ps_if (pt_cmpR op_eq (pv 0) (pe_txt (l := [63]) (by decide +kernel)) (nomark _)) (pss_one (ps_ret pe_bl)) pss_nil)
      (pss_cons (ps_if (pt_cmpR op_eq (pv 0) (pe_txt (l := [35]) (by decide +kernel)) (nomark _)) (pss_one (ps_ret (pe_cmpR op_ne (pv 1) (pe_txt (l := [45]) (by decide +kernel)) (nomark _)))) pss_nil)
      (pss_one (ps_ret (pe_cmpR op_eq (pv 0) (pv 1) (nomark _)))))), ?_⟩
    walk_at "st"
    refine ⟨_, rfl, rfl, _, rfl, ?_⟩
    refine ite2 (fun c => ?_) (fun c => ?_)
    · have e : fitsV (T a) (T b) = true := by unfold fitsV; rw [if_pos c]
      rw [e] at q
      exact q
    · refine ⟨_, rfl, rfl, _, rfl, ?_⟩
      refine ite2 (fun c2 => ?_) (fun c2 => ?_)
      · have e : fitsV (T a) (T b) = !decide (T b = T [45]) := by unfold fitsV; rw [if_neg c, if_pos c2]
        rw [e] at q
        exact ⟨_, rfl, rfl, q⟩
      · have e : fitsV (T a) (T b) = decide (T a = T b) := by unfold fitsV; rw [if_neg c, if_neg c2]
        rw [e] at q
        exact ⟨_, rfl, _, rfl, rfl, q⟩


theorem g_last_marks (tx : Tx K mg C_Never C_Most C_Least C_Both C_Either C_Not) : FnG P w K mg base "last_marks" 1 ["marks", "many"] sp_last := by
  refine tx.f_last_marks.g sc_last_marks (fun _ _ _ _ _ _ us hl => match us, hl with | [_, _], _ => rfl) (fun vs H Q E h => ?_) (fun f cdv A outer s H vs Q E hr h => ?_)
  · obtain ⟨a, b, rfl, _⟩ := h
    rfl
  · obtain ⟨l, n, rfl, hl, hn, q⟩ := h
    refine ⟨_, (pss_one (ps_ret (pe_slice sl_txt (pv 0) (po_some (pe_callB (call_max2 rfl) rfl tx.z_max bt_max (pa_cons pe_int (pa_cons (pe_op op_sub (pe_callB call_lenS rfl tx.z_len PySem.boot_len (pa_cons (pv 0) pa_nil)) (pv 1)) pa_nil)))) po_none))), ?_⟩
    walk_at "st"
    refine ⟨_, rfl, _, rfl, l, rfl, small6 hl, _, rfl, _, _, rfl, rfl, _, _, rfl, _, rfl, l, rfl, small6 hl, ?_⟩
    have e : cutN l (some (if (l.length : Int) - n > 0 then (l.length : Int) - n else 0)) none = l.drop (l.length - n.toNat) := by
      rw [cut_from _ _ (by split <;> omega)]
      congr 1
      split <;> omega
    rw [e]
    exact q


theorem g_let_by (tx : Tx K mg C_Never C_Most C_Least C_Both C_Either C_Not) : FnG P w K mg base "let_by" 2 ["signs", "mark"] sp_let := by
  have G_fits := g_fits (P := P) (w := w) (base := base) tx
  refine tx.f_let_by.g sc_let_by (fun _ _ _ _ _ _ us hl => match us, hl with | [_, _], _ => rfl) (fun vs H Q E h => ?_) (fun f cdv A outer s H vs Q E hr h => ?_)
  · obtain ⟨m, c, rfl, _⟩ := h
    rfl
  · obtain ⟨m, c, rfl, hm, q⟩ := h
    refine ⟨_, (pss_one (ps_ret (pe_callB (call_anyBK (K := K) rfl rfl) rfl tx.z_any bt_any (pa_cons (pe_comp (osc := defScope s_let_by) (ON := ["signs", "mark"]) (N := ["sign", "mark"]) (js := [none, some 1]) ⟨rfl, by decide +kernel, by decide +kernel, by decide +kernel, rfl, by decide +kernel⟩ rfl rfl rfl (pi_txt (pv 0)) (fun _ _ _ _ _ => pg_name (i := 0) (show List.Nodup (["sign", "mark"] : List Str) from by decide +kernel) rfl (Or.inl rfl)) (fun _ _ _ _ _ => pifs_nil) (fun _ _ _ _ _ => (pe_fn G_fits (hr.mono (by decide)) (pa_cons (pv 0) (pa_cons (pv 1) pa_nil))))) pa_nil)))), ?_⟩
    walk_at "st"
    refine ⟨_, rfl, m, rfl, ?_⟩
    refine comp_map (fun x => match x with | .str z => .bl (fitsV (.str z) (T [c])) | v => v) (hands_txt m) ?_ (fun x hx H' s' R hR => ?_) (fun D H' hD s' hDD => ?_)
    · rw [List.length_map]; omega
    · obtain ⟨k, _, rfl⟩ := List.mem_map.mp hx
      exact ⟨_, rfl, _, rfl, [k], [c], rfl, hR H' (Same.refl _)⟩
    refine ⟨D, m.map fun s => fitsV (T [s]) (T [c]), rfl, SqL.of ?_, ?_⟩
    · rw [hDD, List.map_map, List.map_map]
      rfl
    · exact q H' s'


theorem g_count_among (tx : Tx K mg C_Never C_Most C_Least C_Both C_Either C_Not) : FnG P w K mg base "count_among" 3 ["signs", "marks"] sp_count := by
  have G_let_by := g_let_by (P := P) (w := w) (base := base) tx
  refine tx.f_count_among.g sc_count_among (fun _ _ _ _ _ _ us hl => match us, hl with | [_, _], _ => rfl) (fun vs H Q E h => ?_) (fun f cdv A outer s H vs Q E hr h => ?_)
  · obtain ⟨m, c, rfl, _⟩ := h
    rfl
  · obtain ⟨m, l, rfl, hm, hl, q⟩ := h
    refine ⟨_, (pss_one (ps_ret (pe_callB (call_len_seqK (K := K) rfl) rfl tx.z_len PySem.boot_len (pa_cons (pe_comp (osc := defScope s_count_among) (ON := ["signs", "marks"]) (N := ["mark", "signs"]) (js := [none, some 0]) ⟨rfl, by decide +kernel, by decide +kernel, by decide +kernel, rfl, by decide +kernel⟩ rfl rfl rfl (pi_txt (pv 1)) (fun _ _ _ _ _ => pg_name (i := 0) (show List.Nodup (["mark", "signs"] : List Str) from by decide +kernel) rfl (Or.inl rfl)) (fun _ _ _ _ _ => pifs_one (pt_val (pe_fn G_let_by (hr.mono (by decide)) (pa_cons (pv 1) (pa_cons (pv 0) pa_nil))))) (fun _ _ _ _ _ => (pv 0))) pa_nil)))), ?_⟩
    walk_at "st"
    refine ⟨_, rfl, l, rfl, ?_⟩
    refine comp_by (fun x => match x with | .str ⟨⟨[c]⟩⟩ => letV m c | _ => false) (fun x => x) (hands_txt l) ?_ (fun x hx H' s' R hR => ?_) (fun x hx hp H' s' R hR => ?_) (fun D H' hD s' hDD => ?_)
    · rw [List.length_map]; omega
    · obtain ⟨k, _, rfl⟩ := List.mem_map.mp hx
      exact ⟨_, rfl, _, rfl, m, k, rfl, hm, fun H2 s2 => ⟨_, rfl, hR H2 s2⟩⟩
    · exact ⟨_, rfl, hR H' (Same.refl _)⟩
    refine ⟨D, _, rfl, .inl (SqL.of hDD), ?_⟩
    have e : ((((l.map fun c => T [c]).filter (fun x => match x with | .str ⟨⟨[c]⟩⟩ => letV m c | _ => false)).map (fun x => x)).length : Int) = (cntV m l : Int) := by
      rw [List.length_map, List.filter_map, List.length_map]
      rfl
    rw [e]
    exact q H' s'


theorem g_Never_init (tx : Tx K mg C_Never C_Most C_Least C_Both C_Either C_Not) : MtG P w K mg base C_Never "__init__" 1 ["self", "word"] (sp_init C_Never) := by
  refine tx.m_Never_init.g tx.c_Never.cl sc_Never_init (fun _ _ _ _ _ _ us hl => match us, hl with | [_, _], _ => rfl) (fun vs H Q E h => ?_) (fun f cdv A outer s H vs Q E hr h => ?_)
  · obtain ⟨p, dx, w, rfl, _⟩ := h
    rfl
  · obtain ⟨p, dx, w, rfl, hp, q⟩ := h
    refine ⟨_, (pss_one (ps_fld (pv 0) (pv 1) rfl)), ?_⟩
    walk_at "st"
    exact ⟨_, rfl, _, rfl, p, C_Never, dx, [], rfl, hp, tx.c_Never.cl, tx.n_Never_word, by decide, q⟩


theorem g_Never_bad (tx : Tx K mg C_Never C_Most C_Least C_Both C_Either C_Not) : MtG P w K mg base C_Never "bad" 2 ["self", "marks"] (sp_bad C_Never) := by
  have G_fits := g_fits (P := P) (w := w) (base := base) tx
  have G_last_marks := g_last_marks (P := P) (w := w) (base := base) tx
  refine tx.m_Never_bad.g tx.c_Never.cl sc_Never_bad (fun _ _ _ _ _ _ us hl => match us, hl with | [_, _], _ => rfl) (fun vs H Q E h => ?_) (fun f cdv A outer s H vs Q E hr h => ?_)
  · obtain ⟨p, w, l, rfl, _⟩ := h
    rfl
  · obtain ⟨p, w, l, rfl, ⟨dx, hp⟩, hw, hl, q⟩ := h
    refine ⟨_, (pss_cons (ps_if (pt_cmpR op_lt (pe_callB call_lenS rfl tx.z_len PySem.boot_len (pa_cons (pv 1) pa_nil)) (pe_callB call_lenS rfl tx.z_len PySem.boot_len (pa_cons (pe_fldK (K := K) rfl (pv 0) rfl) pa_nil)) (nomark _)) (pss_one (ps_ret pe_bl)) pss_nil)
      (pss_cons (ps_set (i := 2) sc_Never_bad.nd rfl (Or.inl rfl) (pe_fn G_last_marks (hr.mono (by decide)) (pa_cons (pv 1) (pa_cons (pe_callB call_lenS rfl tx.z_len PySem.boot_len (pa_cons (pe_fldK (K := K) rfl (pv 0) rfl) pa_nil)) pa_nil))))
      (pss_one (ps_ret (pe_callB (call_allBK (K := K) rfl rfl) rfl tx.z_all bt_all (pa_cons (pe_comp (osc := defScope s_Never_bad) (ON := ["self", "marks", "nearest"]) (N := ["sign", "mark"]) (js := [none, none]) ⟨rfl, by decide +kernel, by decide +kernel, by decide +kernel, rfl, by decide +kernel⟩ rfl rfl rfl (pi_zipT rfl tx.z_zip (pa_cons (pe_fldK (K := K) rfl (pv 0) rfl) (pa_cons (pv 2) pa_nil))) (fun _ _ _ _ _ => pg_two (K := K) (i := 0) (j := 1) rfl rfl (show List.Nodup (["sign", "mark"] : List Str) from by decide +kernel) rfl rfl (Or.inl rfl) (Or.inl rfl)) (fun _ _ _ _ _ => pifs_nil) (fun _ _ _ _ _ => (pe_fn G_fits (hr.mono (by decide)) (pa_cons (pv 0) (pa_cons (pv 1) pa_nil))))) pa_nil)))))), ?_⟩
    walk_at "st"
    refine ⟨_, rfl, l, rfl, small6 hl, _, rfl, p, C_Never, dx, _, _, rfl, hp, tx.c_Never.cl, tx.n_Never_word, wl _, w, rfl, small6 hw, _, _, rfl, rfl, _, rfl, ?_⟩
    refine ite2 (fun c => ?_) (fun c => ?_)
    · have c' := of_decide_eq_true c
      have e : nevB w l = false := by unfold nevB; rw [if_pos (by omega)]
      have q' := q H (Same.refl _)
      rw [e] at q'
      exact q'
    · have c' : ¬ ((l.length : Int) < (w.length : Int)) := of_decide_eq_false (Bool.eq_false_iff.mpr c)
      refine ⟨_, rfl, _, rfl, p, C_Never, dx, _, _, rfl, hp, tx.c_Never.cl, tx.n_Never_word, wl _, w, rfl, small6 hw, l, _, rfl, hl, by omega, ?_⟩
      refine ⟨_, rfl, p, C_Never, dx, _, _, rfl, hp, tx.c_Never.cl, tx.n_Never_word, wl _, _, rfl, w, _, rfl, ?_⟩
      refine comp_zipT (fun c d => .bl (fitsV (T [c]) (T [d]))) ?_ (fun c d H' s' R hR => ?_) (fun D H' hD s' hDD => ?_)
      · omega
      · exact ⟨_, rfl, _, rfl, _, _, rfl, hR H' (Same.refl _)⟩
      refine ⟨D, ((w.zip (l.drop (l.length - (w.length : Int).toNat))).map fun p => fitsV (T [p.1]) (T [p.2])), rfl, SqL.of ?_, ?_⟩
      · rw [hDD, List.map_map]
        rfl
      · have e : nevB w l = ((w.zip (l.drop (l.length - (w.length : Int).toNat))).map fun p => fitsV (T [p.1]) (T [p.2])).all id := by
          unfold nevB
          rw [if_neg (by omega), Int.toNat_natCast]
        have q' := q H' s'
        rw [e] at q'
        exact q'


theorem g_Most_init (tx : Tx K mg C_Never C_Most C_Least C_Both C_Either C_Not) : MtG P w K mg base C_Most "__init__" 1 ["self", "many", "marks", "days"] (sp_init3 C_Most) := by
  refine tx.m_Most_init.g tx.c_Most.cl sc_Most_init (fun _ _ _ _ _ _ us hl => match us, hl with | [_, _, _, _], _ => rfl) (fun vs H Q E h => ?_) (fun f cdv A outer s H vs Q E hr h => ?_)
  · obtain ⟨p, dx, n, m, d, rfl, _⟩ := h
    rfl
  · obtain ⟨p, dx, n, m, d, rfl, hp, q⟩ := h
    refine ⟨_, (pss_cons (ps_fld (pv 0) (pv 1) rfl)
      (pss_cons (ps_fld (pv 0) (pv 2) rfl)
      (pss_one (ps_fld (pv 0) (pv 3) rfl)))), ?_⟩
    walk_at "st"
    refine ⟨_, rfl, _, rfl, p, C_Most, dx, [], rfl, hp, tx.c_Most.cl, tx.n_Most_many, by decide, ?_⟩
    refine ⟨_, rfl, _, rfl, p, C_Most, dx, _, rfl, upd_same, tx.c_Most.cl, tx.n_Most_marks, by show 1 < 1000; decide, ?_⟩
    refine ⟨_, rfl, _, rfl, p, C_Most, dx, _, rfl, upd_same, tx.c_Most.cl, tx.n_Most_days, ?_, ?_⟩
    · have := length_putF "marks" (T m) (putF "many" (.int n) [])
      have h2 := length_putF "many" (V.int n) []
      have h3 : ([] : List (Str × V)).length = 0 := rfl
      omega
    rw [put3]
    exact q


theorem g_Most_bad (tx : Tx K mg C_Never C_Most C_Least C_Both C_Either C_Not) : MtG P w K mg base C_Most "bad" 4 ["self", "marks"] (sp_bad3 C_Most mostB) := by
  have G_count_among := g_count_among (P := P) (w := w) (base := base) tx
  have G_last_marks := g_last_marks (P := P) (w := w) (base := base) tx
  refine tx.m_Most_bad.g tx.c_Most.cl sc_Most_bad (fun _ _ _ _ _ _ us hl => match us, hl with | [_, _], _ => rfl) (fun vs H Q E h => ?_) (fun f cdv A outer s H vs Q E hr h => ?_)
  · obtain ⟨p, n, m, d, l, rfl, _⟩ := h
    rfl
  · obtain ⟨p, n, m, d, l, rfl, ⟨dx, hp⟩, hm, hd, hl, q⟩ := h
    refine ⟨_, (pss_one (ps_ret (pe_cmpR op_gt (pe_fn G_count_among (hr.mono (by decide)) (pa_cons (pe_fldK (K := K) rfl (pv 0) rfl) (pa_cons (pe_fn G_last_marks (hr.mono (by decide)) (pa_cons (pv 1) (pa_cons (pe_fldK (K := K) rfl (pv 0) rfl) pa_nil))) pa_nil))) (pe_fldK (K := K) rfl (pv 0) rfl) (nomark _)))), ?_⟩
    walk_at "st"
    refine ⟨_, rfl, p, C_Most, dx, _, _, rfl, hp, tx.c_Most.cl, tx.n_Most_marks, lk_marks _ _ _, _, rfl, _, rfl, p, C_Most, dx, _, _, rfl, hp, tx.c_Most.cl, tx.n_Most_days, lk_days _ _ _, l, d, rfl, hl, hd, m, _, rfl, hm, ?_, fun H' s' => ?_⟩
    · rw [List.length_drop]; omega
    exact ⟨_, rfl, p, C_Most, dx, _, _, rfl, s' _ _ hp, tx.c_Most.cl, tx.n_Most_many, lk_many _ _ _, _, _, rfl, rfl, q H' s'⟩


theorem g_Least_init (tx : Tx K mg C_Never C_Most C_Least C_Both C_Either C_Not) : MtG P w K mg base C_Least "__init__" 1 ["self", "many", "marks", "days"] (sp_init3 C_Least) := by
  refine tx.m_Least_init.g tx.c_Least.cl sc_Least_init (fun _ _ _ _ _ _ us hl => match us, hl with | [_, _, _, _], _ => rfl) (fun vs H Q E h => ?_) (fun f cdv A outer s H vs Q E hr h => ?_)
  · obtain ⟨p, dx, n, m, d, rfl, _⟩ := h
    rfl
  · obtain ⟨p, dx, n, m, d, rfl, hp, q⟩ := h
    refine ⟨_, (pss_cons (ps_fld (pv 0) (pv 1) rfl)
      (pss_cons (ps_fld (pv 0) (pv 2) rfl)
      (pss_one (ps_fld (pv 0) (pv 3) rfl)))), ?_⟩
    walk_at "st"
    refine ⟨_, rfl, _, rfl, p, C_Least, dx, [], rfl, hp, tx.c_Least.cl, tx.n_Least_many, by decide, ?_⟩
    refine ⟨_, rfl, _, rfl, p, C_Least, dx, _, rfl, upd_same, tx.c_Least.cl, tx.n_Least_marks, by show 1 < 1000; decide, ?_⟩
    refine ⟨_, rfl, _, rfl, p, C_Least, dx, _, rfl, upd_same, tx.c_Least.cl, tx.n_Least_days, ?_, ?_⟩
    · have := length_putF "marks" (T m) (putF "many" (.int n) [])
      have h2 := length_putF "many" (V.int n) []
      have h3 : ([] : List (Str × V)).length = 0 := rfl
      omega
    rw [put3]
    exact q


theorem g_Least_bad (tx : Tx K mg C_Never C_Most C_Least C_Both C_Either C_Not) : MtG P w K mg base C_Least "bad" 4 ["self", "marks"] (sp_bad3 C_Least leastB) := by
  have G_count_among := g_count_among (P := P) (w := w) (base := base) tx
  have G_last_marks := g_last_marks (P := P) (w := w) (base := base) tx
  refine tx.m_Least_bad.g tx.c_Least.cl sc_Least_bad (fun _ _ _ _ _ _ us hl => match us, hl with | [_, _], _ => rfl) (fun vs H Q E h => ?_) (fun f cdv A outer s H vs Q E hr h => ?_)
  · obtain ⟨p, n, m, d, l, rfl, _⟩ := h
    rfl
  · obtain ⟨p, n, m, d, l, rfl, ⟨dx, hp⟩, hm, hd, hl, q⟩ := h
    refine ⟨_, (pss_cons (ps_if (pt_cmpR op_lt (pe_callB call_lenS rfl tx.z_len PySem.boot_len (pa_cons (pv 1) pa_nil)) (pe_fldK (K := K) rfl (pv 0) rfl) (nomark _)) (pss_one (ps_ret pe_bl)) pss_nil)
      (pss_one (ps_ret (pe_cmpR op_lt (pe_fn G_count_among (hr.mono (by decide)) (pa_cons (pe_fldK (K := K) rfl (pv 0) rfl) (pa_cons (pe_fn G_last_marks (hr.mono (by decide)) (pa_cons (pv 1) (pa_cons (pe_fldK (K := K) rfl (pv 0) rfl) pa_nil))) pa_nil))) (pe_fldK (K := K) rfl (pv 0) rfl) (nomark _))))), ?_⟩
    walk_at "st"
    refine ⟨_, rfl, l, rfl, small6 hl, _, rfl, p, C_Least, dx, _, _, rfl, hp, tx.c_Least.cl, tx.n_Least_days, lk_days _ _ _, _, _, rfl, rfl, _, rfl, ?_⟩
    refine ite2 (fun c => ?_) (fun c => ?_)
    · have c' := of_decide_eq_true c
      have e : leastB n m d l = false := by unfold leastB; rw [if_pos c']
      have q' := q H (Same.refl _)
      rw [e] at q'
      exact q'
    have c' : ¬ ((l.length : Int) < d) := of_decide_eq_false (Bool.eq_false_iff.mpr c)
    have e : leastB n m d l = decide ((cntV m (l.drop (l.length - d.toNat)) : Int) < n) := by unfold leastB; rw [if_neg c']
    refine ⟨_, rfl, p, C_Least, dx, _, _, rfl, hp, tx.c_Least.cl, tx.n_Least_marks, lk_marks _ _ _, _, rfl, _, rfl, p, C_Least, dx, _, _, rfl, hp, tx.c_Least.cl, tx.n_Least_days, lk_days _ _ _, l, d, rfl, hl, hd, m, _, rfl, hm, ?_, fun H' s' => ?_⟩
    · rw [List.length_drop]; omega
    have q' := q H' s'
    rw [e] at q'
    exact ⟨_, rfl, p, C_Least, dx, _, _, rfl, s' _ _ hp, tx.c_Least.cl, tx.n_Least_many, lk_many _ _ _, _, _, rfl, rfl, q'⟩


theorem g_Both_init (tx : Tx K mg C_Never C_Most C_Least C_Both C_Either C_Not) : MtG P w K mg base C_Both "__init__" 1 ["self", "left", "right"] (sp_init2 C_Both) := by
  refine tx.m_Both_init.g tx.c_Both.cl sc_Both_init (fun _ _ _ _ _ _ us hl => match us, hl with | [_, _, _], _ => rfl) (fun vs H Q E h => ?_) (fun f cdv A outer s H vs Q E hr h => ?_)
  · obtain ⟨p, dx, a, b, rfl, _⟩ := h
    rfl
  · obtain ⟨p, dx, a, b, rfl, hp, q⟩ := h
    refine ⟨_, (pss_cons (ps_fld (pv 0) (pv 1) rfl)
      (pss_one (ps_fld (pv 0) (pv 2) rfl))), ?_⟩
    walk_at "st"
    refine ⟨_, rfl, _, rfl, p, C_Both, dx, [], rfl, hp, tx.c_Both.cl, tx.n_Both_left, by decide, ?_⟩
    refine ⟨_, rfl, _, rfl, p, C_Both, dx, _, rfl, upd_same, tx.c_Both.cl, tx.n_Both_right, by show 1 < 1000; decide, ?_⟩
    rw [put2]
    exact q


theorem g_Either_init (tx : Tx K mg C_Never C_Most C_Least C_Both C_Either C_Not) : MtG P w K mg base C_Either "__init__" 1 ["self", "left", "right"] (sp_init2 C_Either) := by
  refine tx.m_Either_init.g tx.c_Either.cl sc_Either_init (fun _ _ _ _ _ _ us hl => match us, hl with | [_, _, _], _ => rfl) (fun vs H Q E h => ?_) (fun f cdv A outer s H vs Q E hr h => ?_)
  · obtain ⟨p, dx, a, b, rfl, _⟩ := h
    rfl
  · obtain ⟨p, dx, a, b, rfl, hp, q⟩ := h
    refine ⟨_, (pss_cons (ps_fld (pv 0) (pv 1) rfl)
      (pss_one (ps_fld (pv 0) (pv 2) rfl))), ?_⟩
    walk_at "st"
    refine ⟨_, rfl, _, rfl, p, C_Either, dx, [], rfl, hp, tx.c_Either.cl, tx.n_Either_left, by decide, ?_⟩
    refine ⟨_, rfl, _, rfl, p, C_Either, dx, _, rfl, upd_same, tx.c_Either.cl, tx.n_Either_right, by show 1 < 1000; decide, ?_⟩
    rw [put2]
    exact q


theorem g_Not_init (tx : Tx K mg C_Never C_Most C_Least C_Both C_Either C_Not) : MtG P w K mg base C_Not "__init__" 1 ["self", "inner"] (sp_init1 C_Not) := by
  refine tx.m_Not_init.g tx.c_Not.cl sc_Not_init (fun _ _ _ _ _ _ us hl => match us, hl with | [_, _], _ => rfl) (fun vs H Q E h => ?_) (fun f cdv A outer s H vs Q E hr h => ?_)
  · obtain ⟨p, dx, a, rfl, _⟩ := h
    rfl
  · obtain ⟨p, dx, a, rfl, hp, q⟩ := h
    refine ⟨_, (pss_one (ps_fld (pv 0) (pv 1) rfl)), ?_⟩
    walk_at "st"
    exact ⟨_, rfl, _, rfl, p, C_Not, dx, [], rfl, hp, tx.c_Not.cl, tx.n_Not_inner, by decide, q⟩




abbrev cs6 (C_Never C_Most C_Least C_Both C_Either C_Not : Addr) : Cs := ⟨C_Never, C_Most, C_Least, C_Both, C_Either, C_Not⟩
theorem g_bad (tx : Tx K mg C_Never C_Most C_Least C_Both C_Either C_Not) : ∀ r : R, MtG P w K mg base (r.cls (cs6 C_Never C_Most C_Least C_Both C_Either C_Not)) "bad" (5 + r.depth) ["self", "marks"] (sp_R (cs6 C_Never C_Most C_Least C_Both C_Either C_Not) r)
  | .nev w => (g_Never_bad tx).imp (fun vs H Q E ⟨p, l, e, h, hl, q⟩ => ⟨p, w, l, e, h.1, h.2, hl, q⟩) |>.mono (by show 2 ≤ 5 + _; omega)
  | .most n m d => (g_Most_bad tx).imp (fun vs H Q E ⟨p, l, e, h, hl, q⟩ => ⟨p, n, m, d, l, e, h.1, h.2.1, h.2.2, hl, q⟩) |>.mono (by show 4 ≤ 5 + _; omega)
  | .least n m d => (g_Least_bad tx).imp (fun vs H Q E ⟨p, l, e, h, hl, q⟩ => ⟨p, n, m, d, l, e, h.1, h.2.1, h.2.2, hl, q⟩) |>.mono (by show 4 ≤ 5 + _; omega)
  | .both x y => by
    have Gx := g_bad tx x
    have Gy := g_bad tx y
    refine MtG.mono (j := (5 + max x.depth y.depth) + 1) (tx.m_Both_bad.g tx.c_Both.cl sc_Both_bad (fun _ _ _ _ _ _ us hl => match us, hl with | [_, _], _ => rfl) (fun vs H Q E h => ?_) (fun f cdv A outer s H vs Q E hr h => ?_)) (by show _ ≤ 5 + (max x.depth y.depth + 1); omega)
    · obtain ⟨p, l, rfl, _⟩ := h
      rfl
    · obtain ⟨p, l, rfl, ⟨dx, a, b, e, ha, hb⟩, hl, q⟩ := h
      refine ⟨_, (pss_one (ps_ret (pe_or (pe_mtD (P := P) (w := w) (K := K) (mg := mg) (base := base) hr (pe_fldK (K := K) rfl (pv 0) rfl) (pa_cons (pv 1) pa_nil) rfl rfl rfl rfl rfl) (pe_one (pe_mtD (P := P) (w := w) (K := K) (mg := mg) (base := base) hr (pe_fldK (K := K) rfl (pv 0) rfl) (pa_cons (pv 1) pa_nil) rfl rfl rfl rfl rfl))))), ?_⟩
      walk_at "st"
      obtain ⟨dx1, fs1, o1, n1, _⟩ := ha.obj
      refine ⟨_, rfl, p, C_Both, dx, _, _, rfl, e, tx.c_Both.cl, tx.n_Both_left, lk_left _ _, a, _, dx1, fs1, _, _, _, rfl, o1, n1, Gx, by omega, _, rfl, a, l, rfl, ha, hl, fun H1 s1 => ⟨_, rfl, ?_⟩⟩
      refine ite2 (fun c => ?_) (fun c => ?_)
      · have q' := q H1 s1
        rw [show (R.both x y).bad l = true by show (x.bad l || y.bad l) = true; rw [c, Bool.true_or]] at q'
        exact q'
      · obtain ⟨dx2, fs2, o2, n2, _⟩ := (hb.same s1).obj
        refine ⟨_, rfl, p, C_Both, dx, _, _, rfl, s1 _ _ e, tx.c_Both.cl, tx.n_Both_right, lk_right _ _, b, _, dx2, fs2, _, _, _, rfl, o2, n2, Gy, by omega, _, rfl, b, l, rfl, hb.same s1, hl, fun H2 s2 => ?_⟩
        have q' := q H2 (s1.trans s2)
        rw [show (R.both x y).bad l = y.bad l by show (x.bad l || y.bad l) = y.bad l; rw [Bool.eq_false_iff.mpr c, Bool.false_or]] at q'
        exact q'
  | .either x y => by
    have Gx := g_bad tx x
    have Gy := g_bad tx y
    refine MtG.mono (j := (5 + max x.depth y.depth) + 1) (tx.m_Either_bad.g tx.c_Either.cl sc_Either_bad (fun _ _ _ _ _ _ us hl => match us, hl with | [_, _], _ => rfl) (fun vs H Q E h => ?_) (fun f cdv A outer s H vs Q E hr h => ?_)) (by show _ ≤ 5 + (max x.depth y.depth + 1); omega)
    · obtain ⟨p, l, rfl, _⟩ := h
      rfl
    · obtain ⟨p, l, rfl, ⟨dx, a, b, e, ha, hb⟩, hl, q⟩ := h
      refine ⟨_, (pss_one (ps_ret (pe_and (pe_mtD (P := P) (w := w) (K := K) (mg := mg) (base := base) hr (pe_fldK (K := K) rfl (pv 0) rfl) (pa_cons (pv 1) pa_nil) rfl rfl rfl rfl rfl) (pe_one (pe_mtD (P := P) (w := w) (K := K) (mg := mg) (base := base) hr (pe_fldK (K := K) rfl (pv 0) rfl) (pa_cons (pv 1) pa_nil) rfl rfl rfl rfl rfl))))), ?_⟩
      walk_at "st"
      obtain ⟨dx1, fs1, o1, n1, _⟩ := ha.obj
      refine ⟨_, rfl, p, C_Either, dx, _, _, rfl, e, tx.c_Either.cl, tx.n_Either_left, lk_left _ _, a, _, dx1, fs1, _, _, _, rfl, o1, n1, Gx, by omega, _, rfl, a, l, rfl, ha, hl, fun H1 s1 => ⟨_, rfl, ?_⟩⟩
      refine ite2 (fun c => ?_) (fun c => ?_)
      · obtain ⟨dx2, fs2, o2, n2, _⟩ := (hb.same s1).obj
        refine ⟨_, rfl, p, C_Either, dx, _, _, rfl, s1 _ _ e, tx.c_Either.cl, tx.n_Either_right, lk_right _ _, b, _, dx2, fs2, _, _, _, rfl, o2, n2, Gy, by omega, _, rfl, b, l, rfl, hb.same s1, hl, fun H2 s2 => ?_⟩
        have q' := q H2 (s1.trans s2)
        rw [show (R.either x y).bad l = y.bad l by show (x.bad l && y.bad l) = y.bad l; rw [c, Bool.true_and]] at q'
        exact q'
      · have q' := q H1 s1
        rw [show (R.either x y).bad l = false by show (x.bad l && y.bad l) = false; rw [Bool.eq_false_iff.mpr c, Bool.false_and]] at q'
        exact q'
  | .neg x => by
    have Gx := g_bad tx x
    refine MtG.mono (j := (5 + x.depth) + 1) (tx.m_Not_bad.g tx.c_Not.cl sc_Not_bad (fun _ _ _ _ _ _ us hl => match us, hl with | [_, _], _ => rfl) (fun vs H Q E h => ?_) (fun f cdv A outer s H vs Q E hr h => ?_)) (by show _ ≤ 5 + (x.depth + 1); omega)
    · obtain ⟨p, l, rfl, _⟩ := h
      rfl
    · obtain ⟨p, l, rfl, ⟨dx, a, e, ha⟩, hl, q⟩ := h
      refine ⟨_, (pss_one (ps_ret (pe_not (pe_mtD (P := P) (w := w) (K := K) (mg := mg) (base := base) hr (pe_fldK (K := K) rfl (pv 0) rfl) (pa_cons (pv 1) pa_nil) rfl rfl rfl rfl rfl)))), ?_⟩
      walk_at "st"
      obtain ⟨dx1, fs1, o1, n1, _⟩ := ha.obj
      exact ⟨_, rfl, p, C_Not, dx, _, _, rfl, e, tx.c_Not.cl, tx.n_Not_inner, lk_inner _, a, _, dx1, fs1, _, _, _, rfl, o1, n1, Gx, Nat.le_refl _, _, rfl, a, l, rfl, ha, hl, fun H1 s1 => ⟨_, rfl, q H1 s1⟩⟩

end
/-! ### words are read -/
theorem lettersM : ∀ c : Nat, decide (c ∈ sgM) = signM c := by
  intro c
  by_cases h : c < 128
  · have key : ∀ c < 128, decide (c ∈ sgM) = signM c := by decide +kernel
    exact key c h
  · have n1 : ¬ c ∈ sgM := fun z => by
      have key : ∀ x ∈ sgM, x < 128 := by decide +kernel
      exact h (key c z)
    have n2 : signM c = false := by
      unfold signM isUp
      rw [decide_eq_false (p := c ≤ 90) (by omega), Bool.and_false, Bool.false_or]
      rw [show (c == 45) = false from beq_eq_false_iff_ne.mpr (by omega), show (c == 35) = false from beq_eq_false_iff_ne.mpr (by omega)]
      rfl
    rw [decide_eq_false n1, n2]
theorem lettersW : ∀ c : Nat, decide (c ∈ sgW) = signW c := by
  intro c
  by_cases h : c < 128
  · have key : ∀ c < 128, decide (c ∈ sgW) = signW c := by decide +kernel
    exact key c h
  · have n1 : ¬ c ∈ sgW := fun z => by
      have key : ∀ x ∈ sgW, x < 128 := by decide +kernel
      exact h (key c z)
    have n2 : signW c = false := by
      unfold signW isUp
      rw [decide_eq_false (p := c ≤ 90) (by omega), Bool.and_false, Bool.false_or]
      rw [show (c == 45) = false from beq_eq_false_iff_ne.mpr (by omega), show (c == 35) = false from beq_eq_false_iff_ne.mpr (by omega), show (c == 63) = false from beq_eq_false_iff_ne.mpr (by omega)]
      rfl
    rw [decide_eq_false n1, n2]
def allIn (w l : Wd) : Bool := (w.map fun c => decide (c ∈ l)).all id
theorem allInM (w : Wd) : allIn w sgM = w.all signM := by
  unfold allIn
  rw [List.all_map]
  congr 1
  funext c
  exact lettersM c
theorem allInW (w : Wd) : allIn w sgW = w.all signW := by
  unfold allIn
  rw [List.all_map]
  congr 1
  funext c
  exact lettersW c
theorem met_mem (l : List Nat) : ∀ i, i ≤ l.length → ∀ s : Str, s ∈ metK (fun i => (⟨#[l.getD i 0]⟩ : Str)) i ↔ ∃ x ∈ l.take i, s = ⟨#[x]⟩
  | 0, _, s => by simp [metK]
  | i + 1, h, s => by
    have ih := met_mem l i (by omega) s
    have e : l.getD i 0 = l[i] := by rw [List.getD_eq_getElem?_getD, List.getElem?_eq_getElem (by omega)]; rfl
    have et : l.take (i + 1) = l.take i ++ [l[i]] := by rw [List.take_succ_eq_append_getElem]
    rw [metK, et]
    by_cases hm : (⟨#[l.getD i 0]⟩ : Str) ∈ metK (fun i => (⟨#[l.getD i 0]⟩ : Str)) i
    · rw [if_pos hm, ih]
      obtain ⟨x, hx, ex⟩ := (met_mem l i (by omega) _).mp hm
      rw [e] at ex
      have ex : l[i] = x := by injection ex with z; simpa using z
      constructor
      · rintro ⟨y, hy, rfl⟩
        exact ⟨y, List.mem_append_left _ hy, rfl⟩
      · rintro ⟨y, hy, rfl⟩
        rcases List.mem_append.mp hy with hy | hy
        · exact ⟨y, hy, rfl⟩
        · rw [List.mem_singleton.mp hy, ex]
          exact ⟨x, hx, rfl⟩
    · rw [if_neg hm, List.mem_append, ih, List.mem_singleton, e]
      constructor
      · rintro (⟨y, hy, rfl⟩ | rfl)
        · exact ⟨y, List.mem_append_left _ hy, rfl⟩
        · exact ⟨l[i], List.mem_append_right _ (List.mem_singleton.mpr rfl), rfl⟩
      · rintro ⟨y, hy, rfl⟩
        rcases List.mem_append.mp hy with hy | hy
        · exact .inl ⟨y, hy, rfl⟩
        · rw [List.mem_singleton.mp hy]
          exact .inr rfl
theorem met_nodup (l : List Nat) : ∀ i, i ≤ l.length → ((metK (fun i => (⟨#[l.getD i 0]⟩ : Str)) i).length = i ↔ (l.take i).Nodup)
  | 0, _ => by simp [metK]
  | i + 1, h => by
    have ih := met_nodup l i (by omega)
    have hl := metK_len (fun i => (⟨#[l.getD i 0]⟩ : Str)) i
    have e : l.getD i 0 = l[i] := by rw [List.getD_eq_getElem?_getD, List.getElem?_eq_getElem (by omega)]; rfl
    have et : l.take (i + 1) = l.take i ++ [l[i]] := by rw [List.take_succ_eq_append_getElem]
    have nd : (l.take i ++ [l[i]]).Nodup ↔ (l.take i).Nodup ∧ l[i] ∉ l.take i := by
      rw [List.nodup_append]
      constructor
      · rintro ⟨a, _, c⟩
        exact ⟨a, fun z => c _ z _ (by simp) rfl⟩
      · rintro ⟨a, c⟩
        exact ⟨a, by simp, fun x hx y hy z => c (by rw [List.mem_singleton.mp hy] at z; rw [← z]; exact hx)⟩
    rw [metK, et, nd]
    by_cases hm : (⟨#[l.getD i 0]⟩ : Str) ∈ metK (fun i => (⟨#[l.getD i 0]⟩ : Str)) i
    · rw [if_pos hm]
      obtain ⟨x, hx, ex⟩ := (met_mem l i (by omega) _).mp hm
      rw [e] at ex
      have ex : l[i] = x := by injection ex with z; simpa using z
      constructor
      · intro z
        omega
      · rintro ⟨_, z⟩
        exact absurd (ex ▸ hx) z
    · rw [if_neg hm, List.length_append, List.length_singleton]
      have nx : l[i] ∉ l.take i := fun z => hm ((met_mem l i (by omega) _).mpr ⟨_, z, by rw [e]⟩)
      rw [← ih]
      constructor
      · intro z
        exact ⟨by omega, nx⟩
      · rintro ⟨z, _⟩
        omega
theorem many_nodup (l : List Nat) : decide (V.int (manyN l : Int) = V.int (l.length : Int)) = decide l.Nodup := by
  have k := met_nodup l l.length (Nat.le_refl _)
  rw [List.take_length] at k
  have k2 : manyN l = l.length ↔ l.Nodup := k
  by_cases h : l.Nodup
  · rw [decide_eq_true h, decide_eq_true (by rw [k2.mpr h])]
  · rw [decide_eq_false h, decide_eq_false]
    intro z
    injection z with z
    exact h (k2.mp (by omega))
def figB (w l : Wd) : Bool := decide (w.length = 1) && decide (w.getD 0 0 ∈ l)
def sp_made : Sp := fun vs H Q _ => ∃ w l, vs = [T w, T l] ∧ w.length ≤ 1000 ∧ ∀ H', Same H H' → Q (.bl (allIn w l)) H'
def sp_isfig : Sp := fun vs H Q _ => ∃ w l, vs = [T w, T l] ∧ w.length ≤ 1000 ∧ Q (.bl (figB w l)) H
def sp_isword : Sp := fun vs H Q _ => ∃ w, vs = [T w] ∧ w.length ≤ 1000 ∧ ∀ H', Same H H' → Q (.bl (goodW w)) H'
def sp_marksB : Sp := fun vs H Q _ => ∃ w, vs = [T w] ∧ w.length ≤ 1000 ∧ ∀ H', Same H H' → Q (.bl (goodM w)) H'
def sp_iscnt (K : PySem.W.Frag) : Sp := fun vs H Q _ => ∃ (D : Addr) (a n m d f : Wd), vs = [.ref D, T f] ∧ SqL K H D [T a, T n, T wOf, T m, T wIn, T d] ∧ n.length ≤ 1000 ∧ m.length ≤ 1000 ∧ d.length ≤ 1000 ∧ ∀ H', Same H H' → Q (.bl (decide (a = f) && (figB n fgN && (goodM m && figB d fgD)))) H'
def sp_lo (K : PySem.W.Frag) : Sp := fun vs H Q _ => ∃ (D : Addr) (ws : List Wd) (wd : Wd), vs = [.ref D, T wd] ∧ SqL K H D (ws.map T) ∧ ws.length ≤ 1000 ∧ ∀ H', Same H H' → Q (.int (lastOut ws wd)) H'
def sp_rp (K : PySem.W.Frag) (c6 : Cs) : Sp := fun vs H Q _ => ∃ (D : Addr) (ws : List Wd) (r : R), vs = [.ref D] ∧ SqL K H D (ws.map T) ∧ plainW ws = some r ∧ ∀ p H', Same H H' → RuleAt c6 H' r p → Q (.ref p) H'
def sp_rw (K : PySem.W.Frag) (c6 : Cs) (n : Nat) : Sp := fun vs H Q _ => ∃ (D : Addr) (ws : List Wd) (r : R), vs = [.ref D] ∧ SqL K H D (ws.map T) ∧ rdW n ws = some r ∧ ws.length ≤ 1000 ∧ ∀ p H', Same H H' → RuleAt c6 H' r p → Q (.ref p) H'
def sp_rr (c6 : Cs) : Sp := fun vs H Q _ => ∃ (t : List Nat) (r : R), vs = [T t] ∧ rdW 60 (splitN 32 t) = some r ∧ t.length ≤ 10000 ∧ (splitN 32 t).length ≤ 60 ∧ ∀ p H', Same H H' → RuleAt c6 H' r p → Q (.ref p) H'
theorem cutV_T (ws : List Wd) (lo hi : Option Int) : cutV (ws.map T) lo hi = (cutN ws lo hi).map T := by
  unfold cutV cutN
  rw [List.length_map, List.map_take, List.map_drop]
theorem flat_T (ws : List Wd) : (ws.map T).all flatV = true := by
  rw [List.all_eq_true]
  rintro x hx
  obtain ⟨w, _, rfl⟩ := List.mem_map.mp hx
  rfl
theorem eqV_TT (a b : List Nat) : eqV (T a) (T b) = decide (a = b) := by
  by_cases h : a = b
  · subst h
    rw [decide_eq_true rfl]
    exact decide_eq_true rfl
  · rw [decide_eq_false h]
    exact decide_eq_false fun z => h (T_inj (congrArg V.str z))
theorem eqVs_T : ∀ (a b : List Wd), eqVs (a.map T) (b.map T) = decide (a = b)
  | [], [] => rfl
  | [], y :: b => rfl
  | x :: a, [] => rfl
  | x :: a, y :: b => by
    show (eqV (T x) (T y) && eqVs (a.map T) (b.map T)) = _
    rw [eqVs_T a b, eqV_TT]
    by_cases e : x = y <;> by_cases e2 : a = b <;> simp [e, e2]
theorem cut_last {α : Type} (l : List α) : cutN l (some (-1)) none = l.drop (l.length - 1) := by
  unfold cutN
  rw [HT.sIx_none]
  have e : HT.sIx l.length 0 (some (-1)) = l.length - 1 := by
    show (if (-1 : Int) < 0 then ((-1 : Int) + (l.length : Int)).toNat else min (-1 : Int).toNat l.length) = _
    rw [if_pos (by decide)]
    omega
  rw [e]
  exact List.take_of_length_le (by rw [List.length_drop]; omega)
theorem cut_inner {α : Type} (l : List α) : cutN l (some 1) (some (-1)) = (l.drop 1).take (l.length - 2) := by
  unfold cutN
  have e1 : HT.sIx l.length 0 (some 1) = min 1 l.length := by
    show (if (1 : Int) < 0 then ((1 : Int) + (l.length : Int)).toNat else min (1 : Int).toNat l.length) = _
    rw [if_neg (by decide)]
    rfl
  have e2 : HT.sIx l.length l.length (some (-1)) = l.length - 1 := by
    show (if (-1 : Int) < 0 then ((-1 : Int) + (l.length : Int)).toNat else min (-1 : Int).toNat l.length) = _
    rw [if_pos (by decide)]
    omega
  rw [e1, e2]
  cases l with
  | nil => rfl
  | cons x r =>
    have : min 1 (x :: r).length = 1 := by simp
    rw [this]
    rfl
theorem fig_of_some {lo hi : Nat} {w : Wd} {k : Nat} (h : fig lo hi w = some k) : ∃ c, w = [c] ∧ 48 + lo ≤ c ∧ c ≤ 48 + hi ∧ k = c - 48 := by
  unfold fig at h
  split at h
  · rename_i c
    split at h
    · rename_i hc
      exact ⟨c, rfl, hc.1, hc.2, (Option.some.inj h).symm⟩
    · cases h
  · cases h
theorem figN {c : Nat} (h0 : 48 ≤ c) (h1 : c ≤ 55) : figB [c] fgN = true := by
  have key : ∀ k : Nat, k < 8 → figB [48 + k] fgN = true := by decide +kernel
  have := key (c - 48) (by omega)
  rwa [show 48 + (c - 48) = c by omega] at this
theorem figD {c : Nat} (h0 : 49 ≤ c) (h1 : c ≤ 55) : figB [c] fgD = true := by
  have key : ∀ k : Nat, k < 7 → figB [49 + k] fgD = true := by decide +kernel
  have := key (c - 49) (by omega)
  rwa [show 49 + (c - 49) = c by omega] at this
/-- what a plain rule's words are -/
theorem plain_cases {ws : List Wd} {r : R} (h : plainW ws = some r) : (∃ w, ws = [wNever, w] ∧ goodW w = true ∧ r = .nev w) ∨
    ∃ c m d, ws = [wMost, [c], wOf, m, wIn, [d]] ∧ (48 ≤ c ∧ c ≤ 55) ∧ (49 ≤ d ∧ d ≤ 55) ∧ goodM m = true ∧ r = .most ((c : Int) - 48) m ((d : Int) - 48) ∨
    ws = [wLeast, [c], wOf, m, wIn, [d]] ∧ (48 ≤ c ∧ c ≤ 55) ∧ (49 ≤ d ∧ d ≤ 55) ∧ goodM m = true ∧ r = .least ((c : Int) - 48) m ((d : Int) - 48) := by
  unfold plainW at h
  split at h
  · rename_i a w
    split at h
    · rename_i hh
      obtain ⟨rfl, hw⟩ := hh
      exact .inl ⟨w, rfl, hw, (Option.some.inj h).symm⟩
    · cases h
  · rename_i a n o m i d
    split at h
    · rename_i hh
      obtain ⟨rfl, rfl, hm⟩ := hh
      split at h
      · rename_i n' d' h1 h2
        obtain ⟨c, rfl, c0, c1, rfl⟩ := fig_of_some h1
        obtain ⟨e, rfl, e0, e1, rfl⟩ := fig_of_some h2
        have x1 : ((c - 48 : Nat) : Int) = (c : Int) - 48 := by omega
        have x2 : ((e - 48 : Nat) : Int) = (e : Int) - 48 := by omega
        rw [x1, x2] at h
        split at h
        · rename_i ea
          subst ea
          exact .inr ⟨c, m, e, .inl ⟨rfl, ⟨by omega, by omega⟩, ⟨by omega, by omega⟩, hm, (Option.some.inj h).symm⟩⟩
        · split at h
          · rename_i ea
            subst ea
            exact .inr ⟨c, m, e, .inr ⟨rfl, ⟨by omega, by omega⟩, ⟨by omega, by omega⟩, hm, (Option.some.inj h).symm⟩⟩
          · cases h
      · cases h
    · cases h
  · cases h
theorem nwl {H : Hp} {l : Addr} {xs : List V} (h : H l = none) : ∃ H', H' = upd H l (.lst xs) ∧ H' l = some (.lst xs) ∧ Same H H' := ⟨_, rfl, upd_same, same_new h _⟩
section
variable {P : Program} {w : World} {K : PySem.W.Frag} {mg : Str → Option Value} {base : Heap} {C_Never C_Most C_Least C_Both C_Either C_Not : Addr}

theorem g_made_of (tx : Tx K mg C_Never C_Most C_Least C_Both C_Either C_Not) : FnG P w K mg base "made_of" 1 ["word", "signs"] sp_made := by
  refine tx.f_made_of.g sc_made_of (fun _ _ _ _ _ _ us hl => match us, hl with | [_, _], _ => rfl) (fun vs H Q E h => ?_) (fun f cdv A outer s H vs Q E hr h => ?_)
  · obtain ⟨w, l, rfl, _⟩ := h
    rfl
  · obtain ⟨w, l, rfl, hw, q⟩ := h
    refine ⟨_, (pss_one (ps_ret (pe_callB (call_allBK (K := K) rfl rfl) rfl tx.z_all bt_all (pa_cons (pe_comp (osc := defScope s_made_of) (ON := ["word", "signs"]) (N := ["sign", "signs"]) (js := [none, some 1]) ⟨rfl, by decide +kernel, by decide +kernel, by decide +kernel, rfl, by decide +kernel⟩ rfl rfl rfl (pi_txt (pv 0)) (fun _ _ _ _ _ => pg_name (i := 0) (show List.Nodup (["sign", "signs"] : List Str) from by decide +kernel) rfl (Or.inl rfl)) (fun _ _ _ _ _ => pifs_nil) (fun _ _ _ _ _ => (pe_cmpR op_inS (pv 0) (pv 1) rfl))) pa_nil)))), ?_⟩
    walk_at "st"
    walk_at "rd"
    refine comp_map (fun x => match x with | .str z => .bl (decide (z.cps.getD 0 0 ∈ l)) | v => v) (hands_txt w) ?_ (fun x hx H' s' R hR => ?_) (fun D H' hD s' hDD => ?_)
    · rw [List.length_map]; omega
    · obtain ⟨k, _, rfl⟩ := List.mem_map.mp hx
      walk_at "rd"
      exact hR H' (Same.refl _)
    refine ⟨D, w.map fun c => decide (c ∈ l), rfl, SqL.of ?_, ?_⟩
    · rw [hDD, List.map_map, List.map_map]
      rfl
    · exact q H' s'

theorem g_is_figure (tx : Tx K mg C_Never C_Most C_Least C_Both C_Either C_Not) : FnG P w K mg base "is_figure" 1 ["word", "figures"] sp_isfig := by
  refine tx.f_is_figure.g sc_is_figure (fun _ _ _ _ _ _ us hl => match us, hl with | [_, _], _ => rfl) (fun vs H Q E h => ?_) (fun f cdv A outer s H vs Q E hr h => ?_)
  · obtain ⟨w, l, rfl, _⟩ := h
    rfl
  · obtain ⟨w, l, rfl, hw, q⟩ := h
    refine ⟨_, (pss_one (ps_ret (pe_and (pe_cmpR op_eq (pe_callB call_lenS rfl tx.z_len PySem.boot_len (pa_cons (pv 0) pa_nil)) pe_int (nomark _)) (pe_one (pe_cmpR op_inS (pv 0) (pv 1) rfl))))), ?_⟩
    walk_at "st"
    walk_at "rd"
    refine ite2 (fun c => ?_) (fun c => ?_)
    · have c' : (w.length : Int) = 1 := by have := of_decide_eq_true c; injection this
      obtain ⟨x, rfl⟩ : ∃ x, w = [x] := List.length_eq_one_iff.mp (by omega)
      walk_at "rd"
      have e : figB [x] l = decide (x ∈ l) := by unfold figB; rw [decide_eq_true (show [x].length = 1 from rfl), Bool.true_and]; rfl
      rw [e] at q
      exact q
    · have e : figB w l = false := by
        unfold figB
        rw [decide_eq_false, Bool.false_and]
        intro z
        exact c (decide_eq_true (by rw [z]; rfl))
      rw [e] at q
      exact q

theorem g_is_word (tx : Tx K mg C_Never C_Most C_Least C_Both C_Either C_Not) : FnG P w K mg base "is_word" 2 ["word"] sp_isword := by
  have G_made_of := g_made_of (P := P) (w := w) (base := base) tx
  refine tx.f_is_word.g sc_is_word (fun _ _ _ _ _ _ us hl => match us, hl with | [_], _ => rfl) (fun vs H Q E h => ?_) (fun f cdv A outer s H vs Q E hr h => ?_)
  · obtain ⟨w, rfl, _⟩ := h
    rfl
  · obtain ⟨w, rfl, hw, q⟩ := h
    refine ⟨_, (pss_one (ps_ret (pe_and (pe_chain op_le op_le pe_int (pe_callB call_lenS rfl tx.z_len PySem.boot_len (pa_cons (pv 0) pa_nil)) pe_int) (pe_one (pe_fn G_made_of (hr.mono (by decide)) (pa_cons (pv 0) (pa_cons (pe_globS (l := [65, 66, 67, 68, 69, 70, 71, 72, 73, 74, 75, 76, 77, 78, 79, 80, 81, 82, 83, 84, 85, 86, 87, 88, 89, 90, 45, 35, 63]) rfl tx.k_WORD_SIGNS) pa_nil))))))), ?_⟩
    walk_at "st"
    walk_at "rd"
    refine ite2 (fun c1 => ?_) (fun c1 => ?_)
    · have d1 : (1 : Int) ≤ (w.length : Int) := of_decide_eq_true c1
      walk_at "rd"
      refine ite2 (fun c2 => ?_) (fun c2 => ?_)
      · have d2 : (w.length : Int) ≤ 7 := of_decide_eq_true c2
        walk_at "rd"
        intro H1 s1
        have e : goodW w = allIn w sgW := by
          rw [allInW]
          unfold goodW
          rw [decide_eq_true (show 1 ≤ w.length by omega), decide_eq_true (show w.length ≤ 7 by omega)]
          rfl
        have q1 := q H1 s1
        rw [e] at q1
        exact q1
      · have d2 : ¬ (w.length : Int) ≤ 7 := fun z => c2 (decide_eq_true z)
        have e : goodW w = false := by
          unfold goodW
          rw [decide_eq_false (show ¬ w.length ≤ 7 by omega), Bool.and_false]
          rfl
        have q1 := q H (Same.refl _)
        rw [e] at q1
        exact q1
    · have d1 : ¬ (1 : Int) ≤ (w.length : Int) := fun z => c1 (decide_eq_true z)
      have e : goodW w = false := by
        unfold goodW
        rw [decide_eq_false (show ¬ 1 ≤ w.length by omega)]
        rfl
      have q1 := q H (Same.refl _)
      rw [e] at q1
      walk_at "rd"
      exact q1

theorem g_are_marks (tx : Tx K mg C_Never C_Most C_Least C_Both C_Either C_Not) : FnG P w K mg base "are_marks" 2 ["word"] sp_marksB := by
  have G_made_of := g_made_of (P := P) (w := w) (base := base) tx
  refine tx.f_are_marks.g sc_are_marks (fun _ _ _ _ _ _ us hl => match us, hl with | [_], _ => rfl) (fun vs H Q E h => ?_) (fun f cdv A outer s H vs Q E hr h => ?_)
  · obtain ⟨w, rfl, _⟩ := h
    rfl
  · obtain ⟨w, rfl, hw, q⟩ := h
    refine ⟨_, (pss_one (ps_ret (pe_and (pe_chain op_le op_le pe_int (pe_callB call_lenS rfl tx.z_len PySem.boot_len (pa_cons (pv 0) pa_nil)) pe_int) (pe_and (pe_fn G_made_of (hr.mono (by decide)) (pa_cons (pv 0) (pa_cons (pe_globS (l := [65, 66, 67, 68, 69, 70, 71, 72, 73, 74, 75, 76, 77, 78, 79, 80, 81, 82, 83, 84, 85, 86, 87, 88, 89, 90, 45, 35]) rfl tx.k_MARK_SIGNS) pa_nil))) (pe_one (pe_cmpR op_eq (pe_callB call_lenSO rfl tx.z_len PySem.boot_len (pa_cons (pe_callTy (call_setS rfl) rfl tx.z_set bt_ty_set (pa_cons (pv 0) pa_nil)) pa_nil)) (pe_callB call_lenS rfl tx.z_len PySem.boot_len (pa_cons (pv 0) pa_nil)) (nomark _))))))), ?_⟩
    walk_at "st"
    walk_at "rd"
    refine ite2 (fun c1 => ?_) (fun c1 => ?_)
    · have d1 : (1 : Int) ≤ (w.length : Int) := of_decide_eq_true c1
      walk_at "rd"
      refine ite2 (fun c2 => ?_) (fun c2 => ?_)
      · have d2 : (w.length : Int) ≤ 8 := of_decide_eq_true c2
        walk_at "rd"
        intro H1 s1
        have e : goodM w = (allIn w sgM && decide w.Nodup) := by
          rw [allInM]
          unfold goodM
          rw [decide_eq_true (show 1 ≤ w.length by omega), decide_eq_true (show w.length ≤ 8 by omega)]
          rfl
        walk_at "rd"
        refine ite2 (fun c3 => ?_) (fun c3 => ?_)
        · walk_at "rd"
          intro p hp
          have q1 := q _ (s1.trans (same_new hp (SO p (manyN w))))
          rw [e, c3, Bool.true_and, ← many_nodup] at q1
          walk_at "rd"
          exact q1
        · have q1 := q H1 s1
          rw [e, Bool.eq_false_iff.mpr c3, Bool.false_and] at q1
          exact q1
      · have d2 : ¬ (w.length : Int) ≤ 8 := fun z => c2 (decide_eq_true z)
        have e : goodM w = false := by
          unfold goodM
          rw [decide_eq_false (show ¬ w.length ≤ 8 by omega), Bool.and_false]
          rfl
        have q1 := q H (Same.refl _)
        rw [e] at q1
        exact q1
    · have d1 : ¬ (1 : Int) ≤ (w.length : Int) := fun z => c1 (decide_eq_true z)
      have e : goodM w = false := by
        unfold goodM
        rw [decide_eq_false (show ¬ 1 ≤ w.length by omega)]
        rfl
      have q1 := q H (Same.refl _)
      rw [e] at q1
      walk_at "rd"
      exact q1

theorem g_last_outside (tx : Tx K mg C_Never C_Most C_Least C_Both C_Either C_Not) : FnG P w K mg base "last_outside" 1 ["words", "wanted"] (sp_lo K) := by
  refine tx.f_last_outside.g sc_last_outside (fun _ _ _ _ _ _ us hl => match us, hl with | [_, _], _ => rfl) (fun vs H Q E h => ?_) (fun f cdv A outer s H vs Q E hr h => ?_)
  · obtain ⟨D, ws, wd, rfl, _⟩ := h
    rfl
  · obtain ⟨D, ws, wd, rfl, hD, hl, q⟩ := h
    refine ⟨_, (pss_cons (ps_set (i := 2) sc_last_outside.nd rfl (Or.inl rfl) (pe_un un_neg pe_int))
      (pss_cons (ps_set (i := 3) sc_last_outside.nd rfl (Or.inl rfl) pe_int)
      (pss_cons (ps_for PassesOwn.never rfl (pi_enumLK (K := K) rfl rfl tx.z_enumerate (pa_cons (pv 0) pa_nil)) (pg_tup rfl (pgs_cons (pg_name (i := 4) sc_last_outside.nd rfl (Or.inl rfl)) (pgs_cons (pg_name (i := 5) sc_last_outside.nd rfl (Or.inl rfl)) pgs_nil))) (pss_one (ps_if (pt_cmpR op_eq (pv 5) (pe_txt (l := [40]) (by decide +kernel)) (nomark _)) (pss_one (ps_aug (i := 3) sc_last_outside.nd rfl (Or.inl rfl) pe_int ip_add)) (pss_one (ps_if (pt_cmpR op_eq (pv 5) (pe_txt (l := [41]) (by decide +kernel)) (nomark _)) (pss_one (ps_aug (i := 3) sc_last_outside.nd rfl (Or.inl rfl) pe_int ip_sub)) (pss_one (ps_if (PW.pt (pw_and (pt_cmpR op_eq (pv 5) (pv 1) (nomark _)) (pw_and1 (pt_cmpR op_eq (pv 3) pe_int (nomark _))))) (pss_one (ps_set (i := 2) sc_last_outside.nd rfl (Or.inl rfl) (pv 4))) pss_nil)))))))
      (pss_one (ps_ret (pv 2)))))), ?_⟩
    walk_at "st"
    walk_at "rd"
    refine for_enumL (K := K) (xs := ws.map T) (fun i σ H2 => Here (∃ v1 v2, σ = [some (.ref D), some (T wd), some (.int (lo wd 0 (-1, 0) (ws.take i)).1), some (.int (lo wd 0 (-1, 0) (ws.take i)).2), v1, v2] ∧ Same H H2)) (Here.mk ⟨none, none, rfl, Same.refl _⟩) (fun i σ H2 _ hv => by obtain ⟨_, _, _, s2⟩ := hv.out; exact s2.seq hD) ?_ ?_
    · rintro i x p σ H2 hx hp hv
      obtain ⟨v1, v2, rfl, s2⟩ := hv.out
      obtain ⟨wi, hwi, rfl⟩ : ∃ wi, ws[i]? = some wi ∧ x = T wi := by
        rw [List.getElem?_map] at hx
        cases h : ws[i]? with
        | none => rw [h] at hx; cases hx
        | some z => rw [h] at hx; exact ⟨z, rfl, (Option.some.inj hx).symm⟩
      have s3 : Same H2 (upd H2 p (.tup [.int i, T wi])) := same_new hp _
      have et : ws.take (i + 1) = ws.take i ++ [wi] := by
        rw [List.take_add_one, hwi]
        rfl
      have il := (List.getElem?_eq_some_iff.mp hwi).1
      have el : lo wd 0 (-1, 0) (ws.take (i + 1)) = loStep wd i (lo wd 0 (-1, 0) (ws.take i)) wi := by
        rw [et, lo_app, List.length_take, Nat.min_eq_left (by omega), Nat.zero_add]
        rfl
      rw [el]
      obtain ⟨⟨st1, st2⟩, est⟩ : ∃ st, st = lo wd 0 (-1, 0) (ws.take i) := ⟨_, rfl⟩
      rw [← est]
      walk_at "rd"
      refine ite2 (fun c => ?_) (fun c => ?_)
      · have c' : wi = wL := T_inj (of_decide_eq_true c)
        walk_at "rd"
        have e : loStep wd i (st1, st2) wi = (st1, st2 + 1) := by unfold loStep; rw [if_pos c']
        refine Here.mk ⟨some (.int i), some (T wi), ?_, s2.trans s3⟩
        rw [e]
        rfl
      · have c' : ¬ wi = wL := fun z => c (decide_eq_true (by rw [z]))
        walk_at "rd"
        refine ite2 (fun c1 => ?_) (fun c1 => ?_)
        · have c1' : wi = wR := T_inj (of_decide_eq_true c1)
          walk_at "rd"
          have e : loStep wd i (st1, st2) wi = (st1, st2 - 1) := by unfold loStep; rw [if_neg c', if_pos c1']
          refine Here.mk ⟨some (.int i), some (T wi), ?_, s2.trans s3⟩
          rw [e]
          rfl
        · have c1' : ¬ wi = wR := fun z => c1 (decide_eq_true (by rw [z]))
          walk_at "rd"
          have no : ¬ (wi = wd ∧ st2 = 0) → loStep wd i (st1, st2) wi = (st1, st2) := fun z => by
            unfold loStep
            rw [if_neg c', if_neg c1', if_neg z]
          refine ite2 (fun c2 => ?_) (fun c2 => ?_)
          · have c2' : wi = wd := T_inj (of_decide_eq_true c2)
            walk_at "rd"
            refine ite2 (fun c3 => ?_) (fun c3 => ?_)
            · have c3' : st2 = 0 := by have := of_decide_eq_true c3; injection this
              walk_at "rd"
              have e : loStep wd i (st1, st2) wi = ((i : Int), st2) := by unfold loStep; rw [if_neg c', if_neg c1', if_pos ⟨c2', c3'⟩]
              refine Here.mk ⟨some (.int i), some (T wi), ?_, s2.trans s3⟩
              rw [e]
            · have c3' : ¬ st2 = 0 := fun z => c3 (decide_eq_true (by rw [z]))
              refine Here.mk ⟨some (.int i), some (T wi), ?_, s2.trans s3⟩
              rw [no fun z => c3' z.2]
          · have c2' : ¬ wi = wd := fun z => c2 (decide_eq_true (by rw [z]))
            refine Here.mk ⟨some (.int i), some (T wi), ?_, s2.trans s3⟩
            rw [no fun z => c2' z.1]
    · rintro σ H2 hv
      obtain ⟨v1, v2, rfl, s2⟩ := hv.out
      rw [List.length_map, List.take_length]
      walk_at "rd"
      exact q H2 s2

theorem g_is_count (tx : Tx K mg C_Never C_Most C_Least C_Both C_Either C_Not) : FnG P w K mg base "is_count" 3 ["words", "first"] (sp_iscnt K) := by
  have G_is_figure := g_is_figure (P := P) (w := w) (base := base) tx
  have G_are_marks := g_are_marks (P := P) (w := w) (base := base) tx
  refine tx.f_is_count.g sc_is_count (fun _ _ _ _ _ _ us hl => match us, hl with | [_, _], _ => rfl) (fun vs H Q E h => ?_) (fun f cdv A outer s H vs Q E hr h => ?_)
  · obtain ⟨D, a, n, m, d, f, rfl, _⟩ := h
    rfl
  · obtain ⟨D, a, n, m, d, f, rfl, hD, hn, hm, hd, q⟩ := h
    refine ⟨_, (pss_cons (ps_if (PW.pt (pw_or (pt_cmpR op_ne (pe_callB (call_len_seqK (K := K) rfl) rfl tx.z_len PySem.boot_len (pa_cons (pv 0) pa_nil)) pe_int (nomark _)) (pw_or (pt_cmpR op_ne (pe_ix (ix_listK (K := K) rfl) (pv 0) pe_int (fun _ _ => rfl)) (pv 1) (nomark _)) (pw_or (pt_cmpR op_ne (pe_ix (ix_listK (K := K) rfl) (pv 0) pe_int (fun _ _ => rfl)) (pe_txt (l := [111, 102]) (by decide +kernel)) (nomark _)) (pw_or1 (pt_cmpR op_ne (pe_ix (ix_listK (K := K) rfl) (pv 0) pe_int (fun _ _ => rfl)) (pe_txt (l := [105, 110]) (by decide +kernel)) (nomark _))))))) (pss_one (ps_ret pe_bl)) pss_nil)
      (pss_one (ps_ret (pe_and (pe_fn G_is_figure (hr.mono (by decide)) (pa_cons (pe_ix (ix_listK (K := K) rfl) (pv 0) pe_int (fun _ _ => rfl)) (pa_cons (pe_globS (l := [48, 49, 50, 51, 52, 53, 54, 55]) rfl tx.k_MANY_FIGURES) pa_nil))) (pe_and (pe_fn G_are_marks (hr.mono (by decide)) (pa_cons (pe_ix (ix_listK (K := K) rfl) (pv 0) pe_int (fun _ _ => rfl)) pa_nil)) (pe_one (pe_fn G_is_figure (hr.mono (by decide)) (pa_cons (pe_ix (ix_listK (K := K) rfl) (pv 0) pe_int (fun _ _ => rfl)) (pa_cons (pe_globS (l := [49, 50, 51, 52, 53, 54, 55]) rfl tx.k_DAYS_FIGURES) pa_nil))))))))), ?_⟩
    walk_at "st"
    have e0 : atI [T a, T n, T wOf, T m, T wIn, T d] (0 : Int) = some (T a) := by simp [atI, ixN]
    have e1 : atI [T a, T n, T wOf, T m, T wIn, T d] (1 : Int) = some (T n) := by simp [atI, ixN]
    have e2 : atI [T a, T n, T wOf, T m, T wIn, T d] (2 : Int) = some (T wOf) := by simp [atI, ixN]
    have e3 : atI [T a, T n, T wOf, T m, T wIn, T d] (3 : Int) = some (T m) := by simp [atI, ixN]
    have e4 : atI [T a, T n, T wOf, T m, T wIn, T d] (4 : Int) = some (T wIn) := by simp [atI, ixN]
    have e5 : atI [T a, T n, T wOf, T m, T wIn, T d] (5 : Int) = some (T d) := by simp [atI, ixN]
    walk_at "rd"
    refine ite2 (fun c => ?_) (fun c => ?_)
    · have ea : decide (a = f) = false := by
        refine decide_eq_false fun z => ?_
        rw [z, decide_eq_true rfl] at c
        cases c
      have q1 := q H (Same.refl _)
      rw [ea, Bool.false_and] at q1
      walk_at "rd"
      exact q1
    · have ea : decide (a = f) = true := by
        refine decide_eq_true (T_inj ?_)
        cases z : decide (T a = T f) with
        | true => exact of_decide_eq_true z
        | false => rw [z] at c; exact absurd rfl c
      rw [ea, Bool.true_and] at q
      walk_at "rd"
      refine ite2 (fun c1 => ?_) (fun c1 => ?_)
      · rw [c1, Bool.true_and] at q
        walk_at "rd"
        intro H1 s1
        have hD1 := s1.seq hD
        walk_at "rd"
        refine ite2 (fun c2 => ?_) (fun c2 => ?_)
        · rw [c2, Bool.true_and] at q
          walk_at "rd"
          exact q H1 s1
        · rw [Bool.eq_false_iff.mpr c2, Bool.false_and] at q
          walk_at "rd"
          exact q H1 s1
      · rw [Bool.eq_false_iff.mpr c1, Bool.false_and] at q
        walk_at "rd"
        exact q H (Same.refl _)

theorem g_read_plain (tx : Tx K mg C_Never C_Most C_Least C_Both C_Either C_Not) : FnG P w K mg base "read_plain" 4 ["words"] (sp_rp K (cs6 C_Never C_Most C_Least C_Both C_Either C_Not)) := by
  have G_is_word := g_is_word (P := P) (w := w) (base := base) tx
  have G_is_count := g_is_count (P := P) (w := w) (base := base) tx
  have G_Never := tx.c_Never.g (g_Never_init (P := P) (w := w) (base := base) tx)
  have G_Most := tx.c_Most.g (g_Most_init (P := P) (w := w) (base := base) tx)
  have G_Least := tx.c_Least.g (g_Least_init (P := P) (w := w) (base := base) tx)
  refine tx.f_read_plain.g sc_read_plain (fun _ _ _ _ _ _ us hl => match us, hl with | [_], _ => rfl) (fun vs H Q E h => ?_) (fun f cdv A outer s H vs Q E hr h => ?_)
  · obtain ⟨D, ws, r, rfl, _⟩ := h
    rfl
  · obtain ⟨D, ws, r, rfl, hD, hp, q⟩ := h
    refine ⟨_, (pss_cons (ps_if (PW.pt (pw_and (pt_cmpR op_eq (pe_callB (call_len_seqK (K := K) rfl) rfl tx.z_len PySem.boot_len (pa_cons (pv 0) pa_nil)) pe_int (nomark _)) (pw_and (pt_cmpR op_eq (pe_ix (ix_listK (K := K) rfl) (pv 0) pe_int (fun _ _ => rfl)) (pe_txt (l := [110, 101, 118, 101, 114]) (by decide +kernel)) (nomark _)) (pw_and1 (pt_val (pe_fn G_is_word (hr.mono (by decide)) (pa_cons (pe_ix (ix_listK (K := K) rfl) (pv 0) pe_int (fun _ _ => rfl)) pa_nil))))))) (pss_one (ps_ret (pe_mkI (r := rNev (cs6 C_Never C_Most C_Least C_Both C_Either C_Not)) G_Never (hr.mono (by decide)) mk_nev (pa_cons (pe_ix (ix_listK (K := K) rfl) (pv 0) pe_int (fun _ _ => rfl)) pa_nil)))) pss_nil)
      (pss_cons (ps_if (pt_val (pe_fn G_is_count (hr.mono (by decide)) (pa_cons (pv 0) (pa_cons (pe_txt (l := [109, 111, 115, 116]) (by decide +kernel)) pa_nil)))) (pss_one (ps_ret (pe_mkI (r := rMost (cs6 C_Never C_Most C_Least C_Both C_Either C_Not)) G_Most (hr.mono (by decide)) mk_most (pa_cons (pe_callTy call_int_txt rfl tx.z_int bt_ty_int (pa_cons (pe_ix (ix_listK (K := K) rfl) (pv 0) pe_int (fun _ _ => rfl)) pa_nil)) (pa_cons (pe_ix (ix_listK (K := K) rfl) (pv 0) pe_int (fun _ _ => rfl)) (pa_cons (pe_callTy call_int_txt rfl tx.z_int bt_ty_int (pa_cons (pe_ix (ix_listK (K := K) rfl) (pv 0) pe_int (fun _ _ => rfl)) pa_nil)) pa_nil)))))) pss_nil)
      (pss_cons (ps_if (pt_val (pe_fn G_is_count (hr.mono (by decide)) (pa_cons (pv 0) (pa_cons (pe_txt (l := [108, 101, 97, 115, 116]) (by decide +kernel)) pa_nil)))) (pss_one (ps_ret (pe_mkI (r := rLeast (cs6 C_Never C_Most C_Least C_Both C_Either C_Not)) G_Least (hr.mono (by decide)) mk_least (pa_cons (pe_callTy call_int_txt rfl tx.z_int bt_ty_int (pa_cons (pe_ix (ix_listK (K := K) rfl) (pv 0) pe_int (fun _ _ => rfl)) pa_nil)) (pa_cons (pe_ix (ix_listK (K := K) rfl) (pv 0) pe_int (fun _ _ => rfl)) (pa_cons (pe_callTy call_int_txt rfl tx.z_int bt_ty_int (pa_cons (pe_ix (ix_listK (K := K) rfl) (pv 0) pe_int (fun _ _ => rfl)) pa_nil)) pa_nil)))))) pss_nil)
      (pss_one ps_never)))), ?_⟩
    walk_at "st"
    rcases plain_cases hp with ⟨w, rfl, hw, rfl⟩ | ⟨c, m, d, ⟨rfl, ⟨c0, c1⟩, ⟨d0, d1⟩, hm, rfl⟩ | ⟨rfl, ⟨c0, c1⟩, ⟨d0, d1⟩, hm, rfl⟩⟩
    · have hD' : SqL K H D [T wNever, T w] := hD
      have e0 : atI [T wNever, T w] (0 : Int) = some (T wNever) := by simp [atI, ixN]
      have e1 : atI [T wNever, T w] (1 : Int) = some (T w) := by simp [atI, ixN]
      obtain ⟨w1, w2⟩ := goodW_len hw
      clear hD hp
      walk_at "rd"
      intro H1 s1
      have hD1 := s1.seq hD'
      rw [hw]
      walk_at "rd"
      intro p H2 s2 r2
      exact q p H2 (s1.trans s2) r2
    · have hD' : SqL K H D [T wMost, T [c], T wOf, T m, T wIn, T [d]] := hD
      have e1 : atI [T wMost, T [c], T wOf, T m, T wIn, T [d]] (1 : Int) = some (T [c]) := by simp [atI, ixN]
      have e3 : atI [T wMost, T [c], T wOf, T m, T wIn, T [d]] (3 : Int) = some (T m) := by simp [atI, ixN]
      have e5 : atI [T wMost, T [c], T wOf, T m, T wIn, T [d]] (5 : Int) = some (T [d]) := by simp [atI, ixN]
      obtain ⟨m1, m2⟩ := goodM_len hm
      have et : (decide (wMost = [109, 111, 115, 116]) && (figB [c] fgN && (goodM m && figB [d] fgD))) = true := by rw [figN c0 c1, hm, figD d0 d1]; rfl
      have c2 : c ≤ 57 := by omega
      have d2 : d ≤ 57 := by omega
      have d3 : 48 ≤ d := by omega
      clear hD hp
      walk_at "rd"
      intro H1 s1
      have hD1 := s1.seq hD'
      rw [et]
      walk_at "rd"
      intro p H2 s2 r2
      exact q p H2 (s1.trans s2) r2
    · have hD' : SqL K H D [T wLeast, T [c], T wOf, T m, T wIn, T [d]] := hD
      have e1 : atI [T wLeast, T [c], T wOf, T m, T wIn, T [d]] (1 : Int) = some (T [c]) := by simp [atI, ixN]
      have e3 : atI [T wLeast, T [c], T wOf, T m, T wIn, T [d]] (3 : Int) = some (T m) := by simp [atI, ixN]
      have e5 : atI [T wLeast, T [c], T wOf, T m, T wIn, T [d]] (5 : Int) = some (T [d]) := by simp [atI, ixN]
      obtain ⟨m1, m2⟩ := goodM_len hm
      have ef : (decide (wLeast = [109, 111, 115, 116]) && (figB [c] fgN && (goodM m && figB [d] fgD))) = false := by rw [decide_eq_false (by decide)]; rfl
      have et : (decide (wLeast = [108, 101, 97, 115, 116]) && (figB [c] fgN && (goodM m && figB [d] fgD))) = true := by rw [figN c0 c1, hm, figD d0 d1]; rfl
      have c2 : c ≤ 57 := by omega
      have d2 : d ≤ 57 := by omega
      have d3 : 48 ≤ d := by omega
      clear hD hp
      walk_at "rd"
      intro H1 s1
      have hD1 := s1.seq hD'
      rw [ef]
      walk_at "rd"
      intro H3 s3
      have hD3 := s3.seq hD1
      rw [et]
      walk_at "rd"
      intro p H2 s2 r2
      exact q p H2 (s1.trans (s3.trans s2)) r2
end

section
variable {P : Program} {w : World} {K : PySem.W.Frag} {mg : Str → Option Value} {base : Heap} {C_Never C_Most C_Least C_Both C_Either C_Not : Addr}

theorem g_read_words (tx : Tx K mg C_Never C_Most C_Least C_Both C_Either C_Not) : ∀ n, FnG P w K mg base "read_words" (5 + n) ["words"] (sp_rw K (cs6 C_Never C_Most C_Least C_Both C_Either C_Not) n)
  | 0 => by
    have G_read_words : FnG P w K mg base "last_outside" 1 ["words", "wanted"] (sp_lo K) := g_last_outside (P := P) (w := w) (base := base) tx
    refine FnG.mono (j := 5) (tx.f_read_words.g sc_read_words (fun _ _ _ _ _ _ us hl => match us, hl with | [_], _ => rfl) (fun vs H Q E h => ?_) (fun f cdv A outer s H vs Q E hr h => ?_)) (by omega)
    · obtain ⟨D, ws, r, rfl, _⟩ := h
      rfl
    · obtain ⟨D, ws, r, _, _, hn, _⟩ := h
      rw [rdW] at hn
      cases hn
  | n + 1 => by
    have G_read_words := g_read_words tx n
    have G_last_outside := g_last_outside (P := P) (w := w) (base := base) tx
    have G_read_plain := g_read_plain (P := P) (w := w) (base := base) tx
    have G_Both := tx.c_Both.g (g_Both_init (P := P) (w := w) (base := base) tx)
    have G_Either := tx.c_Either.g (g_Either_init (P := P) (w := w) (base := base) tx)
    have G_Not := tx.c_Not.g (g_Not_init (P := P) (w := w) (base := base) tx)
    refine FnG.mono (j := (5 + n) + 1) (tx.f_read_words.g sc_read_words (fun _ _ _ _ _ _ us hl => match us, hl with | [_], _ => rfl) (fun vs H Q E h => ?_) (fun f cdv A outer s H vs Q E hr h => ?_)) (by omega)
    · obtain ⟨D, ws, r, rfl, _⟩ := h
      rfl
    · obtain ⟨D, ws, r, rfl, hD, hn, hl, q⟩ := h
      refine ⟨_, (pss_cons (ps_set (i := 1) sc_read_words.nd rfl (Or.inl rfl) (pe_fn G_last_outside (hr.mono (by omega)) (pa_cons (pv 0) (pa_cons (pe_txt (l := [111, 114]) (by decide +kernel)) pa_nil))))
      (pss_cons (ps_if (pt_cmpR op_ge (pv 1) pe_int (nomark _)) (pss_one (ps_ret (pe_mkI (r := rEither (cs6 C_Never C_Most C_Least C_Both C_Either C_Not)) G_Either (hr.mono (by omega)) mk_either (pa_cons (pe_fn G_read_words (hr.mono (by omega)) (pa_cons (pe_slice (sl_listK (K := K) rfl) (pv 0) po_none (po_some (pv 1))) pa_nil)) (pa_cons (pe_fn G_read_words (hr.mono (by omega)) (pa_cons (pe_slice (sl_listK (K := K) rfl) (pv 0) (po_some (pe_op op_add (pv 1) pe_int)) po_none) pa_nil)) pa_nil))))) pss_nil)
      (pss_cons (ps_set (i := 1) sc_read_words.nd rfl (Or.inl rfl) (pe_fn G_last_outside (hr.mono (by omega)) (pa_cons (pv 0) (pa_cons (pe_txt (l := [97, 110, 100]) (by decide +kernel)) pa_nil))))
      (pss_cons (ps_if (pt_cmpR op_ge (pv 1) pe_int (nomark _)) (pss_one (ps_ret (pe_mkI (r := rBoth (cs6 C_Never C_Most C_Least C_Both C_Either C_Not)) G_Both (hr.mono (by omega)) mk_both (pa_cons (pe_fn G_read_words (hr.mono (by omega)) (pa_cons (pe_slice (sl_listK (K := K) rfl) (pv 0) po_none (po_some (pv 1))) pa_nil)) (pa_cons (pe_fn G_read_words (hr.mono (by omega)) (pa_cons (pe_slice (sl_listK (K := K) rfl) (pv 0) (po_some (pe_op op_add (pv 1) pe_int)) po_none) pa_nil)) pa_nil))))) pss_nil)
      (pss_cons (ps_if (pt_cmpR (op_eqL (K := K) rfl hr.units0) (pe_slice (sl_listK (K := K) rfl) (pv 0) po_none (po_some pe_int)) (pe_lst (pa_cons (pe_txt (l := [110, 111, 116]) (by decide +kernel)) pa_nil)) (nomark _)) (pss_one (ps_ret (pe_mkI (r := rNot (cs6 C_Never C_Most C_Least C_Both C_Either C_Not)) G_Not (hr.mono (by omega)) mk_not (pa_cons (pe_fn G_read_words (hr.mono (by omega)) (pa_cons (pe_slice (sl_listK (K := K) rfl) (pv 0) (po_some pe_int) po_none) pa_nil)) pa_nil)))) pss_nil)
      (pss_cons (ps_if (PW.pt (pw_and (pt_cmpR (op_eqL (K := K) rfl hr.units0) (pe_slice (sl_listK (K := K) rfl) (pv 0) po_none (po_some pe_int)) (pe_lst (pa_cons (pe_txt (l := [40]) (by decide +kernel)) pa_nil)) (nomark _)) (pw_and1 (pt_cmpR (op_eqL (K := K) rfl hr.units0) (pe_slice (sl_listK (K := K) rfl) (pv 0) (po_some (pe_un un_neg pe_int)) po_none) (pe_lst (pa_cons (pe_txt (l := [41]) (by decide +kernel)) pa_nil)) (nomark _))))) (pss_one (ps_ret (pe_fn G_read_words (hr.mono (by omega)) (pa_cons (pe_slice (sl_listK (K := K) rfl) (pv 0) (po_some pe_int) (po_some (pe_un un_neg pe_int))) pa_nil)))) pss_nil)
      (pss_one (ps_ret (pe_fn G_read_plain (hr.mono (by omega)) (pa_cons (pv 0) pa_nil)))))))))), ?_⟩
      walk_at "st"
      rw [rdW] at hn
      walk_at "rd"
      intro H1 s1
      have hD1 := s1.seq hD
      walk_at "rd"
      refine ite2 (fun c => ?_) (fun c => ?_)
      · have c' : 0 ≤ lastOut ws wOr := of_decide_eq_true c
        rw [if_pos c'] at hn
        split at hn
        · rename_i x y hx hy
          cases hn
          walk_at "rd"
          intro p1 hp1
          obtain ⟨H2, e2, hp2, s2⟩ := nwl (xs := cutV (ws.map T) none (some (lastOut ws wOr))) hp1
          rw [← e2]
          clear e2
          have q2 : SqL K H2 p1 ((ws.take (lastOut ws wOr).toNat).map T) := by
            rw [← cut_to _ _ c', ← cutV_T]
            exact SqL.of hp2
          have l2 : (ws.take (lastOut ws wOr).toNat).length ≤ 1000 := by rw [List.length_take]; omega
          have hD2 := s2.seq hD1
          walk_at "rd"
          intro pa Ha sa ra
          have hDa := sa.seq hD2
          walk_at "rd"
          intro p3 hp3
          obtain ⟨H3, e3, hp4, s3⟩ := nwl (xs := cutV (ws.map T) (some (lastOut ws wOr + 1)) none) hp3
          rw [← e3]
          clear e3
          have q3 : SqL K H3 p3 ((ws.drop ((lastOut ws wOr).toNat + 1)).map T) := by
            rw [show (lastOut ws wOr).toNat + 1 = (lastOut ws wOr + 1).toNat by omega, ← cut_from _ _ (by omega), ← cutV_T]
            exact SqL.of hp4
          have l3 : (ws.drop ((lastOut ws wOr).toNat + 1)).length ≤ 1000 := by rw [List.length_drop]; omega
          walk_at "rd"
          intro pb Hb sb rb
          have ra' := (ra.same s3).same sb
          walk_at "rd"
          intro p dx H5 s5 r5 _
          exact q p H5 (s1.trans (s2.trans (sa.trans (s3.trans (sb.trans s5))))) r5
        · cases hn
      · have c' : ¬ 0 ≤ lastOut ws wOr := fun z => c (decide_eq_true z)
        rw [if_neg c'] at hn
        clear c c'
        walk_at "rd"
        intro H1b s1b
        have hD1b := s1b.seq hD1
        have s1c := s1.trans s1b
        clear hD1 s1 s1b
        walk_at "rd"
        refine ite2 (fun c => ?_) (fun c => ?_)
        · have c' : 0 ≤ lastOut ws wAnd := of_decide_eq_true c
          rw [if_pos c'] at hn
          split at hn
          · rename_i x y hx hy
            cases hn
            walk_at "rd"
            intro p1 hp1
            obtain ⟨H2, e2, hp2, s2⟩ := nwl (xs := cutV (ws.map T) none (some (lastOut ws wAnd))) hp1
            rw [← e2]
            clear e2
            have q2 : SqL K H2 p1 ((ws.take (lastOut ws wAnd).toNat).map T) := by
              rw [← cut_to _ _ c', ← cutV_T]
              exact SqL.of hp2
            have l2 : (ws.take (lastOut ws wAnd).toNat).length ≤ 1000 := by rw [List.length_take]; omega
            have hD2 := s2.seq hD1b
            walk_at "rd"
            intro pa Ha sa ra
            have hDa := sa.seq hD2
            walk_at "rd"
            intro p3 hp3
            obtain ⟨H3, e3, hp4, s3⟩ := nwl (xs := cutV (ws.map T) (some (lastOut ws wAnd + 1)) none) hp3
            rw [← e3]
            clear e3
            have q3 : SqL K H3 p3 ((ws.drop ((lastOut ws wAnd).toNat + 1)).map T) := by
              rw [show (lastOut ws wAnd).toNat + 1 = (lastOut ws wAnd + 1).toNat by omega, ← cut_from _ _ (by omega), ← cutV_T]
              exact SqL.of hp4
            have l3 : (ws.drop ((lastOut ws wAnd).toNat + 1)).length ≤ 1000 := by rw [List.length_drop]; omega
            walk_at "rd"
            intro pb Hb sb rb
            have ra' := (ra.same s3).same sb
            walk_at "rd"
            intro p dx H5 s5 r5 _
            exact q p H5 (s1c.trans (s2.trans (sa.trans (s3.trans (sb.trans s5))))) r5
          · cases hn
        · have c' : ¬ 0 ≤ lastOut ws wAnd := fun z => c (decide_eq_true z)
          rw [if_neg c'] at hn
          clear c c'
          have f1 : (cutV (ws.map T) none (some 1)).all flatV = true := by rw [cutV_T]; exact flat_T _
          have f2 : (cutV (ws.map T) (some (-1)) none).all flatV = true := by rw [cutV_T]; exact flat_T _
          have k1 : ∀ w : Wd, eqVs (cutV (ws.map T) none (some 1)) [T w] = decide (ws.take 1 = [w]) := fun w => by
            rw [cutV_T, cut_to _ _ (by decide)]
            exact eqVs_T _ [w]
          have k2 : ∀ w : Wd, eqVs (cutV (ws.map T) (some (-1)) none) [T w] = decide (ws.drop (ws.length - 1) = [w]) := fun w => by
            rw [cutV_T, cut_last]
            exact eqVs_T _ [w]
          walk_at "rd"
          intro p1 hp1
          obtain ⟨H2, e2, hp2, s2⟩ := nwl (xs := cutV (ws.map T) none (some 1)) hp1
          rw [← e2]
          clear e2
          have hD2 := s2.seq hD1b
          walk_at "rd"
          intro p3 hp3
          obtain ⟨H3, e3, hp4, s3⟩ := nwl (xs := [T [110, 111, 116]]) hp3
          rw [← e3]
          clear e3
          have hp5 := s3 _ _ hp2
          have hD3 := s3.seq hD2
          walk_at "rd"
          refine ite2 (fun c => ?_) (fun c => ?_)
          · have c' : ws.take 1 = [wNot] := by
              have c2 : eqVs (cutV (ws.map T) none (some 1)) [T wNot] = true := c
              rw [k1] at c2
              exact of_decide_eq_true c2
            rw [if_pos c'] at hn
            split at hn
            · rename_i x hx
              cases hn
              walk_at "rd"
              intro p6 hp6
              obtain ⟨H4, e4, hp7, s4⟩ := nwl (xs := cutV (ws.map T) (some 1) none) hp6
              rw [← e4]
              clear e4
              have q4 : SqL K H4 p6 ((ws.drop 1).map T) := by
                have e := cut_from ws 1 (by decide)
                rw [cutV_T, e] at hp7
                exact SqL.of hp7
              have l4 : (ws.drop 1).length ≤ 1000 := by rw [List.length_drop]; omega
              walk_at "rd"
              intro pa Ha sa ra
              walk_at "rd"
              intro p dx H5 s5 r5 _
              exact q p H5 (s1c.trans (s2.trans (s3.trans (s4.trans (sa.trans s5))))) r5
            · cases hn
          · have c' : ¬ ws.take 1 = [wNot] := fun z => c (by
              show eqVs (cutV (ws.map T) none (some 1)) [T wNot] = true
              rw [k1]
              exact decide_eq_true z)
            rw [if_neg c'] at hn
            clear c c'
            have s03 := s1c.trans (s2.trans s3)
            clear hp5 hp4 hp3 hp2 hp1 hD2 s1c s2 s3 hD1b
            walk_at "rd"
            intro p6 hp6
            obtain ⟨H4, e4, hp7, s4⟩ := nwl (xs := cutV (ws.map T) none (some 1)) hp6
            rw [← e4]
            clear e4
            have hD4 := s4.seq hD3
            walk_at "rd"
            intro p8 hp8
            obtain ⟨H5, e5, hp9, s5⟩ := nwl (xs := [T [40]]) hp8
            rw [← e5]
            clear e5
            have hp10 := s5 _ _ hp7
            have hD5 := s5.seq hD4
            have s05 := s03.trans (s4.trans s5)
            walk_at "rd"
            refine ite2 (fun c => ?_) (fun c => ?_)
            · have c1 : ws.take 1 = [wL] := by
                have c2 : eqVs (cutV (ws.map T) none (some 1)) [T wL] = true := c
                rw [k1] at c2
                exact of_decide_eq_true c2
              clear c hp10 hp9 hp8 hp7 hp6 hD4 s4 s5 hD3 s03
              walk_at "rd"
              intro pb hpb
              obtain ⟨H6, e6, hpb2, s6⟩ := nwl (xs := cutV (ws.map T) (some (-1)) none) hpb
              rw [← e6]
              clear e6
              have hD6 := s6.seq hD5
              walk_at "rd"
              intro pc hpc
              obtain ⟨H7, e7, hpc2, s7⟩ := nwl (xs := [T [41]]) hpc
              rw [← e7]
              clear e7
              have hpb3 := s7 _ _ hpb2
              have hD7 := s7.seq hD6
              have s07 := s05.trans (s6.trans s7)
              walk_at "rd"
              refine ite2 (fun c => ?_) (fun c => ?_)
              · have c3 : ws.drop (ws.length - 1) = [wR] := by
                  have c2 : eqVs (cutV (ws.map T) (some (-1)) none) [T wR] = true := c
                  rw [k2] at c2
                  exact of_decide_eq_true c2
                rw [if_pos ⟨c1, c3⟩] at hn
                walk_at "rd"
                intro pd hpd
                obtain ⟨H8, e8, hpd2, s8⟩ := nwl (xs := cutV (ws.map T) (some 1) (some (-1))) hpd
                rw [← e8]
                clear e8
                have q8 : SqL K H8 pd (((ws.drop 1).take (ws.length - 2)).map T) := by
                  rw [cutV_T, cut_inner] at hpd2
                  exact SqL.of hpd2
                have l8 : ((ws.drop 1).take (ws.length - 2)).length ≤ 1000 := by rw [List.length_take, List.length_drop]; omega
                walk_at "rd"
                intro p H9 s9 r9
                exact q p H9 (s07.trans (s8.trans s9)) r9
              · have c3 : ¬ ws.drop (ws.length - 1) = [wR] := fun z => c (by
                  show eqVs (cutV (ws.map T) (some (-1)) none) [T wR] = true
                  rw [k2]
                  exact decide_eq_true z)
                rw [if_neg fun z => c3 z.2] at hn
                walk_at "rd"
                intro p H9 s9 r9
                exact q p H9 (s07.trans s9) r9
            · have c1 : ¬ ws.take 1 = [wL] := fun z => c (by
                show eqVs (cutV (ws.map T) none (some 1)) [T wL] = true
                rw [k1]
                exact decide_eq_true z)
              rw [if_neg fun z => c1 z.1] at hn
              walk_at "rd"
              intro p H9 s9 r9
              exact q p H9 (s05.trans s9) r9
end

section
variable {P : Program} {w : World} {K : PySem.W.Frag} {mg : Str → Option Value} {base : Heap} {C_Never C_Most C_Least C_Both C_Either C_Not : Addr}

theorem g_read_rule (tx : Tx K mg C_Never C_Most C_Least C_Both C_Either C_Not) : FnG P w K mg base "read_rule" 66 ["text"] (sp_rr (cs6 C_Never C_Most C_Least C_Both C_Either C_Not)) := by
  have G_read_words := g_read_words (P := P) (w := w) (base := base) tx 60
  refine tx.f_read_rule.g sc_read_rule (fun _ _ _ _ _ _ us hl => match us, hl with | [_], _ => rfl) (fun vs H Q E h => ?_) (fun f cdv A outer s H vs Q E hr h => ?_)
  · obtain ⟨t, r, rfl, _⟩ := h
    rfl
  · obtain ⟨t, r, rfl, hn, ht, hl, q⟩ := h
    refine ⟨_, (pss_cons (ps_set (i := 1) sc_read_rule.nd rfl (Or.inl rfl) (pe_splitK (K := K) rfl (pv 0) (pa_cons (pe_txt (l := [32]) (by decide +kernel)) pa_nil)))
      (pss_cons (ps_if (pt_cmpR op_gt (pe_callB (call_len_seqK (K := K) rfl) rfl tx.z_len PySem.boot_len (pa_cons (pv 1) pa_nil)) (pe_globN rfl tx.k_MOST_WORDS) (nomark _)) (pss_one ps_never) pss_nil)
      (pss_one (ps_ret (pe_fn G_read_words (hr.mono (by decide)) (pa_cons (pv 1) pa_nil)))))), ?_⟩
    walk_at "st"
    walk_at "rd"
    intro p hp
    obtain ⟨H1, e1, hp1, s1⟩ := nwl (xs := (splitN 32 t).map T) hp
    rw [← e1]
    clear e1
    have q1 : SqL K H1 p ((splitN 32 t).map T) := SqL.of hp1
    have l1 : (splitN 32 t).length ≤ 1000 := by omega
    walk_at "rd"
    refine ite2 (fun c => ?_) (fun c => ?_)
    · have c' := of_decide_eq_true c
      rw [List.length_map] at c'
      omega
    walk_at "rd"
    intro p2 H2 s2 r2
    exact q p2 H2 (s1.trans s2) r2
end

/-! ### rules told as texts -/
def sp_ct : Sp := fun vs H Q _ => ∃ w n m d, vs = [T w, .int n, T m, .int d] ∧ 0 ≤ n ∧ n ≤ 9 ∧ 0 ≤ d ∧ d ≤ 9 ∧ w.length ≤ 9 ∧ m.length ≤ 9 ∧ Q (T (cnT w n m d)) H
def sp_joi (c : Cs) : Sp := fun vs H Q _ => ∃ (r : R) (p : Addr), vs = [.ref p] ∧ RuleAt c H r p ∧ Q (.bl (decide (0 < r.lvl))) H
def sp_tx (c : Cs) (r : R) : Sp := fun vs H Q _ => ∃ p, vs = [.ref p] ∧ RuleAt c H r p ∧ Q (T r.tx) H
def sp_pt (c : Cs) (n : Nat) : Sp := fun vs H Q _ => ∃ (r : R) (p : Addr) (b : Bool), vs = [.ref p, .bl b] ∧ RuleAt c H r p ∧ r.ok ∧ r.sz ≤ n ∧ r.sz ≤ 25 ∧ Q (T (brT b r.tx)) H
theorem R.tx_len {r : R} (h : r.ok) : r.tx.length ≤ 32 * r.sz := (R.tx_ok h).ln
section
variable {P : Program} {w : World} {K : PySem.W.Frag} {mg : Str → Option Value} {base : Heap} {C_Never C_Most C_Least C_Both C_Either C_Not : Addr}
local macro_rules | `(tactic| walk_at "lk") => `(tactic| first | exact wl _ | exact lk_many _ _ _ | exact lk_marks _ _ _ | exact lk_days _ _ _ | exact lk_left _ _ | exact lk_right _ _ | exact lk_inner _)

theorem g_count_text (tx : Tx K mg C_Never C_Most C_Least C_Both C_Either C_Not) : FnG P w K mg base "count_text" 1 ["word", "many", "marks", "days"] sp_ct := by
  refine tx.f_count_text.g sc_count_text (fun _ _ _ _ _ _ us hl => match us, hl with | [_, _, _, _], _ => rfl) (fun vs H Q E h => ?_) (fun f cdv A outer s H vs Q E hr h => ?_)
  · obtain ⟨w, n, m, d, rfl, _⟩ := h
    rfl
  · obtain ⟨w, n, m, d, rfl, n0, n1, d0, d1, hw, hm, q⟩ := h
    obtain ⟨n, rfl⟩ : ∃ k : Nat, n = (k : Int) := ⟨n.toNat, by omega⟩
    obtain ⟨d, rfl⟩ : ∃ k : Nat, d = (k : Int) := ⟨d.toNat, by omega⟩
    refine ⟨_, (pss_one (ps_ret (pe_fstr (fvs_cons (fv_str (pv 0)) (fvs_cons (fv_txt (l := [32]) (by decide +kernel)) (fvs_cons (fv_int (pv 1)) (fvs_cons (fv_txt (l := [32, 111, 102, 32]) (by decide +kernel)) (fvs_cons (fv_str (pv 2)) (fvs_cons (fv_txt (l := [32, 105, 110, 32]) (by decide +kernel)) (fvs_cons (fv_int (pv 3)) fvs_nil)))))))))), ?_⟩
    walk_at "st"
    have n2 : n ≤ 9 := by omega
    have d2 : d ≤ 9 := by omega
    walk_at "rd"
    exact q








theorem R.kinds (tx : Tx K mg C_Never C_Most C_Least C_Both C_Either C_Not) {H : Hp} {r : R} {p : Addr} (h : RuleAt (cs6 C_Never C_Most C_Least C_Both C_Either C_Not) H r p) : ∃ dx fs b1 b2, H p = some (.ins (r.cls (cs6 C_Never C_Most C_Least C_Both C_Either C_Not)) dx fs) ∧ InsTy K (r.cls (cs6 C_Never C_Most C_Least C_Both C_Either C_Not)) ∧ PySem.W.kitOne K (.ref (r.cls (cs6 C_Never C_Most C_Least C_Both C_Either C_Not))) (.ref C_Both) = some b1 ∧ PySem.W.kitOne K (.ref (r.cls (cs6 C_Never C_Most C_Least C_Both C_Either C_Not))) (.ref C_Either) = some b2 ∧
    (b1 || b2) = decide (0 < r.lvl) ∧ b2 = decide (1 < r.lvl) ∧ fs.lookup ("text" : Str) = none := by
  obtain ⟨dx, fs, ob, _, _, nt⟩ := h.obj
  cases r with
  | nev _ => exact ⟨dx, fs, _, _, ob, tx.y_Never, tx.i_Never_Both, tx.i_Never_Either, rfl, rfl, nt⟩
  | most _ _ _ => exact ⟨dx, fs, _, _, ob, tx.y_Most, tx.i_Most_Both, tx.i_Most_Either, rfl, rfl, nt⟩
  | least _ _ _ => exact ⟨dx, fs, _, _, ob, tx.y_Least, tx.i_Least_Both, tx.i_Least_Either, rfl, rfl, nt⟩
  | both _ _ => exact ⟨dx, fs, _, _, ob, tx.y_Both, tx.i_Both_Both, tx.i_Both_Either, rfl, rfl, nt⟩
  | either _ _ => exact ⟨dx, fs, _, _, ob, tx.y_Either, tx.i_Either_Both, tx.i_Either_Either, rfl, rfl, nt⟩
  | neg _ => exact ⟨dx, fs, _, _, ob, tx.y_Not, tx.i_Not_Both, tx.i_Not_Either, rfl, rfl, nt⟩
theorem g_is_joined (tx : Tx K mg C_Never C_Most C_Least C_Both C_Either C_Not) : FnG P w K mg base "is_joined" 1 ["rule"] (sp_joi (cs6 C_Never C_Most C_Least C_Both C_Either C_Not)) := by
  refine tx.f_is_joined.g sc_is_joined (fun _ _ _ _ _ _ us hl => match us, hl with | [_], _ => rfl) (fun vs H Q E h => ?_) (fun f cdv A outer s H vs Q E hr h => ?_)
  · obtain ⟨r, p, rfl, _⟩ := h
    rfl
  · obtain ⟨r, p, rfl, hR, q⟩ := h
    refine ⟨_, (pss_one (ps_ret (pe_or (pe_callB (call_isOwn (K := K) rfl) rfl tx.z_isinstance bt_isinstance (pa_cons (pv 0) (pa_cons (pe_glob (v := .ref C_Both) rfl tx.c_Both.mg rfl) pa_nil))) (pe_one (pe_callB (call_isOwn (K := K) rfl) rfl tx.z_isinstance bt_isinstance (pa_cons (pv 0) (pa_cons (pe_glob (v := .ref C_Either) rfl tx.c_Either.mg rfl) pa_nil))))))), ?_⟩
    walk_at "st"
    obtain ⟨dx, fs, b1, b2, ob, hy, i1, i2, e1, e2, _⟩ := R.kinds tx hR
    rw [← e1] at q
    clear hR
    walk_at "rd"
    refine ite2 (fun c => ?_) (fun c => ?_)
    · rw [c, Bool.true_or] at q
      exact q
    · rw [Bool.eq_false_iff.mpr c, Bool.false_or] at q
      walk_at "rd"
      exact q
theorem g_Never_text (tx : Tx K mg C_Never C_Most C_Least C_Both C_Either C_Not) : ∀ wd, goodW wd = true → MtG P w K mg base C_Never "text" 1 ["self"] (sp_tx (cs6 C_Never C_Most C_Least C_Both C_Either C_Not) (.nev wd)) := fun wd hw => by
  refine tx.m_Never_text.g tx.c_Never.cl sc_Never_text (fun _ _ _ _ _ _ us hl => match us, hl with | [_], _ => rfl) (fun vs H Q E h => ?_) (fun f cdv A outer s H vs Q E hr h => ?_)
  · obtain ⟨p, rfl, _⟩ := h
    rfl
  · obtain ⟨p, rfl, ⟨⟨dx, hp⟩, _⟩, q⟩ := h
    refine ⟨_, (pss_one (ps_ret (pe_op op_catS (pe_txt (l := [110, 101, 118, 101, 114, 32]) (by decide +kernel)) (pe_fldK (K := K) rfl (pv 0) rfl)))), ?_⟩
    walk_at "st"
    have c1 := tx.c_Never.cl
    have n1 := tx.n_Never_word
    obtain ⟨w1, w2⟩ := goodW_len hw
    have hp' : H p = some (.ins C_Never dx [("word", T wd)]) := hp
    clear hp
    walk_at "rd"
    exact q
theorem g_Most_text (tx : Tx K mg C_Never C_Most C_Least C_Both C_Either C_Not) : ∀ n m d, (R.most n m d).ok → MtG P w K mg base C_Most "text" 2 ["self"] (sp_tx (cs6 C_Never C_Most C_Least C_Both C_Either C_Not) (.most n m d)) := fun n m d ho => by
  have G_count_text := g_count_text (P := P) (w := w) (base := base) tx
  refine tx.m_Most_text.g tx.c_Most.cl sc_Most_text (fun _ _ _ _ _ _ us hl => match us, hl with | [_], _ => rfl) (fun vs H Q E h => ?_) (fun f cdv A outer s H vs Q E hr h => ?_)
  · obtain ⟨p, rfl, _⟩ := h
    rfl
  · obtain ⟨p, rfl, ⟨⟨dx, hp⟩, _⟩, q⟩ := h
    refine ⟨_, (pss_one (ps_ret (pe_fn G_count_text (hr.mono (by decide)) (pa_cons (pe_txt (l := [109, 111, 115, 116]) (by decide +kernel)) (pa_cons (pe_fldK (K := K) rfl (pv 0) rfl) (pa_cons (pe_fldK (K := K) rfl (pv 0) rfl) (pa_cons (pe_fldK (K := K) rfl (pv 0) rfl) pa_nil))))))), ?_⟩
    walk_at "st"
    clear G_count_text
    have c1 := tx.c_Most.cl
    have k1 := tx.n_Most_many
    have k2 := tx.n_Most_marks
    have k3 := tx.n_Most_days
    obtain ⟨⟨n0, n1⟩, ⟨d0, d1⟩, hm⟩ := ho
    obtain ⟨m1, m2⟩ := goodM_len hm
    have n2 : n ≤ 9 := by omega
    have d2 : d ≤ 9 := by omega
    have d3 : 0 ≤ d := by omega
    have hp' : H p = some (.ins C_Most dx [("many", .int n), ("marks", T m), ("days", .int d)]) := hp
    clear hp
    walk_at "rd"
    exact q
theorem g_Least_text (tx : Tx K mg C_Never C_Most C_Least C_Both C_Either C_Not) : ∀ n m d, (R.least n m d).ok → MtG P w K mg base C_Least "text" 2 ["self"] (sp_tx (cs6 C_Never C_Most C_Least C_Both C_Either C_Not) (.least n m d)) := fun n m d ho => by
  have G_count_text := g_count_text (P := P) (w := w) (base := base) tx
  refine tx.m_Least_text.g tx.c_Least.cl sc_Least_text (fun _ _ _ _ _ _ us hl => match us, hl with | [_], _ => rfl) (fun vs H Q E h => ?_) (fun f cdv A outer s H vs Q E hr h => ?_)
  · obtain ⟨p, rfl, _⟩ := h
    rfl
  · obtain ⟨p, rfl, ⟨⟨dx, hp⟩, _⟩, q⟩ := h
    refine ⟨_, (pss_one (ps_ret (pe_fn G_count_text (hr.mono (by decide)) (pa_cons (pe_txt (l := [108, 101, 97, 115, 116]) (by decide +kernel)) (pa_cons (pe_fldK (K := K) rfl (pv 0) rfl) (pa_cons (pe_fldK (K := K) rfl (pv 0) rfl) (pa_cons (pe_fldK (K := K) rfl (pv 0) rfl) pa_nil))))))), ?_⟩
    walk_at "st"
    clear G_count_text
    have c1 := tx.c_Least.cl
    have k1 := tx.n_Least_many
    have k2 := tx.n_Least_marks
    have k3 := tx.n_Least_days
    obtain ⟨⟨n0, n1⟩, ⟨d0, d1⟩, hm⟩ := ho
    obtain ⟨m1, m2⟩ := goodM_len hm
    have n2 : n ≤ 9 := by omega
    have d2 : d ≤ 9 := by omega
    have d3 : 0 ≤ d := by omega
    have hp' : H p = some (.ins C_Least dx [("many", .int n), ("marks", T m), ("days", .int d)]) := hp
    clear hp
    walk_at "rd"
    exact q
theorem g_part_text (tx : Tx K mg C_Never C_Most C_Least C_Both C_Either C_Not) {n : Nat} (G : ∀ r : R, r.ok → r.sz ≤ n → r.sz ≤ 25 → MtG P w K mg base (r.cls (cs6 C_Never C_Most C_Least C_Both C_Either C_Not)) "text" (2 + 2 * n) ["self"] (sp_tx (cs6 C_Never C_Most C_Least C_Both C_Either C_Not) r)) : FnG P w K mg base "part_text" (3 + 2 * n) ["rule", "in_brackets"] (sp_pt (cs6 C_Never C_Most C_Least C_Both C_Either C_Not) n) := by
  refine FnG.mono (j := (2 + 2 * n) + 1) (tx.f_part_text.g sc_part_text (fun _ _ _ _ _ _ us hl => match us, hl with | [_, _], _ => rfl) (fun vs H Q E h => ?_) (fun f cdv A outer s H vs Q E hr h => ?_)) (by omega)
  · obtain ⟨r, p, b, rfl, _⟩ := h
    rfl
  · obtain ⟨r, p, b, rfl, hR, ho, hz, hz2, q⟩ := h
    refine ⟨_, (pss_cons (ps_set (i := 2) sc_part_text.nd rfl (Or.inl rfl) (pe_mt0D (P := P) (w := w) (K := K) (mg := mg) (base := base) hr (pv 0) rfl rfl rfl rfl rfl))
      (pss_one (ps_ret (pe_ifExp (pt_val (pv 1)) (pe_fstr (fvs_cons (fv_txt (l := [40, 32]) (by decide +kernel)) (fvs_cons (fv_str (pv 2)) (fvs_cons (fv_txt (l := [32, 41]) (by decide +kernel)) fvs_nil)))) (pv 2))))), ?_⟩
    walk_at "st"
    obtain ⟨dx, fs, ob, _, _, nt⟩ := hR.obj
    have Gr := G r ho hz hz2
    have hl := R.tx_len ho
    have hl2 : r.tx.length ≤ 960 := by omega
    clear G
    walk_at "rd"
    refine ite2 (fun c => ?_) (fun c => ?_)
    · rw [c] at q
      walk_at "rd"
      exact q
    · rw [Bool.eq_false_iff.mpr c] at q
      walk_at "rd"
      exact q
theorem g_tx (tx : Tx K mg C_Never C_Most C_Least C_Both C_Either C_Not) : ∀ (n : Nat) (r : R), r.ok → r.sz ≤ n → r.sz ≤ 25 → MtG P w K mg base (r.cls (cs6 C_Never C_Most C_Least C_Both C_Either C_Not)) "text" (2 + 2 * n) ["self"] (sp_tx (cs6 C_Never C_Most C_Least C_Both C_Either C_Not) r)
  | 0, r, _, hz, _ => by have := r.sz_pos; omega
  | n + 1, .nev w, ho, _, _ => (g_Never_text tx w ho).mono (by omega)
  | n + 1, .most a m d, ho, _, _ => (g_Most_text tx a m d ho).mono (by omega)
  | n + 1, .least a m d, ho, _, _ => (g_Least_text tx a m d ho).mono (by omega)
  | n + 1, .neg i, ho, hz, h24 => by
    have hi : i.sz ≤ n := by have : i.sz + 1 ≤ n + 1 := hz; omega
    have hi2 : i.sz ≤ 25 := by have : i.sz + 1 ≤ 25 := h24; omega
    have hoi : i.ok := ho
    have G_part_text := g_part_text (P := P) (w := w) (base := base) tx (n := n) fun r h1 h2 => g_tx tx n r h1 h2
    have G_is_joined := g_is_joined (P := P) (w := w) (base := base) tx
    refine MtG.mono (j := (3 + 2 * n) + 1) (tx.m_Not_text.g tx.c_Not.cl sc_Not_text (fun _ _ _ _ _ _ us hl => match us, hl with | [_], _ => rfl) (fun vs H Q E h => ?_) (fun f cdv A outer s H vs Q E hr h => ?_)) (by omega)
    · obtain ⟨p, rfl, _⟩ := h
      rfl
    · obtain ⟨p, rfl, ⟨dx, a, e, ha⟩, q⟩ := h
      refine ⟨_, (pss_one (ps_ret (pe_op op_catS (pe_txt (l := [110, 111, 116, 32]) (by decide +kernel)) (pe_fn G_part_text (hr.mono (by omega)) (pa_cons (pe_fldK (K := K) rfl (pv 0) rfl) (pa_cons (pe_fn G_is_joined (hr.mono (by omega)) (pa_cons (pe_fldK (K := K) rfl (pv 0) rfl) pa_nil)) pa_nil)))))), ?_⟩
      walk_at "st"
      have c1 := tx.c_Not.cl
      have n1 := tx.n_Not_inner
      have hl := R.tx_len hoi
      have hb := brT_len (decide (0 < i.lvl)) i.tx
      have hb2 : (brT (decide (0 < i.lvl)) i.tx).length ≤ 964 := by omega
      have e' : H p = some (.ins C_Not dx [("inner", .ref a)]) := e
      clear e G_part_text G_is_joined
      walk_at "rd"
      exact q
  | n + 1, .both l r, ho, hz, h24 => by
    have z1 : l.sz + r.sz + 1 ≤ n + 1 := hz
    have z2 : l.sz + r.sz + 1 ≤ 25 := h24
    have hl1 : l.sz ≤ n := by omega
    have hl2 : l.sz ≤ 25 := by omega
    have hr1 : r.sz ≤ n := by omega
    have hr2 : r.sz ≤ 25 := by omega
    obtain ⟨ol, or⟩ : l.ok ∧ r.ok := ho
    have tl := R.tx_len ol
    have tr := R.tx_len or
    have G_part_text := g_part_text (P := P) (w := w) (base := base) tx (n := n) fun r h1 h2 => g_tx tx n r h1 h2
    have G_is_joined := g_is_joined (P := P) (w := w) (base := base) tx
    refine MtG.mono (j := (3 + 2 * n) + 1) (tx.m_Both_text.g tx.c_Both.cl sc_Both_text (fun _ _ _ _ _ _ us hl => match us, hl with | [_], _ => rfl) (fun vs H Q E h => ?_) (fun f cdv A outer s H vs Q E hr h => ?_)) (by omega)
    · obtain ⟨p, rfl, _⟩ := h
      rfl
    · obtain ⟨p, rfl, ⟨dx, a, b, e, ha, hb⟩, q⟩ := h
      refine ⟨_, (pss_cons (ps_set (i := 1) sc_Both_text.nd rfl (Or.inl rfl) (pe_fn G_part_text (hr.mono (by omega)) (pa_cons (pe_fldK (K := K) rfl (pv 0) rfl) (pa_cons (pe_callB (call_isOwn (K := K) rfl) rfl tx.z_isinstance bt_isinstance (pa_cons (pe_fldK (K := K) rfl (pv 0) rfl) (pa_cons (pe_glob (v := .ref C_Either) rfl tx.c_Either.mg rfl) pa_nil))) pa_nil))))
      (pss_cons (ps_set (i := 2) sc_Both_text.nd rfl (Or.inl rfl) (pe_fn G_part_text (hr.mono (by omega)) (pa_cons (pe_fldK (K := K) rfl (pv 0) rfl) (pa_cons (pe_fn G_is_joined (hr.mono (by omega)) (pa_cons (pe_fldK (K := K) rfl (pv 0) rfl) pa_nil)) pa_nil))))
      (pss_one (ps_ret (pe_fstr (fvs_cons (fv_str (pv 1)) (fvs_cons (fv_txt (l := [32, 97, 110, 100, 32]) (by decide +kernel)) (fvs_cons (fv_str (pv 2)) fvs_nil)))))))), ?_⟩
      walk_at "st"
      have c1 := tx.c_Both.cl
      have n1 := tx.n_Both_left
      have n2 := tx.n_Both_right
      have e' : H p = some (.ins C_Both dx [("left", .ref a), ("right", .ref b)]) := e
      clear e
      obtain ⟨dxl, fsl, b1, b2, obl, yl, il1, il2, el1, el2, _⟩ := R.kinds tx ha
      have w1 := brT_len b2 l.tx
      have w2 := brT_len (decide (0 < r.lvl)) r.tx
      have w3 : (brT b2 l.tx).length + (brT (decide (0 < r.lvl)) r.tx).length ≤ 930 := by omega
      have w4 : (brT b2 l.tx).length ≤ 930 := by omega
      have w5 : (brT (decide (0 < r.lvl)) r.tx).length ≤ 930 := by omega
      clear G_part_text G_is_joined
      walk_at "rd"
      have eq : brT b2 l.tx ++ [32, 97, 110, 100, 32] ++ brT (decide (0 < r.lvl)) r.tx = (R.both l r).tx := by rw [el2]; rfl
      rw [← eq] at q
      exact q
  | n + 1, .either l r, ho, hz, h24 => by
    have z1 : l.sz + r.sz + 1 ≤ n + 1 := hz
    have z2 : l.sz + r.sz + 1 ≤ 25 := h24
    have hl1 : l.sz ≤ n := by omega
    have hl2 : l.sz ≤ 25 := by omega
    have hr1 : r.sz ≤ n := by omega
    have hr2 : r.sz ≤ 25 := by omega
    obtain ⟨ol, or⟩ : l.ok ∧ r.ok := ho
    have tl := R.tx_len ol
    have tr := R.tx_len or
    have G_part_text := g_part_text (P := P) (w := w) (base := base) tx (n := n) fun r h1 h2 => g_tx tx n r h1 h2
    have Gl := g_tx tx n l ol hl1 hl2
    refine MtG.mono (j := (3 + 2 * n) + 1) (tx.m_Either_text.g tx.c_Either.cl sc_Either_text (fun _ _ _ _ _ _ us hl => match us, hl with | [_], _ => rfl) (fun vs H Q E h => ?_) (fun f cdv A outer s H vs Q E hr h => ?_)) (by omega)
    · obtain ⟨p, rfl, _⟩ := h
      rfl
    · obtain ⟨p, rfl, ⟨dx, a, b, e, ha, hb⟩, q⟩ := h
      refine ⟨_, (pss_cons (ps_set (i := 1) sc_Either_text.nd rfl (Or.inl rfl) (pe_mt0D (P := P) (w := w) (K := K) (mg := mg) (base := base) hr (pe_fldK (K := K) rfl (pv 0) rfl) rfl rfl rfl rfl rfl))
      (pss_cons (ps_set (i := 2) sc_Either_text.nd rfl (Or.inl rfl) (pe_fn G_part_text (hr.mono (by omega)) (pa_cons (pe_fldK (K := K) rfl (pv 0) rfl) (pa_cons (pe_callB (call_isOwn (K := K) rfl) rfl tx.z_isinstance bt_isinstance (pa_cons (pe_fldK (K := K) rfl (pv 0) rfl) (pa_cons (pe_glob (v := .ref C_Either) rfl tx.c_Either.mg rfl) pa_nil))) pa_nil))))
      (pss_one (ps_ret (pe_fstr (fvs_cons (fv_str (pv 1)) (fvs_cons (fv_txt (l := [32, 111, 114, 32]) (by decide +kernel)) (fvs_cons (fv_str (pv 2)) fvs_nil)))))))), ?_⟩
      walk_at "st"
      have c1 := tx.c_Either.cl
      have n1 := tx.n_Either_left
      have n2 := tx.n_Either_right
      have e' : H p = some (.ins C_Either dx [("left", .ref a), ("right", .ref b)]) := e
      clear e
      obtain ⟨dxl, fsl, obl, _, _, ntl⟩ := ha.obj
      obtain ⟨dxr, fsr, b1, b2, obr, yr, ir1, ir2, er1, er2, _⟩ := R.kinds tx hb
      have w2 := brT_len b2 r.tx
      have w3 : l.tx.length + (brT b2 r.tx).length ≤ 930 := by omega
      have w4 : l.tx.length ≤ 930 := by omega
      have w5 : (brT b2 r.tx).length ≤ 930 := by omega
      clear G_part_text
      walk_at "rd"
      have eq : l.tx ++ [32, 111, 114, 32] ++ brT b2 r.tx = (R.either l r).tx := by
        have el : brT (decide (2 < l.lvl)) l.tx = l.tx := by rw [decide_eq_false (by have := l.lvl2; omega)]; rfl
        rw [er2, ← el]
        show _ = brT (decide (2 < l.lvl)) l.tx ++ [32, 111, 114, 32] ++ brT (decide (1 < r.lvl)) r.tx
        rw [el]
      rw [← eq] at q
      exact q
end

section
variable {P : Program} {w : World} {K : PySem.W.Frag} {mg : Str → Option Value} {base : Heap} {C_Never C_Most C_Least C_Both C_Either C_Not : Addr}

theorem g_law_letters (tx : Tx K mg C_Never C_Most C_Least C_Both C_Either C_Not) : FnG P w K mg base "_law_letters" 1 ["_law_cell"] sp_letU := by
  refine tx.f_law_letters.g sc_law_letters (fun _ _ _ _ _ _ us hl => match us, hl with | [_], _ => rfl) (fun vs H Q E h => ?_) (fun f cdv A outer s H vs Q E hr h => ?_)
  · obtain ⟨c, rfl, _⟩ := h
    rfl
  · obtain ⟨c, rfl, q⟩ := h
    refine ⟨_, (pss_cons (ps_set (i := 1) sc_law_letters.nd rfl (Or.inl rfl) (pe_txt (l := [65, 66, 67, 68, 69, 70, 71, 72, 73, 74, 75, 76, 77, 78, 79, 80, 81, 82, 83, 84, 85, 86, 87, 88, 89, 90]) (by decide +kernel)))
      (pss_cons (ps_set (i := 2) sc_law_letters.nd rfl (Or.inl rfl) (pe_op op_mod (pv 0) pe_int))
      (pss_one (ps_ret (pe_op op_catS (pe_ix ix_txt (pv 1) (pv 2) (fun _ _ => rfl)) (pe_ix ix_txt (pv 1) (pe_op op_mod (pe_op op_add (pe_op op_add (pv 2) pe_int) (pe_op op_mod (pe_op op_fdiv (pv 0) pe_int) pe_int)) pe_int) (fun _ _ => rfl))))))), ?_⟩
    walk_at "st"
    have key : ∀ x ∈ [65, 66, 67, 68, 69, 70, 71, 72, 73, 74, 75, 76, 77, 78, 79, 80, 81, 82, 83, 84, 85, 86, 87, 88, 89, 90], isUp x = true := by decide
    obtain ⟨a, ha, ha2⟩ := at_some [65, 66, 67, 68, 69, 70, 71, 72, 73, 74, 75, 76, 77, 78, 79, 80, 81, 82, 83, 84, 85, 86, 87, 88, 89, 90] (c % 26) (Int.emod_nonneg _ (by decide)) (Int.emod_lt_of_pos _ (by decide))
    obtain ⟨b, hb, hb2⟩ := at_some [65, 66, 67, 68, 69, 70, 71, 72, 73, 74, 75, 76, 77, 78, 79, 80, 81, 82, 83, 84, 85, 86, 87, 88, 89, 90] ((c % 26 + 1 + c / 26 % 25) % 26) (Int.emod_nonneg _ (by decide)) (Int.emod_lt_of_pos _ (by decide))
    walk_at "rd"
    exact q a b (key a (List.mem_of_getElem? ha2)) (key b (List.mem_of_getElem? hb2))

theorem g_law_signs (tx : Tx K mg C_Never C_Most C_Least C_Both C_Either C_Not) : FnG P w K mg base "_law_signs" 1 ["_law_xs", "_law_signs_here", "_law_each_once"] (sp_signs K) := by
  refine tx.f_law_signs.g sc_law_signs (fun _ _ _ _ _ _ us hl => match us, hl with | [_, _, _], _ => rfl) (fun vs H Q E h => ?_) (fun f cdv A outer s H vs Q E hr h => ?_)
  · obtain ⟨D, ns, sg, b, rfl, _⟩ := h
    rfl
  · obtain ⟨D, ns, sg, b, rfl, hD, n1, n8, g1, g2, q⟩ := h
    refine ⟨_, (pss_cons (ps_set (i := 3) sc_law_signs.nd rfl (Or.inl rfl) (pe_txt (l := []) (by decide +kernel)))
      (pss_cons (ps_for PassesOwn.never rfl (pi_listK (K := K) rfl (pv 0)) (pg_name (i := 4) sc_law_signs.nd rfl (Or.inl rfl)) (pss_cons (ps_set (i := 5) sc_law_signs.nd rfl (Or.inl rfl) (pe_ix ix_txt (pv 1) (pe_op op_mod (pv 4) (pe_callB call_lenS rfl tx.z_len PySem.boot_len (pa_cons (pv 1) pa_nil))) (fun _ _ => rfl)))
      (pss_one (ps_if (PW.pt (pw_or (pt_not (pt_val (pv 2))) (pw_or1 (pt_cmpR op_notinS (pv 5) (pv 3) rfl)))) (pss_one (ps_set (i := 3) sc_law_signs.nd rfl (Or.inl rfl) (pe_op op_catS (pv 3) (pv 5)))) pss_nil))))
      (pss_one (ps_ret (pv 3))))), ?_⟩
    walk_at "st"
    walk_at "rd"
    refine for_list (xs := ns.map V.int) (fun i σ H2 => Here (∃ (v1 v2 : Option V) (l : List Nat), σ = [some (.ref D), some (T sg), some (.bl b), some (T l), v1, v2] ∧ (∀ c ∈ l, c ∈ sg) ∧ (1 ≤ i → 1 ≤ l.length) ∧ l.length ≤ i ∧ (b = true → l.Nodup) ∧ H2 = H))
      (Here.mk ⟨none, none, [], rfl, fun c hc => absurd hc List.not_mem_nil, fun z => absurd z (by decide), Nat.le_refl _, fun _ => List.nodup_nil, rfl⟩) (fun i σ H2 _ hv => by obtain ⟨_, _, _, _, _, _, _, _, e⟩ := hv.out; rw [e]; exact hD) ?_ ?_
    · rintro i x σ H2 hx hv
      obtain ⟨v1, v2, l, rfl, hin, hp1, hll, hnd, eH⟩ := hv.out
      rw [eH]
      have hi : i < ns.length := by have := (List.getElem?_eq_some_iff.mp hx).1; rwa [List.length_map] at this
      obtain ⟨n, rfl⟩ : ∃ n, x = .int n := by
        obtain ⟨n, _, e⟩ := List.mem_map.mp (List.mem_of_getElem? hx)
        exact ⟨n, e.symm⟩
      obtain ⟨c, hc, hc2⟩ := at_some sg (n % (sg.length : Int)) (Int.emod_nonneg _ (by omega)) (Int.emod_lt_of_pos _ (by omega))
      have hcm := List.mem_of_getElem? hc2
      have hin2 : ∀ d ∈ l ++ [c], d ∈ sg := fun d hd => by
        rcases List.mem_append.mp hd with hd | hd
        · exact hin d hd
        · rw [List.mem_singleton.mp hd]; exact hcm
      have hl2 : (l ++ [c]).length = l.length + 1 := by simp
      have g3 : (0 : Int) < (sg.length : Int) := by omega
      cases b with
      | false =>
        walk_at "rd"
        exact Here.mk ⟨_, _, l ++ [c], rfl, hin2, fun _ => by omega, by omega, fun z => (by cases z), rfl⟩
      | true =>
        walk_at "rd"
        refine ite2 (fun e => ?_) (fun e => ?_)
        · have e' : c ∉ l := fun z => by rw [decide_eq_true z] at e; cases e
          walk_at "rd"
          refine Here.mk ⟨_, _, l ++ [c], rfl, hin2, fun _ => by omega, by omega, fun _ => ?_, rfl⟩
          rw [List.nodup_append]
          exact ⟨hnd rfl, by simp, fun x hx y hy z => e' (by rw [List.mem_singleton.mp hy] at z; rw [← z]; exact hx)⟩
        · have e' : c ∈ l := Classical.byContradiction fun z => e (by rw [decide_eq_false z]; rfl)
          walk_at "rd"
          exact Here.mk ⟨_, _, l, rfl, hin, fun _ => List.length_pos_of_mem e', by omega, hnd, rfl⟩
    · rintro σ H2 hv
      obtain ⟨v1, v2, l, rfl, hin, hp1, hll, hnd, eH⟩ := hv.out
      rw [List.length_map] at hp1 hll
      rw [eH]
      walk_at "rd"
      exact q l hin (hp1 n1) hll hnd


theorem g_law_stream (tx : Tx K mg C_Never C_Most C_Least C_Both C_Either C_Not) : FnG P w K mg base "_law_stream" 1 ["_law_cell", "_law_many"] sp_stream := by
  refine tx.f_law_stream.g sc_law_stream (fun _ _ _ _ _ _ us hl => match us, hl with | [_, _], _ => rfl) (fun vs H Q E h => ?_) (fun f cdv A outer s H vs Q E hr h => ?_)
  · obtain ⟨c, m, rfl, _⟩ := h
    rfl
  · obtain ⟨c, m, rfl, h0, h1, q⟩ := h
    refine ⟨_, (pss_cons (ps_set (i := 2) sc_law_stream.nd rfl (Or.inr rfl) (pe_lst pa_nil))
      (pss_cons (ps_set (i := 3) sc_law_stream.nd rfl (Or.inl rfl) (pe_op op_mod (pe_op op_and (pv 0) pe_int) pe_int))
      (pss_cons (ps_for PassesOwn.never rfl (pi_range1 rfl tx.z_range (pa_cons (pe_op op_add (pv 1) pe_int) pa_nil)) (pg_name (i := 4) sc_law_stream.nd rfl (Or.inl rfl)) (pss_cons (ps_set (i := 3) sc_law_stream.nd rfl (Or.inl rfl) (pe_op op_mod (pe_op op_add (pe_op op_add (pe_op op_add (pe_op op_mul (pv 3) (pv 3)) (pe_op op_mul pe_int (pv 3))) (pe_op op_mul pe_int (pv 4))) pe_int) pe_int))
      (pss_one (ps_expr (pe_bm PySem.F.plainAttrs_list PySem.F.slot_list_append PySem.F.type_list_append mt_append (pv 2) (pa_cons (pv 3) pa_nil))))))
      (pss_one (ps_ret (pe_comp (osc := defScope s_law_stream) (ON := ["_law_cell", "_law_many", "_law_found", "_law_number", "_law_k"]) (N := ["_law_k", "_law_found", "_law_cell"]) (js := [none, some 2, some 0]) ⟨rfl, by decide +kernel, by decide +kernel, by decide +kernel, rfl, by decide +kernel⟩ rfl rfl rfl (pi_range1 rfl tx.z_range (pa_cons (pv 1) pa_nil)) (fun _ _ _ _ _ => pg_name (i := 0) (show List.Nodup (["_law_k", "_law_found", "_law_cell"] : List Str) from by decide +kernel) rfl (Or.inl rfl)) (fun _ _ _ _ _ => pifs_nil) (fun _ _ _ _ _ => (pe_op op_xor (pe_ix (ix_listK (K := K) rfl) (pv 1) (pe_op op_add (pv 0) pe_int) (fun _ _ => rfl)) (pe_op op_and (pe_op op_shr (pv 2) (pe_op op_add (pe_op op_mul pe_int (pv 0)) pe_int)) pe_int))))))))), ?_⟩
    walk_at "st"
    have b0 : 0 ≤ Builtin.bitAnd c 2147483647 % 2147483647 := Int.emod_nonneg _ (by decide)
    have b1 : Builtin.bitAnd c 2147483647 % 2147483647 < 2147483647 := Int.emod_lt_of_pos _ (by decide)
    walk_at "rd"
    intro p hp
    walk_at "rd"
    refine for_range (n := (m + 2).toNat) (fun i σ H2 => Here (∃ (n : Int) (v : Option V) (ys : List Int), σ = [some (.int c), some (.int m), some (.ref p), some (.int n), v] ∧ 0 ≤ n ∧ n < 2147483647 ∧ ys.length = i ∧ H2 p = some (.lst (ys.map V.int)) ∧ Same H H2))
      (Here.mk ⟨_, none, [], rfl, b0, b1, rfl, upd_same, same_new hp _⟩) ?_ ?_
    · rintro i σ H2 hi hv
      obtain ⟨n, v, ys, rfl, hn0, hn1, hy, hpp, hs⟩ := hv.out
      have z0 : 0 ≤ (n * n + 48271 * n + 11 * (0 + (i : Int)) + 7) % 2147483647 := Int.emod_nonneg _ (by decide)
      have z1 : (n * n + 48271 * n + 11 * (0 + (i : Int)) + 7) % 2147483647 < 2147483647 := Int.emod_lt_of_pos _ (by decide)
      have hl : (ys.map V.int).length ≤ 1000 := by rw [List.length_map]; omega
      walk_at "rd"
      refine Here.mk ⟨_, _, ys ++ [(n * n + 48271 * n + 11 * (0 + (i : Int)) + 7) % 2147483647], rfl, z0, z1, ?_, ?_, hs.upd hp⟩
      · rw [List.length_append, List.length_singleton, hy]
      · rw [upd_same, List.map_append]
        rfl
    · rintro σ H2 hv
      obtain ⟨n, v, ys, rfl, hn0, hn1, hy, hpp, hs⟩ := hv.out
      walk_at "rd"
      refine comp_all (fun _ y => ∃ z, y = V.int z) (hands_range 0 m.toNat) ?_ (fun x hx H' s' R hR => ?_) (fun D H3 zs hD s3 hlen hP hDD => ?_)
      · rw [List.length_map, List.length_range]; omega
      · obtain ⟨k, hk, rfl⟩ := List.mem_map.mp hx
        have hk := List.mem_range.mp hk
        obtain ⟨z, hz, _⟩ := at_int ys (0 + (k : Int) + 2) (by omega) (by omega)
        have hpp' := s' _ _ hpp
        walk_at "rd"
        exact hR _ H' ⟨_, rfl⟩ (Same.refl _)
      rw [List.length_map, List.length_range] at hlen
      obtain ⟨us, rfl, hus⟩ := ints_of (ys := zs) fun y hy => by
        obtain ⟨i, hi, rfl⟩ := List.mem_iff_getElem.mp hy
        exact hP i _ _ (List.getElem?_eq_getElem (by rw [List.length_map, List.length_range]; omega)) (List.getElem?_eq_getElem hi)
      exact q D H3 us (hs.trans s3) hDD (by omega)

theorem g_law_plain (tx : Tx K mg C_Never C_Most C_Least C_Both C_Either C_Not) : FnG P w K mg base "_law_plain" 3 ["_law_cell", "_law_two"] sp_lp := by
  have G_law_stream := g_law_stream (P := P) (w := w) (base := base) tx
  have G_law_signs := g_law_signs (P := P) (w := w) (base := base) tx
  refine tx.f_law_plain.g sc_law_plain (fun _ _ _ _ _ _ us hl => match us, hl with | [_, _], _ => rfl) (fun vs H Q E h => ?_) (fun f cdv A outer s H vs Q E hr h => ?_)
  · obtain ⟨c, two, rfl, _⟩ := h
    rfl
  · obtain ⟨c, two, rfl, ⟨h2, hup⟩, q⟩ := h
    refine ⟨_, (pss_cons (ps_set (i := 2) sc_law_plain.nd rfl (Or.inl rfl) (pe_fn G_law_stream (hr.mono (by decide)) (pa_cons (pv 0) (pa_cons pe_int pa_nil))))
      (pss_cons (ps_set (i := 3) sc_law_plain.nd rfl (Or.inl rfl) (pe_txt (l := []) (by decide +kernel)))
      (pss_cons (ps_cut (ps_if (pt_cmpR op_eq (pe_op op_mod (pe_op op_fdiv (pe_ix (ix_listK (K := K) rfl) (pv 2) pe_int (fun _ _ => rfl)) pe_int) pe_int) pe_int (nomark _)) (pss_one (ps_set (i := 3) sc_law_plain.nd rfl (Or.inl rfl) (pe_txt (l := [65, 66, 67, 68, 69, 70, 71, 72, 73, 74, 75, 76, 77, 78, 79, 80, 81, 82, 83, 84, 85, 86, 87, 88, 89, 90]) (by decide +kernel)))) pss_nil))
      (pss_cons (ps_if (pt_cmpR op_eq (pe_op op_mod (pe_ix (ix_listK (K := K) rfl) (pv 2) pe_int (fun _ _ => rfl)) pe_int) pe_int (nomark _)) (pss_one (ps_ret (pe_tup (pa_cons (pe_txt (l := [110, 101, 118, 101, 114]) (by decide +kernel)) (pa_cons (pe_fn G_law_signs (hr.mono (by decide)) (pa_cons (pe_slice (sl_listK (K := K) rfl) (pv 2) po_none (po_some (pe_op op_add (pe_op op_add pe_int (pe_op op_mod (pe_ix (ix_listK (K := K) rfl) (pv 2) pe_int (fun _ _ => rfl)) pe_int)) (pe_op op_mod (pe_op op_fdiv (pe_ix (ix_listK (K := K) rfl) (pv 2) pe_int (fun _ _ => rfl)) pe_int) pe_int)))) (pa_cons (pe_op op_catS (pe_op op_catS (pv 1) (pe_txt (l := [45, 35, 63, 63]) (by decide +kernel))) (pv 3)) (pa_cons pe_bl pa_nil)))) pa_nil))))) pss_nil)
      (pss_cons (ps_set (i := 4) sc_law_plain.nd rfl (Or.inl rfl) (pe_ix (ix_listK (K := K) rfl) (pe_lst (pa_cons (pe_txt (l := [109, 111, 115, 116]) (by decide +kernel)) (pa_cons (pe_txt (l := [108, 101, 97, 115, 116]) (by decide +kernel)) pa_nil))) (pe_op op_sub (pe_op op_mod (pe_ix (ix_listK (K := K) rfl) (pv 2) pe_int (fun _ _ => rfl)) pe_int) pe_int) (fun _ _ => rfl)))
      (pss_cons (ps_set (i := 5) sc_law_plain.nd rfl (Or.inl rfl) (pe_fn G_law_signs (hr.mono (by decide)) (pa_cons (pe_slice (sl_listK (K := K) rfl) (pv 2) po_none (po_some (pe_op op_add pe_int (pe_op op_mod (pe_ix (ix_listK (K := K) rfl) (pv 2) pe_int (fun _ _ => rfl)) pe_int)))) (pa_cons (pe_op op_catS (pe_op op_catS (pv 1) (pe_txt (l := [45, 35]) (by decide +kernel))) (pv 3)) (pa_cons pe_bl pa_nil)))))
      (pss_cons (ps_cut (ps_if (pt_cmpR op_eq (pe_op op_mod (pe_op op_fdiv (pe_ix (ix_listK (K := K) rfl) (pv 2) pe_int (fun _ _ => rfl)) pe_int) pe_int) pe_int (nomark _)) (pss_one (ps_set (i := 5) sc_law_plain.nd rfl (Or.inl rfl) (pe_slice sl_txt (pv 5) po_none (po_some pe_int)))) pss_nil))
      (pss_one (ps_ret (pe_tup (pa_cons (pv 4) (pa_cons (pe_op op_fdiv (pe_op op_mod (pe_op op_fdiv (pe_ix (ix_listK (K := K) rfl) (pv 2) pe_int (fun _ _ => rfl)) pe_int) pe_int) (pe_op op_add pe_int (pe_op op_mod (pe_op op_fdiv (pe_ix (ix_listK (K := K) rfl) (pv 2) pe_int (fun _ _ => rfl)) pe_int) pe_int))) (pa_cons (pv 5) (pa_cons (pe_op op_add pe_int (pe_op op_mod (pe_ix (ix_listK (K := K) rfl) (pv 2) pe_int (fun _ _ => rfl)) pe_int)) pa_nil)))))))))))))), ?_⟩
    walk_at "st"
    walk_at "rd"
    intro xd H1 xs s1 hx hxl
    obtain ⟨x8, e8, _⟩ := at_int xs 8 (by decide) (by omega)
    obtain ⟨x9, e9, _⟩ := at_int xs 9 (by decide) (by omega)
    obtain ⟨x10, e10, _⟩ := at_int xs 10 (by decide) (by omega)
    walk_at "rd"
    refine tCut.mk (fun σ' H' => Here (∃ more, σ' = [some (.int c), some (T two), some (.ref xd), some (T more), none, none] ∧ (∀ x ∈ more, isUp x = true) ∧ more.length ≤ 26 ∧ H' = H1)) ?_ ?_
    · walk_at "rd"
      refine ite2 (fun _ => ?_) (fun _ => ?_)
      · walk_at "rd"
        exact Here.mk ⟨[65, 66, 67, 68, 69, 70, 71, 72, 73, 74, 75, 76, 77, 78, 79, 80, 81, 82, 83, 84, 85, 86, 87, 88, 89, 90], rfl, by decide, by decide, rfl⟩
      · exact Here.mk ⟨[], rfl, fun x hx => absurd hx List.not_mem_nil, by decide, rfl⟩
    rintro σ' H' hv
    obtain ⟨more, rfl, hm, hml, eH⟩ := hv.out
    rw [eH]
    clear eH hv
    walk_at "rd"
    refine ite2 (fun c1 => ?_) (fun c1 => ?_)
    · walk_at "rd"
      intro p1 hp1
      obtain ⟨H2, e2, hp2, s2⟩ := nwl (xs := cutV (xs.map V.int) none (some (1 + x9 % 4 + x9 / 4 % 4))) hp1
      rw [← e2]
      clear e2
      have q2 : SqL K H2 p1 ((cutN xs none (some (1 + x9 % 4 + x9 / 4 % 4))).map V.int) := by rw [← cutV_map]; exact SqL.of hp2
      have hx2 := s2 _ _ hx
      have l2 : (cutN xs none (some (1 + x9 % 4 + x9 / 4 % 4))).length = (1 + x9 % 4 + x9 / 4 % 4).toNat := by rw [cut_to _ _ (by omega), List.length_take]; omega
      have l3 : 1 ≤ (cutN xs none (some (1 + x9 % 4 + x9 / 4 % 4))).length := by omega
      have l4 : (cutN xs none (some (1 + x9 % 4 + x9 / 4 % 4))).length ≤ 7 := by omega
      have hall : ∀ x ∈ two ++ [45, 35, 63, 63] ++ more, signW x = true := fun x hx => by
        rcases List.mem_append.mp hx with hx | hx
        · rcases List.mem_append.mp hx with hx | hx
          · exact up_signW (hup x hx)
          · have key : ∀ x ∈ [45, 35, 63, 63], signW x = true := by decide
            exact key x hx
        · exact up_signW (hm x hx)
      have lt : (two ++ [45, 35, 63, 63] ++ more).length = 6 + more.length := by rw [List.length_append, List.length_append, h2]; rfl
      walk_at "rd"
      intro l hin hl1 hl2 _
      walk_at "rd"
      intro p3 hp3
      have s3 : Same H2 (upd H2 p3 (.tup [T [110, 101, 118, 101, 114], T l])) := same_new hp3 _
      refine q (.nev l) p3 _ (goodW_of hl1 (by omega) fun x hx => hall x (hin x hx)) rfl (s1.trans (s2.trans s3)) ?_
      exact upd_same
    · have c1' : ¬ x8 % 3 = 0 := fun z => c1 (decide_eq_true (show V.int (x8 % 3) = V.int 0 by rw [z]))
      obtain ⟨wd, hwd, hwo⟩ : ∃ wd : Wd, atI [T wMost, T wLeast] (x8 % 3 - 1) = some (T wd) ∧ (wd = wMost ∨ wd = wLeast) := by
        have : x8 % 3 - 1 = 0 ∨ x8 % 3 - 1 = 1 := by omega
        rcases this with z | z
        · rw [z]; exact ⟨wMost, by simp [atI, ixN], .inl rfl⟩
        · rw [z]; exact ⟨wLeast, by simp [atI, ixN], .inr rfl⟩
      walk_at "rd"
      intro p0 hp0
      obtain ⟨H2, e2, hp2, s2⟩ := nwl (xs := [T [109, 111, 115, 116], T [108, 101, 97, 115, 116]]) hp0
      rw [← e2]
      clear e2
      have hx2 := s2 _ _ hx
      walk_at "rd"
      intro p1 hp1
      obtain ⟨H3, e3, hp3, s3⟩ := nwl (xs := cutV (xs.map V.int) none (some (1 + x9 % 8))) hp1
      rw [← e3]
      clear e3
      have q3 : SqL K H3 p1 ((cutN xs none (some (1 + x9 % 8))).map V.int) := by rw [← cutV_map]; exact SqL.of hp3
      have hx3 := s3 _ _ hx2
      have l2 : (cutN xs none (some (1 + x9 % 8))).length = (1 + x9 % 8).toNat := by rw [cut_to _ _ (by omega), List.length_take]; omega
      have l3 : 1 ≤ (cutN xs none (some (1 + x9 % 8))).length := by omega
      have l4 : (cutN xs none (some (1 + x9 % 8))).length ≤ 8 := by omega
      have hall : ∀ x ∈ two ++ [45, 35] ++ more, signM x = true := fun x hx => by
        rcases List.mem_append.mp hx with hx | hx
        · rcases List.mem_append.mp hx with hx | hx
          · exact up_signM (hup x hx)
          · have key : ∀ x ∈ [45, 35], signM x = true := by decide
            exact key x hx
        · exact up_signM (hm x hx)
      have lt : (two ++ [45, 35] ++ more).length = 4 + more.length := by rw [List.length_append, List.length_append, h2]; rfl
      walk_at "rd"
      intro l hin hl1 hl2 hnd
      have gl : goodM l = true := goodM_of hl1 (by omega) (fun x hx => hall x (hin x hx)) (hnd rfl)
      walk_at "rd"
      refine tCut.mk (fun σ' H' => Here (∃ m, σ' = [some (.int c), some (T two), some (.ref xd), some (T more), some (T wd), some (T m)] ∧ goodM m = true ∧ H' = H3)) ?_ ?_
      · walk_at "rd"
        refine ite2 (fun _ => ?_) (fun _ => ?_)
        · walk_at "rd"
          refine Here.mk ⟨cutN l none (some 1), rfl, ?_, rfl⟩
          rw [cut_to _ _ (by decide)]
          refine goodM_of ?_ ?_ (fun x hx => hall x (hin x (List.mem_of_mem_take hx))) ((hnd rfl).sublist (List.take_sublist _ _))
          · rw [List.length_take]; show 1 ≤ min 1 _; omega
          · rw [List.length_take]; show min 1 _ ≤ 8; omega
        · exact Here.mk ⟨l, rfl, gl, rfl⟩
      rintro σ' H' hv
      obtain ⟨m, rfl, gm, eH⟩ := hv.out
      rw [eH]
      clear eH hv
      have f0 : 0 ≤ x9 / 8 % 8 := Int.emod_nonneg _ (by decide)
      have f1 : x9 / 8 % 8 < 8 := Int.emod_lt_of_pos _ (by decide)
      have g0 : 0 ≤ x10 / 7 % 3 := Int.emod_nonneg _ (by decide)
      have g1 : x10 / 7 % 3 < 3 := Int.emod_lt_of_pos _ (by decide)
      have k0 : 0 ≤ x9 / 8 % 8 / (1 + x10 / 7 % 3) := Int.ediv_nonneg f0 (by omega)
      have k1 : x9 / 8 % 8 / (1 + x10 / 7 % 3) ≤ x9 / 8 % 8 := Int.ediv_le_self _ f0
      walk_at "rd"
      intro p4 hp4
      have s4 : Same H3 (upd H3 p4 (.tup [T wd, .int (x9 / 8 % 8 / (1 + x10 / 7 % 3)), T m, .int (1 + x10 % 7)])) := same_new hp4 _
      have s5 := s1.trans (s2.trans (s3.trans s4))
      rcases hwo with rfl | rfl
      · exact q (.most _ m _) p4 _ ⟨⟨k0, by omega⟩, ⟨by omega, by omega⟩, gm⟩ rfl s5 upd_same
      · exact q (.least _ m _) p4 _ ⟨⟨k0, by omega⟩, ⟨by omega, by omega⟩, gm⟩ rfl s5 upd_same


theorem g_law_tree (tx : Tx K mg C_Never C_Most C_Least C_Both C_Either C_Not) : FnG P w K mg base "_law_tree" 4 ["_law_cells", "_law_two"] (sp_lt K) := by
  have G_law_plain := g_law_plain (P := P) (w := w) (base := base) tx
  refine tx.f_law_tree.g sc_law_tree (fun _ _ _ _ _ _ us hl => match us, hl with | [_, _], _ => rfl) (fun vs H Q E h => ?_) (fun f cdv A outer s H vs Q E hr h => ?_)
  · obtain ⟨cs, two, ns, rfl, _⟩ := h
    rfl
  · obtain ⟨cs, two, ns, rfl, hS, hns, h2, q⟩ := h
    refine ⟨_, (pss_cons (ps_set (i := 2) sc_law_tree.nd rfl (Or.inl rfl) (pe_lst pa_nil))
      (pss_cons (ps_for PassesOwn.never rfl (pi_listK (K := K) rfl (pv 0)) (pg_name (i := 3) sc_law_tree.nd rfl (Or.inl rfl)) (pss_cons (ps_set (i := 4) sc_law_tree.nd rfl (Or.inl rfl) (pe_op op_mod (pv 3) pe_int))
      (pss_one (ps_if (PW.pt (pw_or (pt_cmpR op_lt (pv 4) pe_int (nomark _)) (pw_or (pt_cmpR (op_eqE (K := K) rfl hr.units0) (pv 2) (pe_lst pa_nil) (nomark _)) (pw_or1 (PW.pt (pw_and (pt_cmpR op_gt (pv 4) pe_int (nomark _)) (pw_and1 (pt_cmpR op_eq (pe_callB (call_len_seqK (K := K) rfl) rfl tx.z_len PySem.boot_len (pa_cons (pv 2) pa_nil)) pe_int (nomark _))))))))) (pss_one (ps_expr (pe_bm PySem.F.plainAttrs_list PySem.F.slot_list_append PySem.F.type_list_append mt_append (pv 2) (pa_cons (pe_fn G_law_plain (hr.mono (by decide)) (pa_cons (pe_op op_fdiv (pv 3) pe_int) (pa_cons (pv 1) pa_nil))) pa_nil)))) (pss_one (ps_if (pt_cmpR op_lt (pv 4) pe_int (nomark _)) (pss_one (ps_expr (pe_bm PySem.F.plainAttrs_list PySem.F.slot_list_append PySem.F.type_list_append mt_append (pv 2) (pa_cons (pe_tup (pa_cons (pe_txt (l := [110, 111, 116]) (by decide +kernel)) (pa_cons (pe_bm0 PySem.F.plainAttrs_list PySem.F.slot_list_pop PySem.F.type_list_pop mt_pop (pv 2)) pa_nil))) pa_nil)))) (pss_cons (ps_set (i := 5) sc_law_tree.nd rfl (Or.inl rfl) (pe_bm0 PySem.F.plainAttrs_list PySem.F.slot_list_pop PySem.F.type_list_pop mt_pop (pv 2)))
      (pss_one (ps_expr (pe_bm PySem.F.plainAttrs_list PySem.F.slot_list_append PySem.F.type_list_append mt_append (pv 2) (pa_cons (pe_tup (pa_cons (pe_ix (ix_listK (K := K) rfl) (pe_lst (pa_cons (pe_txt (l := [98, 111, 116, 104]) (by decide +kernel)) (pa_cons (pe_txt (l := [101, 105, 116, 104, 101, 114]) (by decide +kernel)) pa_nil))) (pe_op op_sub (pv 4) pe_int) (fun _ _ => rfl)) (pa_cons (pe_bm0 PySem.F.plainAttrs_list PySem.F.slot_list_pop PySem.F.type_list_pop mt_pop (pv 2)) (pa_cons (pv 5) pa_nil)))) pa_nil)))))))))))
      (pss_cons (ps_while PassesOwn.never (pt_cmpR op_gt (pe_callB (call_len_seqK (K := K) rfl) rfl tx.z_len PySem.boot_len (pa_cons (pv 2) pa_nil)) pe_int (nomark _)) (pss_cons (ps_set (i := 5) sc_law_tree.nd rfl (Or.inl rfl) (pe_bm0 PySem.F.plainAttrs_list PySem.F.slot_list_pop PySem.F.type_list_pop mt_pop (pv 2)))
      (pss_one (ps_expr (pe_bm PySem.F.plainAttrs_list PySem.F.slot_list_append PySem.F.type_list_append mt_append (pv 2) (pa_cons (pe_tup (pa_cons (pe_ix (ix_listK (K := K) rfl) (pe_lst (pa_cons (pe_txt (l := [98, 111, 116, 104]) (by decide +kernel)) (pa_cons (pe_txt (l := [101, 105, 116, 104, 101, 114]) (by decide +kernel)) pa_nil))) (pe_op op_mod (pe_callB (call_len_seqK (K := K) rfl) rfl tx.z_len PySem.boot_len (pa_cons (pv 2) pa_nil)) pe_int) (fun _ _ => rfl)) (pa_cons (pe_bm0 PySem.F.plainAttrs_list PySem.F.slot_list_pop PySem.F.type_list_pop mt_pop (pv 2)) (pa_cons (pv 5) pa_nil)))) pa_nil))))))
      (pss_one (ps_ret (pe_ix (ix_listK (K := K) rfl) (pe_op op_cat (pv 2) (pe_lst (pa_cons (pe_tup (pa_cons (pe_txt (l := [110, 101, 118, 101, 114]) (by decide +kernel)) (pa_cons (pe_txt (l := [35]) (by decide +kernel)) pa_nil))) pa_nil))) pe_int (fun _ _ => rfl))))))), ?_⟩
    walk_at "st"
    walk_at "rd"
    intro hp hhp
    obtain ⟨H1, e1, h1p, s1⟩ := nwl (xs := []) hhp
    rw [← e1]
    clear e1
    have hS1 := s1.seq hS
    walk_at "rd"
    refine for_list (xs := ns.map V.int) (fun i σ H2 => Here (∃ v1 v2 v3 zs, σ = [some (.ref cs), some (T two), some (.ref hp), v1, v2, v3] ∧ HeldT H2 hp zs ∧ szs zs ≤ i ∧ Same H H2))
      (Here.mk ⟨none, none, none, [], rfl, ⟨h1p, fun z hz => absurd hz List.not_mem_nil⟩, Nat.le_refl _, s1⟩) (fun i σ H2 _ hv => by obtain ⟨_, _, _, _, _, _, _, s⟩ := hv.out; exact s.seq hS) ?_ ?_
    · rintro i x σ H2 hx hv
      obtain ⟨v1, v2, v3, zs, rfl, hk, hz, ss⟩ := hv.out
      have hi : i < ns.length := by have := (List.getElem?_eq_some_iff.mp hx).1; rwa [List.length_map] at this
      obtain ⟨n, rfl⟩ : ∃ n, x = .int n := by
        obtain ⟨n, _, e⟩ := List.mem_map.mp (List.mem_of_getElem? hx)
        exact ⟨n, e.symm⟩
      have hzl := szs_len zs
      have hh := hk.1
      have w0 : 0 ≤ n % 8 := Int.emod_nonneg _ (by decide)
      have w1 : n % 8 < 8 := Int.emod_lt_of_pos _ (by decide)
      walk_at "rd"
      refine ite2 (fun c1 => ?_) (fun c1 => ?_)
      · walk_at "rd"
        intro r p H3 ho hr1 s3 hr3
        have hk3 := hk.same s3
        have hh3 := hk3.1
        walk_at "rd"
        exact Here.mk ⟨_, _, _, zs ++ [(r, p)], rfl, hk3.push hr3 ho, by rw [szs_app, szs_one]; show _ + r.sz ≤ _; omega, (ss.trans s3).upd hhp⟩
      have c1' : ¬ n % 8 < 4 := fun z => c1 (decide_eq_true z)
      walk_at "rd"
      intro pe hpe
      obtain ⟨HE, eE, hpE, sE⟩ := nwl (xs := []) hpe
      rw [← eE]
      clear eE
      have hkE := hk.same sE
      have hhE := hkE.1
      walk_at "rd"
      refine ite2 (fun c2 => ?_) (fun c2 => ?_)
      · walk_at "rd"
        intro r p H3 ho hr1 s3 hr3
        have hk3 := hkE.same s3
        have hh3 := hk3.1
        walk_at "rd"
        exact Here.mk ⟨_, _, _, zs ++ [(r, p)], rfl, hk3.push hr3 ho, by rw [szs_app, szs_one]; show _ + r.sz ≤ _; omega, ((ss.trans sE).trans s3).upd hhp⟩
      have hne : zs ≠ [] := fun z => c2 (by rw [z]; rfl)
      obtain ⟨ys, z, rfl⟩ := snoc_of hne
      rw [szs_app, szs_one] at hz hzl
      rw [List.length_append, List.length_singleton] at hzl
      obtain ⟨k1, rz, oz, lz⟩ := hkE.pop
      have hh1 := k1.1
      walk_at "rd"
      refine ite2 (fun c3 => ?_) (fun c3 => ?_)
      · have c3' : 5 < n % 8 := of_decide_eq_true c3
        walk_at "rd"
        refine ite2 (fun c4 => ?_) (fun c4 => ?_)
        · walk_at "rd"
          intro r p H3 ho hr1 s3 hr3
          have hk3 := hkE.same s3
          have hh3 := hk3.1
          walk_at "rd"
          exact Here.mk ⟨_, _, _, (ys ++ [z]) ++ [(r, p)], rfl, hk3.push hr3 ho, by rw [szs_app, szs_app, szs_one, szs_one]; show _ + r.sz ≤ _; omega, ((ss.trans sE).trans s3).upd hhp⟩
        have c4' : ys ≠ [] := fun e => c4 (by rw [e]; rfl)
        obtain ⟨xs, y, rfl⟩ := snoc_of c4'
        rw [szs_app, szs_one] at hz hzl
        rw [List.length_append, List.length_singleton] at hzl
        walk_at "rd"
        refine ite2 (fun c5 => absurd (of_decide_eq_true c5) (by omega)) (fun c5 => ?_)
        walk_at "rd"
        obtain ⟨wd, hwd, hwo⟩ := two_wd (n % 8 - 6) (by omega) (by omega)
        intro pb hpb
        obtain ⟨HB, eB, hpB, sB⟩ := nwl (xs := [T [98, 111, 116, 104], T [101, 105, 116, 104, 101, 114]]) hpb
        rw [← eB]
        clear eB
        have k1B := k1.same sB
        have hh1B := k1B.1
        have rzB := rz.same sB
        obtain ⟨k2, ry, oy, ly⟩ := k1B.pop
        have rz2 := rzB.lst (ys := (((xs ++ [y]).map fun z => V.ref z.2).dropLast)) k1B.1
        have hh2 := k2.1
        walk_at "rd"
        intro pt hpt
        obtain ⟨HT, eT, hpT, sT⟩ := nwt (xs := [T wd, .ref y.2, .ref z.2]) hpt
        rw [← eT]
        clear eT
        obtain ⟨r, hr, ho, hsz⟩ := joinT hwo hpT (ry.same sT) (rz2.same sT) oy oz
        have k3 := k2.same sT
        have hh3 := k3.1
        walk_at "rd"
        exact Here.mk ⟨_, _, _, xs ++ [(r, pt)], rfl, k3.push hr ho, by rw [szs_app, szs_one]; show _ + r.sz ≤ _; omega, (((((ss.trans sE).upd hhp).trans sB).upd hhp).trans sT).upd hhp⟩
      · have c3' : ¬ 5 < n % 8 := fun z => c3 (decide_eq_true z)
        walk_at "rd"
        refine ite2 (fun c5 => ?_) (fun c5 => absurd (decide_eq_true (show n % 8 < 6 by omega)) c5)
        walk_at "rd"
        intro pt hpt
        obtain ⟨HT, eT, hpT, sT⟩ := nwt (xs := [T wNot, .ref z.2]) hpt
        rw [← eT]
        clear eT
        have k3 := k1.same sT
        have hh3 := k3.1
        walk_at "rd"
        exact Here.mk ⟨_, _, _, ys ++ [(.neg z.1, pt)], rfl, k3.push (r := .neg z.1) ⟨z.2, hpT, rz.same sT⟩ oz, by rw [szs_app, szs_one]; show _ + (z.1.sz + 1) ≤ _; omega, (((ss.trans sE).upd hhp).trans sT).upd hhp⟩
    rintro σ H2 hv
    obtain ⟨v1, v2, v3, zs, rfl, hk, hz, ss⟩ := hv.out
    rw [List.length_map] at hz
    have hzl := szs_len zs
    refine while_by (fun σ H3 => Here (∃ v1 v2 v3 zs, σ = [some (.ref cs), some (T two), some (.ref hp), v1, v2, v3] ∧ HeldT H3 hp zs ∧ szs zs + zs.length ≤ 24 ∧ Same H H3)) (fun _ H3 => lenAt H3 hp)
      (Here.mk ⟨v1, v2, v3, zs, rfl, hk, by omega, ss⟩) ?_ ?_
    · rintro σ H3 hv
      obtain ⟨v1, v2, v3, zs, rfl, hk, hz, ss⟩ := hv.out
      have hzl := szs_len zs
      have hh := hk.1
      walk_at "rd"
      refine ite2 (fun c => ?_) (fun c => ?_)
      · have c' : (1 : Int) < (((zs.map fun z => V.ref z.2).length : Nat) : Int) := of_decide_eq_true c
        rw [List.length_map] at c'
        have hne : zs ≠ [] := fun e => by rw [e, List.length_nil] at c'; omega
        obtain ⟨ys, z, rfl⟩ := snoc_of hne
        rw [List.length_append, List.length_singleton] at c' hz hzl
        have hys : ys ≠ [] := fun e => by rw [e, List.length_nil] at c'; omega
        obtain ⟨xs, y, rfl⟩ := snoc_of hys
        rw [szs_app, szs_app, szs_one, szs_one, List.length_append, List.length_singleton] at hz
        obtain ⟨k1, rz, oz, lz⟩ := hk.pop
        have hh1 := k1.1
        have hl1 : (((xs ++ [y]).map fun z => V.ref z.2).length : Int) = (xs.length : Int) + 1 := by simp
        obtain ⟨wd, hwd, hwo⟩ := two_wd (((((xs ++ [y]).map fun z => V.ref z.2).length : Nat) : Int) % 2) (Int.emod_nonneg _ (by decide)) (Int.emod_lt_of_pos _ (by decide))
        walk_at "rd"
        intro pb hpb
        obtain ⟨HB, eB, hpB, sB⟩ := nwl (xs := [T [98, 111, 116, 104], T [101, 105, 116, 104, 101, 114]]) hpb
        rw [← eB]
        clear eB
        have k1B := k1.same sB
        have hh1B := k1B.1
        have rzB := rz.same sB
        obtain ⟨k2, ry, oy, ly⟩ := k1B.pop
        have rz2 := rzB.lst (ys := (((xs ++ [y]).map fun z => V.ref z.2).dropLast)) k1B.1
        have hh2 := k2.1
        walk_at "rd"
        intro pt hpt
        obtain ⟨HT, eT, hpT, sT⟩ := nwt (xs := [T wd, .ref y.2, .ref z.2]) hpt
        rw [← eT]
        clear eT
        obtain ⟨r, hr, ho, hsz⟩ := joinT hwo hpT (ry.same sT) (rz2.same sT) oy oz
        have k3 := k2.same sT
        have hh3 := k3.1
        walk_at "rd"
        have kf := k3.push hr ho
        refine ⟨Here.mk ⟨_, _, _, xs ++ [(r, pt)], rfl, kf, by rw [szs_app, szs_one, List.length_append, List.length_singleton]; show _ + r.sz + _ ≤ _; omega, ((((ss.upd hhp).trans sB).upd hhp).trans sT).upd hhp⟩, ?_⟩
        show lenAt _ hp < lenAt H3 hp
        rw [lenAt_of kf.1, lenAt_of hh]
        simp
      · have c' : ¬ ((1 : Int) < (((zs.map fun z => V.ref z.2).length : Nat) : Int)) := fun z => c (decide_eq_true z)
        rw [List.length_map] at c'
        walk_at "rd"
        intro pt hpt
        obtain ⟨HT, eT, hpT, sT⟩ := nwt (xs := [T wNever, T [35]]) hpt
        rw [← eT]
        clear eT
        walk_at "rd"
        intro pl hpl
        obtain ⟨HL, eL, hpL, sL⟩ := nwl (xs := [.ref pt]) hpl
        rw [← eL]
        clear eL
        have hhL := sL _ _ (sT _ _ hh)
        have hlm : (zs.map fun z => V.ref z.2).length ≤ 24 := by rw [List.length_map]; omega
        walk_at "rd"
        intro pc hpc
        obtain ⟨HC, eC, hpC, sC⟩ := nwl (xs := (zs.map fun z => V.ref z.2) ++ [.ref pt]) hpc
        rw [← eC]
        clear eC
        have sA : Same H3 HC := sT.trans (sL.trans sC)
        cases zs with
        | nil =>
          have e0 : atI ((([] : List (R × Addr)).map fun z => V.ref z.2) ++ [.ref pt]) (0 : Int) = some (V.ref pt) := at_zero _ _
          walk_at "rd"
          exact q (.nev [35]) pt HC (show goodW [35] = true by decide) (by decide) (ss.trans sA) (sC _ _ (sL _ _ hpT))
        | cons z r =>
          have e0 : atI (((z :: r).map fun z => V.ref z.2) ++ [.ref pt]) (0 : Int) = some (V.ref z.2) := at_zero _ _
          obtain ⟨a, b⟩ := hk.2 z List.mem_cons_self
          have hzz : z.1.sz + szs r + (r.length + 1) ≤ 24 := hz
          walk_at "rd"
          exact q z.1 z.2 HC b (by omega) (ss.trans sA) (a.same sA)
    · rintro σ H' Q1 Q2 hQ ⟨v, e1, p, ys, e2, h, i, j, e3, e4, k, e5, h2⟩
      exact ⟨v, e1, p, ys, e2, h, i, j, e3, e4, k, e5, hQ _ _ h2⟩
end

section
variable {P : Program} {w : World} {K : PySem.W.Frag} {mg : Str → Option Value} {base : Heap} {C_Never C_Most C_Least C_Both C_Either C_Not : Addr}


theorem g_lw (tx : Tx K mg C_Never C_Most C_Least C_Both C_Either C_Not) {n : Nat} (G_law_text : FnG P w K mg base "_law_text" (1 + 2 * n) ["_law_tree_here", "_law_extra"] (sp_ltx n)) : FnG P w K mg base "_law_within" (2 + 2 * n) ["_law_tree_here", "_law_height", "_law_extra"] (sp_lw n) := by
  refine FnG.mono (j := (1 + 2 * n) + 1) (tx.f_law_within.g sc_law_within (fun _ _ _ _ _ _ us hl => match us, hl with | [_, _, _], _ => rfl) (fun vs H Q E h => ?_) (fun f cdv A outer s H vs Q E hr h => ?_)) (by omega)
  · obtain ⟨r, p, h, e, rfl, _⟩ := h
    rfl
  · obtain ⟨r, p, h, e, rfl, hR, ho, hz, hz2, h0, h2, q⟩ := h
    refine ⟨_, (pss_cons (ps_set (i := 3) sc_law_within.nd rfl (Or.inl rfl) (pe_fn G_law_text (hr.mono (by omega)) (pa_cons (pv 0) (pa_cons (pv 2) pa_nil))))
      (pss_cons (ps_set (i := 4) sc_law_within.nd rfl (Or.inl rfl) pe_int)
      (pss_cons (ps_if (pt_cmpR op_eq (pe_ix (ix_tupK (K := K) rfl) (pv 0) pe_int (fun _ _ => rfl)) (pe_txt (l := [98, 111, 116, 104]) (by decide +kernel)) (nomark _)) (pss_one (ps_set (i := 4) sc_law_within.nd rfl (Or.inl rfl) pe_int)) pss_nil)
      (pss_cons (ps_if (pt_cmpR op_eq (pe_ix (ix_tupK (K := K) rfl) (pv 0) pe_int (fun _ _ => rfl)) (pe_txt (l := [101, 105, 116, 104, 101, 114]) (by decide +kernel)) (nomark _)) (pss_one (ps_set (i := 4) sc_law_within.nd rfl (Or.inl rfl) pe_int)) pss_nil)
      (pss_cons (ps_if (PW.pt (pw_or (pt_cmpR op_gt (pv 4) (pv 1) (nomark _)) (pw_or1 (PW.pt (pw_and (pt_cmpR op_ge (pv 2) pe_int (nomark _)) (pw_and1 (pt_cmpR op_eq (pe_op op_mod (pv 2) pe_int) pe_int (nomark _)))))))) (pss_one (ps_ret (pe_op op_catS (pe_op op_catS (pe_txt (l := [40, 32]) (by decide +kernel)) (pv 3)) (pe_txt (l := [32, 41]) (by decide +kernel))))) pss_nil)
      (pss_one (ps_ret (pv 3)))))))), ?_⟩
    walk_at "st"
    obtain ⟨hd, xs, lv, ob, hl, hc⟩ := hR.head
    have e0 := at_zero (T hd) xs
    walk_at "rd"
    intro t xt he
    have hln := xt.ln
    have hln2 : t.length ≤ 960 := by omega
    have yes : Q (T ([40, 32] ++ t ++ [32, 41])) H ∨ (e < 0 ∧ ¬ h.toNat < r.lvl) := by
      by_cases z : e < 0 ∧ ¬ h.toNat < r.lvl
      · exact .inr z
      · refine .inl (q _ (xt.br h.toNat (by omega)) fun z1 => ?_)
        have z2 : h.toNat < r.lvl := Classical.byContradiction fun y => z ⟨z1, y⟩
        rw [he z1, decide_eq_true z2]
        rfl
    have no : r.lvl ≤ h.toNat → Q (T t) H := fun z => q _ (xt.in (by omega) z) fun z1 => by
      rw [he z1, decide_eq_false (by omega)]
      rfl
    rw [hl] at yes no
    clear q xt he hR hl
    rcases hc with ⟨rfl, rfl⟩ | ⟨rfl, rfl⟩ | ⟨rfl, rfl⟩ | ⟨rfl, rfl⟩ | ⟨rfl, rfl⟩ | ⟨rfl, rfl⟩
    all_goals
      walk_at "rd"
      refine ite2 (fun c => ?_) (fun c => ?_)
      · have c' := of_decide_eq_true c
        walk_at "rd"
        rcases yes with y | ⟨_, y⟩
        · exact y
        · exact absurd (show _ by omega) y
      · have c' := of_decide_eq_false (Bool.eq_false_iff.mpr c)
        walk_at "rd"
        refine ite2 (fun c2 => ?_) (fun c2 => ?_)
        · have c2' := of_decide_eq_true c2
          walk_at "rd"
          refine ite2 (fun c3 => ?_) (fun c3 => ?_)
          · walk_at "rd"
            rcases yes with y | ⟨y, _⟩
            · exact y
            · omega
          · walk_at "rd"
            exact no (by omega)
        · walk_at "rd"
          exact no (by omega)
theorem cn_law (a m : List Nat) (n d : Nat) : a ++ [32] ++ ([48 + n] ++ [32, 111, 102, 32] ++ m) ++ [32, 105, 110, 32] ++ [48 + d] = cnT a (n : Int) m (d : Int) := by
  unfold cnT
  simp
theorem g_lt (tx : Tx K mg C_Never C_Most C_Least C_Both C_Either C_Not) : ∀ n, FnG P w K mg base "_law_text" (1 + 2 * n) ["_law_tree_here", "_law_extra"] (sp_ltx n)
  | 0 => by
    refine FnG.mono (j := 1) (tx.f_law_text.g sc_law_text (fun _ _ _ _ _ _ us hl => match us, hl with | [_, _], _ => rfl) (fun vs H Q E h => ?_) (fun f cdv A outer s H vs Q E hr h => ?_)) (by omega)
    · obtain ⟨r, p, e, rfl, _⟩ := h
      rfl
    · obtain ⟨r, p, e, _, _, _, hn, _⟩ := h
      have := r.sz_pos
      omega
  | n + 1 => by
    have G_law_within := g_lw tx (g_lt tx n)
    refine FnG.mono (j := (2 + 2 * n) + 1) (tx.f_law_text.g sc_law_text (fun _ _ _ _ _ _ us hl => match us, hl with | [_, _], _ => rfl) (fun vs H Q E h => ?_) (fun f cdv A outer s H vs Q E hr h => ?_)) (by omega)
    · obtain ⟨r, p, e, rfl, _⟩ := h
      rfl
    · obtain ⟨r, p, e, rfl, hR, ho, hz, hz2, q⟩ := h
      refine ⟨_, (pss_cons (ps_if (pt_cmpR op_eq (pe_ix (ix_tupK (K := K) rfl) (pv 0) pe_int (fun _ _ => rfl)) (pe_txt (l := [110, 101, 118, 101, 114]) (by decide +kernel)) (nomark _)) (pss_one (ps_ret (pe_op op_catS (pe_txt (l := [110, 101, 118, 101, 114, 32]) (by decide +kernel)) (pe_ix (ix_tupK (K := K) rfl) (pv 0) pe_int (fun _ _ => rfl))))) pss_nil)
      (pss_cons (ps_if (PW.pt (pw_or (pt_cmpR op_eq (pe_ix (ix_tupK (K := K) rfl) (pv 0) pe_int (fun _ _ => rfl)) (pe_txt (l := [109, 111, 115, 116]) (by decide +kernel)) (nomark _)) (pw_or1 (pt_cmpR op_eq (pe_ix (ix_tupK (K := K) rfl) (pv 0) pe_int (fun _ _ => rfl)) (pe_txt (l := [108, 101, 97, 115, 116]) (by decide +kernel)) (nomark _))))) (pss_cons (ps_set (i := 2) sc_law_text.nd rfl (Or.inl rfl) (pe_op op_catS (pe_op op_catS (pe_callTy call_str_intT rfl tx.z_str bt_ty_str (pa_cons (pe_ix (ix_tupK (K := K) rfl) (pv 0) pe_int (fun _ _ => rfl)) pa_nil)) (pe_txt (l := [32, 111, 102, 32]) (by decide +kernel))) (pe_ix (ix_tupK (K := K) rfl) (pv 0) pe_int (fun _ _ => rfl))))
      (pss_one (ps_ret (pe_op op_catS (pe_op op_catS (pe_op op_catS (pe_op op_catS (pe_ix (ix_tupK (K := K) rfl) (pv 0) pe_int (fun _ _ => rfl)) (pe_txt (l := [32]) (by decide +kernel))) (pv 2)) (pe_txt (l := [32, 105, 110, 32]) (by decide +kernel))) (pe_callTy call_str_intT rfl tx.z_str bt_ty_str (pa_cons (pe_ix (ix_tupK (K := K) rfl) (pv 0) pe_int (fun _ _ => rfl)) pa_nil)))))) pss_nil)
      (pss_cons (ps_set (i := 3) sc_law_text.nd rfl (Or.inl rfl) (pe_un un_neg pe_int))
      (pss_cons (ps_set (i := 4) sc_law_text.nd rfl (Or.inl rfl) (pe_un un_neg pe_int))
      (pss_cons (ps_cut (ps_if (pt_cmpR op_ge (pv 1) pe_int (nomark _)) (pss_cons (ps_set (i := 3) sc_law_text.nd rfl (Or.inl rfl) (pe_op op_mod (pe_op op_add (pe_op op_mul (pv 1) pe_int) pe_int) pe_int))
      (pss_one (ps_set (i := 4) sc_law_text.nd rfl (Or.inl rfl) (pe_op op_mod (pe_op op_add (pe_op op_mul (pv 1) pe_int) pe_int) pe_int)))) pss_nil))
      (pss_cons (ps_if (pt_cmpR op_eq (pe_ix (ix_tupK (K := K) rfl) (pv 0) pe_int (fun _ _ => rfl)) (pe_txt (l := [110, 111, 116]) (by decide +kernel)) (nomark _)) (pss_one (ps_ret (pe_op op_catS (pe_txt (l := [110, 111, 116, 32]) (by decide +kernel)) (pe_fn G_law_within (hr.mono (by omega)) (pa_cons (pe_ix (ix_tupK (K := K) rfl) (pv 0) pe_int (fun _ _ => rfl)) (pa_cons pe_int (pa_cons (pv 3) pa_nil))))))) pss_nil)
      (pss_cons (ps_if (pt_cmpR op_eq (pe_ix (ix_tupK (K := K) rfl) (pv 0) pe_int (fun _ _ => rfl)) (pe_txt (l := [98, 111, 116, 104]) (by decide +kernel)) (nomark _)) (pss_one (ps_ret (pe_op op_catS (pe_op op_catS (pe_fn G_law_within (hr.mono (by omega)) (pa_cons (pe_ix (ix_tupK (K := K) rfl) (pv 0) pe_int (fun _ _ => rfl)) (pa_cons pe_int (pa_cons (pv 3) pa_nil)))) (pe_txt (l := [32, 97, 110, 100, 32]) (by decide +kernel))) (pe_fn G_law_within (hr.mono (by omega)) (pa_cons (pe_ix (ix_tupK (K := K) rfl) (pv 0) pe_int (fun _ _ => rfl)) (pa_cons pe_int (pa_cons (pv 4) pa_nil))))))) pss_nil)
      (pss_one (ps_ret (pe_op op_catS (pe_op op_catS (pe_fn G_law_within (hr.mono (by omega)) (pa_cons (pe_ix (ix_tupK (K := K) rfl) (pv 0) pe_int (fun _ _ => rfl)) (pa_cons pe_int (pa_cons (pv 3) pa_nil)))) (pe_txt (l := [32, 111, 114, 32]) (by decide +kernel))) (pe_fn G_law_within (hr.mono (by omega)) (pa_cons (pe_ix (ix_tupK (K := K) rfl) (pv 0) pe_int (fun _ _ => rfl)) (pa_cons pe_int (pa_cons (pv 4) pa_nil)))))))))))))), ?_⟩
      walk_at "st"
      cases r with
      | nev wd =>
        have ob : H p = some (.tup [T wNever, T wd]) := hR
        have e0 : atI [T wNever, T wd] (0 : Int) = some (T wNever) := by simp [atI, ixN]
        have e1 : atI [T wNever, T wd] (1 : Int) = some (T wd) := by simp [atI, ixN]
        obtain ⟨w1, w2⟩ := goodW_len ho
        clear hR
        walk_at "rd"
        exact q _ (tx_nev ho) fun _ => rfl
      | most a m d =>
        obtain ⟨⟨n0, n1⟩, ⟨d0, d1⟩, hm⟩ := ho
        obtain ⟨a, rfl⟩ : ∃ k : Nat, a = (k : Int) := ⟨a.toNat, by omega⟩
        obtain ⟨d, rfl⟩ : ∃ k : Nat, d = (k : Int) := ⟨d.toNat, by omega⟩
        have ob : H p = some (.tup [T wMost, .int (a : Int), T m, .int (d : Int)]) := hR
        have e0 : atI [T wMost, .int (a : Int), T m, .int (d : Int)] (0 : Int) = some (T wMost) := by simp [atI, ixN]
        have e1 : atI [T wMost, .int (a : Int), T m, .int (d : Int)] (1 : Int) = some (.int (a : Int)) := by simp [atI, ixN]
        have e2 : atI [T wMost, .int (a : Int), T m, .int (d : Int)] (2 : Int) = some (T m) := by simp [atI, ixN]
        have e3 : atI [T wMost, .int (a : Int), T m, .int (d : Int)] (3 : Int) = some (.int (d : Int)) := by simp [atI, ixN]
        obtain ⟨m1, m2⟩ := goodM_len hm
        have a9 : a ≤ 9 := by omega
        have d9 : d ≤ 9 := by omega
        clear hR
        walk_at "rd"
        have q' := q _ (tx_most ⟨n0, n1⟩ ⟨d0, d1⟩ hm) fun _ => rfl
        rw [← cn_law] at q'
        exact q'
      | least a m d =>
        obtain ⟨⟨n0, n1⟩, ⟨d0, d1⟩, hm⟩ := ho
        obtain ⟨a, rfl⟩ : ∃ k : Nat, a = (k : Int) := ⟨a.toNat, by omega⟩
        obtain ⟨d, rfl⟩ : ∃ k : Nat, d = (k : Int) := ⟨d.toNat, by omega⟩
        have ob : H p = some (.tup [T wLeast, .int (a : Int), T m, .int (d : Int)]) := hR
        have e0 : atI [T wLeast, .int (a : Int), T m, .int (d : Int)] (0 : Int) = some (T wLeast) := by simp [atI, ixN]
        have e1 : atI [T wLeast, .int (a : Int), T m, .int (d : Int)] (1 : Int) = some (.int (a : Int)) := by simp [atI, ixN]
        have e2 : atI [T wLeast, .int (a : Int), T m, .int (d : Int)] (2 : Int) = some (T m) := by simp [atI, ixN]
        have e3 : atI [T wLeast, .int (a : Int), T m, .int (d : Int)] (3 : Int) = some (.int (d : Int)) := by simp [atI, ixN]
        obtain ⟨m1, m2⟩ := goodM_len hm
        have a9 : a ≤ 9 := by omega
        have d9 : d ≤ 9 := by omega
        clear hR
        walk_at "rd"
        have q' := q _ (tx_least ⟨n0, n1⟩ ⟨d0, d1⟩ hm) fun _ => rfl
        rw [← cn_law] at q'
        exact q'
      | neg i =>
        obtain ⟨a, ob, ha⟩ := hR
        have ob' : H p = some (.tup [T wNot, .ref a]) := ob
        have e0 : atI [T wNot, .ref a] (0 : Int) = some (T wNot) := by simp [atI, ixN]
        have e1 : atI [T wNot, .ref a] (1 : Int) = some (.ref a) := by simp [atI, ixN]
        have z1 : i.sz + 1 ≤ n + 1 := hz
        have z2 : i.sz + 1 ≤ 25 := hz2
        have oi : i.ok := ho
        clear ob
        walk_at "rd"
        refine tCut.mk (fun σ' H' => Here (∃ one two, σ' = [some (.ref p), some (.int e), none, some (.int one), some (.int two)] ∧ (e < 0 → one < 0 ∧ two < 0) ∧ H' = H)) ?_ ?_
        · walk_at "rd"
          refine ite2 (fun c => ?_) (fun c => ?_)
          · have c' : 0 ≤ e := of_decide_eq_true c
            walk_at "rd"
            exact Here.mk ⟨_, _, rfl, fun z => by omega, rfl⟩
          · exact Here.mk ⟨_, _, rfl, fun z => ⟨by decide, by decide⟩, rfl⟩
        rintro σ' H' hv
        obtain ⟨one, two, rfl, h12, eH⟩ := hv.out
        rw [eH]
        clear eH hv
        walk_at "rd"
        intro t xt het
        have hln : t.length ≤ 32 * i.sz + 4 := xt.ln
        have hln2 : t.length ≤ 964 := by omega
        walk_at "rd"
        exact q _ (tx_neg xt) fun z => by rw [het (h12 z).1]; rfl
      | both l r =>
        obtain ⟨a, b, ob, ha, hb⟩ := hR
        have ob' : H p = some (.tup [T wBoth, .ref a, .ref b]) := ob
        have e0 : atI [T wBoth, .ref a, .ref b] (0 : Int) = some (T wBoth) := by simp [atI, ixN]
        have e1 : atI [T wBoth, .ref a, .ref b] (1 : Int) = some (.ref a) := by simp [atI, ixN]
        have e2 : atI [T wBoth, .ref a, .ref b] (2 : Int) = some (.ref b) := by simp [atI, ixN]
        have z1 : l.sz + r.sz + 1 ≤ n + 1 := hz
        have z2 : l.sz + r.sz + 1 ≤ 25 := hz2
        obtain ⟨ol, or⟩ : l.ok ∧ r.ok := ho
        clear ob
        walk_at "rd"
        refine tCut.mk (fun σ' H' => Here (∃ one two, σ' = [some (.ref p), some (.int e), none, some (.int one), some (.int two)] ∧ (e < 0 → one < 0 ∧ two < 0) ∧ H' = H)) ?_ ?_
        · walk_at "rd"
          refine ite2 (fun c => ?_) (fun c => ?_)
          · have c' : 0 ≤ e := of_decide_eq_true c
            walk_at "rd"
            exact Here.mk ⟨_, _, rfl, fun z => by omega, rfl⟩
          · exact Here.mk ⟨_, _, rfl, fun z => ⟨by decide, by decide⟩, rfl⟩
        rintro σ' H' hv
        obtain ⟨one, two, rfl, h12, eH⟩ := hv.out
        rw [eH]
        clear eH hv
        walk_at "rd"
        intro t xt het
        have hln : t.length ≤ 32 * l.sz + 4 := xt.ln
        have hln2 : t.length ≤ 930 := by omega
        walk_at "rd"
        intro t2 xt2 het2
        have hln3 : t2.length ≤ 32 * r.sz + 4 := xt2.ln
        have hln4 : t.length + t2.length ≤ 930 := by omega
        walk_at "rd"
        exact q _ (tx_both xt xt2) fun z => by rw [het (h12 z).1, het2 (h12 z).2]; rfl
      | either l r =>
        obtain ⟨a, b, ob, ha, hb⟩ := hR
        have ob' : H p = some (.tup [T wEither, .ref a, .ref b]) := ob
        have e0 : atI [T wEither, .ref a, .ref b] (0 : Int) = some (T wEither) := by simp [atI, ixN]
        have e1 : atI [T wEither, .ref a, .ref b] (1 : Int) = some (.ref a) := by simp [atI, ixN]
        have e2 : atI [T wEither, .ref a, .ref b] (2 : Int) = some (.ref b) := by simp [atI, ixN]
        have z1 : l.sz + r.sz + 1 ≤ n + 1 := hz
        have z2 : l.sz + r.sz + 1 ≤ 25 := hz2
        obtain ⟨ol, or⟩ : l.ok ∧ r.ok := ho
        clear ob
        walk_at "rd"
        refine tCut.mk (fun σ' H' => Here (∃ one two, σ' = [some (.ref p), some (.int e), none, some (.int one), some (.int two)] ∧ (e < 0 → one < 0 ∧ two < 0) ∧ H' = H)) ?_ ?_
        · walk_at "rd"
          refine ite2 (fun c => ?_) (fun c => ?_)
          · have c' : 0 ≤ e := of_decide_eq_true c
            walk_at "rd"
            exact Here.mk ⟨_, _, rfl, fun z => by omega, rfl⟩
          · exact Here.mk ⟨_, _, rfl, fun z => ⟨by decide, by decide⟩, rfl⟩
        rintro σ' H' hv
        obtain ⟨one, two, rfl, h12, eH⟩ := hv.out
        rw [eH]
        clear eH hv
        walk_at "rd"
        intro t xt het
        have hln : t.length ≤ 32 * l.sz + 4 := xt.ln
        have hln2 : t.length ≤ 930 := by omega
        walk_at "rd"
        intro t2 xt2 het2
        have hln3 : t2.length ≤ 32 * r.sz + 4 := xt2.ln
        have hln4 : t.length + t2.length ≤ 930 := by omega
        walk_at "rd"
        exact q _ (tx_either xt xt2) fun z => by rw [het (h12 z).1, het2 (h12 z).2]; rfl
end

section
variable {P : Program} {w : World} {K : PySem.W.Frag} {mg : Str → Option Value} {base : Heap} {C_Never C_Most C_Least C_Both C_Either C_Not : Addr}

theorem g_law_lets (tx : Tx K mg C_Never C_Most C_Least C_Both C_Either C_Not) : FnG P w K mg base "_law_lets" 1 ["_law_sign", "_law_mark"] sp_fits := by
  refine tx.f_law_lets.g sc_law_lets (fun _ _ _ _ _ _ us hl => match us, hl with | [_, _], _ => rfl) (fun vs H Q E h => ?_) (fun f cdv A outer s H vs Q E hr h => ?_)
  · obtain ⟨a, b, rfl, _⟩ := h
    rfl
  · obtain ⟨a, b, rfl, q⟩ := h
    refine ⟨_, (pss_cons (ps_if (pt_cmpR op_eq (pv 0) (pe_txt (l := [63]) (by decide +kernel)) (nomark _)) (pss_one (ps_ret pe_bl)) pss_nil)
      (pss_cons (ps_if (pt_cmpR op_eq (pv 0) (pe_txt (l := [35]) (by decide +kernel)) (nomark _)) (pss_one (ps_ret (pe_cmpR op_ne (pv 1) (pe_txt (l := [45]) (by decide +kernel)) (nomark _)))) pss_nil)
      (pss_one (ps_ret (pe_cmpR op_eq (pv 0) (pv 1) (nomark _)))))), ?_⟩
    walk_at "st"
    refine ⟨_, rfl, rfl, _, rfl, ?_⟩
    refine ite2 (fun c => ?_) (fun c => ?_)
    · have e : fitsV (T a) (T b) = true := by unfold fitsV; rw [if_pos c]
      rw [e] at q
      exact q
    · refine ⟨_, rfl, rfl, _, rfl, ?_⟩
      refine ite2 (fun c2 => ?_) (fun c2 => ?_)
      · have e : fitsV (T a) (T b) = !decide (T b = T [45]) := by unfold fitsV; rw [if_neg c, if_pos c2]
        rw [e] at q
        exact ⟨_, rfl, rfl, q⟩
      · have e : fitsV (T a) (T b) = decide (T a = T b) := by unfold fitsV; rw [if_neg c, if_neg c2]
        rw [e] at q
        exact ⟨_, rfl, _, rfl, rfl, q⟩

theorem g_law_word_lies (tx : Tx K mg C_Never C_Most C_Least C_Both C_Either C_Not) : FnG P w K mg base "_law_word_lies" 2 ["_law_word", "_law_marks"] sp_wl := by
  have G_law_lets := g_law_lets (P := P) (w := w) (base := base) tx
  refine tx.f_law_word_lies.g sc_law_word_lies (fun _ _ _ _ _ _ us hl => match us, hl with | [_, _], _ => rfl) (fun vs H Q E h => ?_) (fun f cdv A outer s H vs Q E hr h => ?_)
  · obtain ⟨wd, l, rfl, _⟩ := h
    rfl
  · obtain ⟨wd, l, rfl, hw, hl, q⟩ := h
    refine ⟨_, (pss_cons (ps_if (pt_cmpR op_lt (pe_callB call_lenS rfl tx.z_len PySem.boot_len (pa_cons (pv 1) pa_nil)) (pe_callB call_lenS rfl tx.z_len PySem.boot_len (pa_cons (pv 0) pa_nil)) (nomark _)) (pss_one (ps_ret pe_bl)) pss_nil)
      (pss_cons (ps_for PassesOwn.never rfl (pi_range2 rfl tx.z_range (pa_cons pe_int (pa_cons (pe_op op_add pe_int (pe_callB call_lenS rfl tx.z_len PySem.boot_len (pa_cons (pv 0) pa_nil))) pa_nil))) (pg_name (i := 2) sc_law_word_lies.nd rfl (Or.inl rfl)) (pss_one (ps_if (pt_not (pt_val (pe_fn G_law_lets (hr.mono (by decide)) (pa_cons (pe_ix ix_txt (pv 0) (pe_op op_sub (pe_callB call_lenS rfl tx.z_len PySem.boot_len (pa_cons (pv 0) pa_nil)) (pv 2)) (fun _ _ => rfl)) (pa_cons (pe_ix ix_txt (pv 1) (pe_op op_sub (pe_callB call_lenS rfl tx.z_len PySem.boot_len (pa_cons (pv 1) pa_nil)) (pv 2)) (fun _ _ => rfl)) pa_nil))))) (pss_one (ps_ret pe_bl)) pss_nil)))
      (pss_one (ps_ret pe_bl)))), ?_⟩
    walk_at "st"
    walk_at "rd"
    refine ite2 (fun c => ?_) (fun c => ?_)
    · have c' := of_decide_eq_true c
      have e : nevB wd l = false := by unfold nevB; rw [if_pos (by omega)]
      rw [e] at q
      walk_at "rd"
      exact q
    have c' : ¬ ((l.length : Int) < (wd.length : Int)) := fun z => c (decide_eq_true z)
    have back := nev_back (wd := wd) (l := l) (by omega)
    walk_at "rd"
    refine for_range (lo := 1) (n := (1 + (wd.length : Int) - 1).toNat) (fun i σ H2 => Here (∃ v, σ = [some (T wd), some (T l), v] ∧ (∀ j < i, ∀ a b, wd[wd.length - 1 - j]? = some a → l[l.length - 1 - j]? = some b → fitsV (T [a]) (T [b]) = true) ∧ H2 = H)) (Here.mk ⟨none, rfl, fun j hj => absurd hj (Nat.not_lt_zero _), rfl⟩) ?_ ?_
    · rintro i σ H2 hi hv
      obtain ⟨v, rfl, hall, eH⟩ := hv.out
      rw [eH]
      obtain ⟨a, ha, ha2⟩ := at_some wd ((wd.length : Int) - (1 + (i : Int))) (by omega) (by omega)
      obtain ⟨b, hb, hb2⟩ := at_some l ((l.length : Int) - (1 + (i : Int))) (by omega) (by omega)
      rw [show ((wd.length : Int) - (1 + (i : Int))).toNat = wd.length - 1 - i by omega] at ha2
      rw [show ((l.length : Int) - (1 + (i : Int))).toNat = l.length - 1 - i by omega] at hb2
      walk_at "rd"
      refine ite2 (fun c2 => ?_) (fun c2 => ?_)
      · have e : nevB wd l = false := Bool.eq_false_iff.mpr fun z => by
          rw [back.mp z i (by omega) a b ha2 hb2] at c2
          cases c2
        rw [e] at q
        walk_at "rd"
        exact q
      · have c2' : fitsV (T [a]) (T [b]) = true := by
          cases z : fitsV (T [a]) (T [b]) with
          | true => rfl
          | false => rw [z] at c2; exact absurd rfl c2
        walk_at "rd"
        refine Here.mk ⟨_, rfl, fun j hj x y hx hy => ?_, rfl⟩
        by_cases z : j = i
        · rw [z, ha2] at hx
          rw [z, hb2] at hy
          rw [← Option.some.inj hx, ← Option.some.inj hy]
          exact c2'
        · exact hall j (by omega) x y hx hy
    · rintro σ H2 hv
      obtain ⟨v, rfl, hall, eH⟩ := hv.out
      rw [eH]
      rw [back.mpr fun j hj => hall j (by omega)] at q
      walk_at "rd"
      exact q

theorem g_lb (tx : Tx K mg C_Never C_Most C_Least C_Both C_Either C_Not) : ∀ n, FnG P w K mg base "_law_bad" (3 + n) ["_law_tree_here", "_law_marks"] (sp_lb n)
  | 0 => by
    refine FnG.mono (j := 1) (tx.f_law_bad.g sc_law_bad (fun _ _ _ _ _ _ us hl => match us, hl with | [_, _], _ => rfl) (fun vs H Q E h => ?_) (fun f cdv A outer s H vs Q E hr h => ?_)) (by omega)
    · obtain ⟨r, p, l, rfl, _⟩ := h
      rfl
    · obtain ⟨r, p, l, _, _, _, hn, _⟩ := h
      have := r.sz_pos
      omega
  | n + 1 => by
    have G_law_bad := g_lb tx n
    have G_law_word_lies := g_law_word_lies (P := P) (w := w) (base := base) tx
    refine FnG.mono (j := (3 + n) + 1) (tx.f_law_bad.g sc_law_bad (fun _ _ _ _ _ _ us hl => match us, hl with | [_, _], _ => rfl) (fun vs H Q E h => ?_) (fun f cdv A outer s H vs Q E hr h => ?_)) (by omega)
    · obtain ⟨r, p, l, rfl, _⟩ := h
      rfl
    · obtain ⟨r, p, l, rfl, hR, ho, hz, hl, q⟩ := h
      refine ⟨_, (pss_cons (ps_if (pt_cmpR op_eq (pe_ix (ix_tupK (K := K) rfl) (pv 0) pe_int (fun _ _ => rfl)) (pe_txt (l := [110, 101, 118, 101, 114]) (by decide +kernel)) (nomark _)) (pss_one (ps_ret (pe_fn G_law_word_lies (hr.mono (by omega)) (pa_cons (pe_ix (ix_tupK (K := K) rfl) (pv 0) pe_int (fun _ _ => rfl)) (pa_cons (pv 1) pa_nil))))) pss_nil)
      (pss_cons (ps_if (pt_cmpR op_eq (pe_ix (ix_tupK (K := K) rfl) (pv 0) pe_int (fun _ _ => rfl)) (pe_txt (l := [110, 111, 116]) (by decide +kernel)) (nomark _)) (pss_one (ps_ret (pe_not (pe_fn G_law_bad (hr.mono (by omega)) (pa_cons (pe_ix (ix_tupK (K := K) rfl) (pv 0) pe_int (fun _ _ => rfl)) (pa_cons (pv 1) pa_nil)))))) pss_nil)
      (pss_cons (ps_if (pt_cmpR op_eq (pe_ix (ix_tupK (K := K) rfl) (pv 0) pe_int (fun _ _ => rfl)) (pe_txt (l := [98, 111, 116, 104]) (by decide +kernel)) (nomark _)) (pss_one (ps_ret (pe_or (pe_fn G_law_bad (hr.mono (by omega)) (pa_cons (pe_ix (ix_tupK (K := K) rfl) (pv 0) pe_int (fun _ _ => rfl)) (pa_cons (pv 1) pa_nil))) (pe_one (pe_fn G_law_bad (hr.mono (by omega)) (pa_cons (pe_ix (ix_tupK (K := K) rfl) (pv 0) pe_int (fun _ _ => rfl)) (pa_cons (pv 1) pa_nil))))))) pss_nil)
      (pss_cons (ps_if (pt_cmpR op_eq (pe_ix (ix_tupK (K := K) rfl) (pv 0) pe_int (fun _ _ => rfl)) (pe_txt (l := [101, 105, 116, 104, 101, 114]) (by decide +kernel)) (nomark _)) (pss_one (ps_ret (pe_and (pe_fn G_law_bad (hr.mono (by omega)) (pa_cons (pe_ix (ix_tupK (K := K) rfl) (pv 0) pe_int (fun _ _ => rfl)) (pa_cons (pv 1) pa_nil))) (pe_one (pe_fn G_law_bad (hr.mono (by omega)) (pa_cons (pe_ix (ix_tupK (K := K) rfl) (pv 0) pe_int (fun _ _ => rfl)) (pa_cons (pv 1) pa_nil))))))) pss_nil)
      (pss_cons (ps_set (i := 2) sc_law_bad.nd rfl (Or.inl rfl) pe_int)
      (pss_cons (ps_for PassesOwn.never rfl (pi_range2 rfl tx.z_range (pa_cons pe_int (pa_cons (pe_op op_add pe_int (pe_callB (call_min2 rfl) rfl tx.z_min bt_min (pa_cons (pe_ix (ix_tupK (K := K) rfl) (pv 0) pe_int (fun _ _ => rfl)) (pa_cons (pe_callB call_lenS rfl tx.z_len PySem.boot_len (pa_cons (pv 1) pa_nil)) pa_nil)))) pa_nil))) (pg_name (i := 3) sc_law_bad.nd rfl (Or.inl rfl)) (pss_cons (ps_set (i := 4) sc_law_bad.nd rfl (Or.inl rfl) (pe_ix ix_txt (pv 1) (pe_op op_sub (pe_callB call_lenS rfl tx.z_len PySem.boot_len (pa_cons (pv 1) pa_nil)) (pv 3)) (fun _ _ => rfl)))
      (pss_one (ps_if (PW.pt (pw_or (pt_cmpR op_inS (pv 4) (pe_ix (ix_tupK (K := K) rfl) (pv 0) pe_int (fun _ _ => rfl)) rfl) (pw_or1 (PW.pt (pw_and (pt_cmpR op_ne (pv 4) (pe_txt (l := [45]) (by decide +kernel)) (nomark _)) (pw_and1 (pt_cmpR op_inS (pe_txt (l := [35]) (by decide +kernel)) (pe_ix (ix_tupK (K := K) rfl) (pv 0) pe_int (fun _ _ => rfl)) rfl))))))) (pss_one (ps_set (i := 2) sc_law_bad.nd rfl (Or.inl rfl) (pe_op op_add (pv 2) pe_int))) pss_nil))))
      (pss_cons (ps_if (pt_cmpR op_eq (pe_ix (ix_tupK (K := K) rfl) (pv 0) pe_int (fun _ _ => rfl)) (pe_txt (l := [109, 111, 115, 116]) (by decide +kernel)) (nomark _)) (pss_one (ps_ret (pe_cmpR op_gt (pv 2) (pe_ix (ix_tupK (K := K) rfl) (pv 0) pe_int (fun _ _ => rfl)) (nomark _)))) pss_nil)
      (pss_one (ps_ret (pe_and (pe_cmpR op_ge (pe_callB call_lenS rfl tx.z_len PySem.boot_len (pa_cons (pv 1) pa_nil)) (pe_ix (ix_tupK (K := K) rfl) (pv 0) pe_int (fun _ _ => rfl)) (nomark _)) (pe_one (pe_cmpR op_lt (pv 2) (pe_ix (ix_tupK (K := K) rfl) (pv 0) pe_int (fun _ _ => rfl)) (nomark _))))))))))))), ?_⟩
      walk_at "st"
      cases r with
      | nev wd =>
        have ob : H p = some (.tup [T wNever, T wd]) := hR
        have e0 : atI [T wNever, T wd] (0 : Int) = some (T wNever) := by simp [atI, ixN]
        have e1 : atI [T wNever, T wd] (1 : Int) = some (T wd) := by simp [atI, ixN]
        obtain ⟨w1, w2⟩ := goodW_len ho
        clear hR
        walk_at "rd"
        exact q
      | neg i =>
        obtain ⟨a, ob, ha⟩ := hR
        have ob' : H p = some (.tup [T wNot, .ref a]) := ob
        have e0 : atI [T wNot, .ref a] (0 : Int) = some (T wNot) := by simp [atI, ixN]
        have e1 : atI [T wNot, .ref a] (1 : Int) = some (.ref a) := by simp [atI, ixN]
        have z1 : i.sz + 1 ≤ n + 1 := hz
        have oi : i.ok := ho
        clear ob
        walk_at "rd"
        exact q
      | both x y =>
        obtain ⟨a, b, ob, ha, hb⟩ := hR
        have ob' : H p = some (.tup [T wBoth, .ref a, .ref b]) := ob
        have e0 : atI [T wBoth, .ref a, .ref b] (0 : Int) = some (T wBoth) := by simp [atI, ixN]
        have e1 : atI [T wBoth, .ref a, .ref b] (1 : Int) = some (.ref a) := by simp [atI, ixN]
        have e2 : atI [T wBoth, .ref a, .ref b] (2 : Int) = some (.ref b) := by simp [atI, ixN]
        have z1 : x.sz + y.sz + 1 ≤ n + 1 := hz
        obtain ⟨ox, oy⟩ : x.ok ∧ y.ok := ho
        have q' : Q (.bl (x.bad l || y.bad l)) H := q
        clear ob q
        walk_at "rd"
        refine ite2 (fun c => ?_) (fun c => ?_)
        · rw [c, Bool.true_or] at q'
          walk_at "rd"
          exact q'
        · rw [Bool.eq_false_iff.mpr c, Bool.false_or] at q'
          walk_at "rd"
          exact q'
      | either x y =>
        obtain ⟨a, b, ob, ha, hb⟩ := hR
        have ob' : H p = some (.tup [T wEither, .ref a, .ref b]) := ob
        have e0 : atI [T wEither, .ref a, .ref b] (0 : Int) = some (T wEither) := by simp [atI, ixN]
        have e1 : atI [T wEither, .ref a, .ref b] (1 : Int) = some (.ref a) := by simp [atI, ixN]
        have e2 : atI [T wEither, .ref a, .ref b] (2 : Int) = some (.ref b) := by simp [atI, ixN]
        have z1 : x.sz + y.sz + 1 ≤ n + 1 := hz
        obtain ⟨ox, oy⟩ : x.ok ∧ y.ok := ho
        have q' : Q (.bl (x.bad l && y.bad l)) H := q
        clear ob q
        walk_at "rd"
        refine ite2 (fun c => ?_) (fun c => ?_)
        · rw [c, Bool.true_and] at q'
          walk_at "rd"
          exact q'
        · rw [Bool.eq_false_iff.mpr c, Bool.false_and] at q'
          walk_at "rd"
          exact q'
      | most a m d =>
        obtain ⟨⟨n0, n1⟩, ⟨d0, d1⟩, hm⟩ := ho
        have h63 := goodM_63 hm
        obtain ⟨m1, m2⟩ := goodM_len hm
        have ob : H p = some (.tup [T wMost, .int a, T m, .int d]) := hR
        have e0 : atI [T wMost, .int a, T m, .int d] (0 : Int) = some (T wMost) := by simp [atI, ixN]
        have e1 : atI [T wMost, .int a, T m, .int d] (1 : Int) = some (.int a) := by simp [atI, ixN]
        have e2 : atI [T wMost, .int a, T m, .int d] (2 : Int) = some (T m) := by simp [atI, ixN]
        have e3 : atI [T wMost, .int a, T m, .int d] (3 : Int) = some (.int d) := by simp [atI, ixN]
        have q' : Q (.bl (decide (a < (cntV m (l.drop (l.length - d.toNat)) : Int)))) H := q
        clear hR q
        have mn : 1 ≤ 1 + (if (l.length : Int) < d then (l.length : Int) else d) ∧ 1 + (if (l.length : Int) < d then (l.length : Int) else d) ≤ 8 := by split <;> omega
        obtain ⟨mn0, mn1⟩ := mn
        walk_at "rd"
        refine for_range (lo := 1) (n := (1 + (if (l.length : Int) < d then (l.length : Int) else d) - 1).toNat) (fun i σ H2 => Here (∃ v1 v2, σ = [some (.ref p), some (T l), some (.int (cntV m (l.drop (l.length - i)) : Int)), v1, v2] ∧ H2 = H)) (Here.mk ⟨none, none, by rw [Nat.sub_zero, List.drop_length]; rfl, rfl⟩) ?_ ?_
        · rintro i σ H2 hi hv
          obtain ⟨v1, v2, rfl, eH⟩ := hv.out
          rw [eH]
          have il : i < l.length := by split at hi <;> omega
          obtain ⟨c, hc, hc2⟩ := at_some l ((l.length : Int) - (1 + (i : Int))) (by omega) (by omega)
          rw [show ((l.length : Int) - (1 + (i : Int))).toNat = l.length - 1 - i by omega] at hc2
          have st := cnt_step (m := m) il hc2
          rw [let_law h63] at st
          have yes : (decide (c ∈ m) || (!decide (c = 45) && decide (35 ∈ m))) = true → ((cntV m (l.drop (l.length - (i + 1))) : Nat) : Int) = (cntV m (l.drop (l.length - i)) : Int) + 1 := fun z => by
            rw [st, if_pos z]
            rfl
          have nope : (decide (c ∈ m) || (!decide (c = 45) && decide (35 ∈ m))) = false → ((cntV m (l.drop (l.length - (i + 1))) : Nat) : Int) = (cntV m (l.drop (l.length - i)) : Int) := fun z => by
            rw [st, if_neg (by rw [z]; exact Bool.false_ne_true)]
            rfl
          clear mn0 mn1 st
          walk_at "rd"
          refine ite2 (fun c1 => ?_) (fun c1 => ?_)
          · have e9 := yes (by rw [c1, Bool.true_or])
            walk_at "rd"
            refine Here.mk ⟨some (.int (1 + (i : Int))), some (T [c]), ?_, rfl⟩
            rw [e9]
          · rw [Bool.eq_false_iff.mpr c1, Bool.false_or] at yes nope
            walk_at "rd"
            refine ite2 (fun c2 => ?_) (fun c2 => ?_)
            · have c2' : decide (c = 45) = false := decide_eq_false fun z => by rw [z] at c2; exact absurd c2 (by decide)
              rw [c2', Bool.not_false, Bool.true_and] at yes nope
              walk_at "rd"
              refine ite2 (fun c3 => ?_) (fun c3 => ?_)
              · have e9 := yes c3
                walk_at "rd"
                refine Here.mk ⟨some (.int (1 + (i : Int))), some (T [c]), ?_, rfl⟩
                rw [e9]
              · have e9 := nope (Bool.eq_false_iff.mpr c3)
                walk_at "rd"
                refine Here.mk ⟨some (.int (1 + (i : Int))), some (T [c]), ?_, rfl⟩
                rw [e9]
            · have c2' : decide (c = 45) = true := decide_eq_true (Classical.byContradiction fun z => c2 (by rw [T_eq, decide_eq_false (fun y => z (by simpa using y))]; rfl))
              have e9 := nope (by rw [c2', Bool.not_true, Bool.false_and])
              walk_at "rd"
              refine Here.mk ⟨some (.int (1 + (i : Int))), some (T [c]), ?_, rfl⟩
              rw [e9]
        · rintro σ H2 hv
          obtain ⟨v1, v2, rfl, eH⟩ := hv.out
          rw [eH]
          have el : l.length - (1 + (if (l.length : Int) < d then (l.length : Int) else d) - 1).toNat = l.length - d.toNat := by split <;> omega
          rw [el]
          walk_at "rd"
          exact q'
      | least a m d =>
        obtain ⟨⟨n0, n1⟩, ⟨d0, d1⟩, hm⟩ := ho
        have h63 := goodM_63 hm
        obtain ⟨m1, m2⟩ := goodM_len hm
        have ob : H p = some (.tup [T wLeast, .int a, T m, .int d]) := hR
        have e0 : atI [T wLeast, .int a, T m, .int d] (0 : Int) = some (T wLeast) := by simp [atI, ixN]
        have e1 : atI [T wLeast, .int a, T m, .int d] (1 : Int) = some (.int a) := by simp [atI, ixN]
        have e2 : atI [T wLeast, .int a, T m, .int d] (2 : Int) = some (T m) := by simp [atI, ixN]
        have e3 : atI [T wLeast, .int a, T m, .int d] (3 : Int) = some (.int d) := by simp [atI, ixN]
        have q' : Q (.bl (leastB a m d l)) H := q
        unfold leastB at q'
        clear hR q
        have mn : 1 ≤ 1 + (if (l.length : Int) < d then (l.length : Int) else d) ∧ 1 + (if (l.length : Int) < d then (l.length : Int) else d) ≤ 8 := by split <;> omega
        obtain ⟨mn0, mn1⟩ := mn
        walk_at "rd"
        refine for_range (lo := 1) (n := (1 + (if (l.length : Int) < d then (l.length : Int) else d) - 1).toNat) (fun i σ H2 => Here (∃ v1 v2, σ = [some (.ref p), some (T l), some (.int (cntV m (l.drop (l.length - i)) : Int)), v1, v2] ∧ H2 = H)) (Here.mk ⟨none, none, by rw [Nat.sub_zero, List.drop_length]; rfl, rfl⟩) ?_ ?_
        · rintro i σ H2 hi hv
          obtain ⟨v1, v2, rfl, eH⟩ := hv.out
          rw [eH]
          have il : i < l.length := by split at hi <;> omega
          obtain ⟨c, hc, hc2⟩ := at_some l ((l.length : Int) - (1 + (i : Int))) (by omega) (by omega)
          rw [show ((l.length : Int) - (1 + (i : Int))).toNat = l.length - 1 - i by omega] at hc2
          have st := cnt_step (m := m) il hc2
          rw [let_law h63] at st
          have yes : (decide (c ∈ m) || (!decide (c = 45) && decide (35 ∈ m))) = true → ((cntV m (l.drop (l.length - (i + 1))) : Nat) : Int) = (cntV m (l.drop (l.length - i)) : Int) + 1 := fun z => by
            rw [st, if_pos z]
            rfl
          have nope : (decide (c ∈ m) || (!decide (c = 45) && decide (35 ∈ m))) = false → ((cntV m (l.drop (l.length - (i + 1))) : Nat) : Int) = (cntV m (l.drop (l.length - i)) : Int) := fun z => by
            rw [st, if_neg (by rw [z]; exact Bool.false_ne_true)]
            rfl
          clear mn0 mn1 st
          walk_at "rd"
          refine ite2 (fun c1 => ?_) (fun c1 => ?_)
          · have e9 := yes (by rw [c1, Bool.true_or])
            walk_at "rd"
            refine Here.mk ⟨some (.int (1 + (i : Int))), some (T [c]), ?_, rfl⟩
            rw [e9]
          · rw [Bool.eq_false_iff.mpr c1, Bool.false_or] at yes nope
            walk_at "rd"
            refine ite2 (fun c2 => ?_) (fun c2 => ?_)
            · have c2' : decide (c = 45) = false := decide_eq_false fun z => by rw [z] at c2; exact absurd c2 (by decide)
              rw [c2', Bool.not_false, Bool.true_and] at yes nope
              walk_at "rd"
              refine ite2 (fun c3 => ?_) (fun c3 => ?_)
              · have e9 := yes c3
                walk_at "rd"
                refine Here.mk ⟨some (.int (1 + (i : Int))), some (T [c]), ?_, rfl⟩
                rw [e9]
              · have e9 := nope (Bool.eq_false_iff.mpr c3)
                walk_at "rd"
                refine Here.mk ⟨some (.int (1 + (i : Int))), some (T [c]), ?_, rfl⟩
                rw [e9]
            · have c2' : decide (c = 45) = true := decide_eq_true (Classical.byContradiction fun z => c2 (by rw [T_eq, decide_eq_false (fun y => z (by simpa using y))]; rfl))
              have e9 := nope (by rw [c2', Bool.not_true, Bool.false_and])
              walk_at "rd"
              refine Here.mk ⟨some (.int (1 + (i : Int))), some (T [c]), ?_, rfl⟩
              rw [e9]
        · rintro σ H2 hv
          obtain ⟨v1, v2, rfl, eH⟩ := hv.out
          rw [eH]
          have el : l.length - (1 + (if (l.length : Int) < d then (l.length : Int) else d) - 1).toNat = l.length - d.toNat := by split <;> omega
          rw [el]
          walk_at "rd"
          refine ite2 (fun c => ?_) (fun c => ?_)
          · have c' : d ≤ (l.length : Int) := of_decide_eq_true c
            rw [if_neg (by omega)] at q'
            walk_at "rd"
            exact q'
          · have c' : ¬ d ≤ (l.length : Int) := fun z => c (decide_eq_true z)
            rw [if_pos (by omega)] at q'
            walk_at "rd"
            exact q'
end

/-! ### bad days -/
def dayB (r : R) (past row : List Nat) (d : Nat) : Bool := r.bad (past ++ row.take (d + 1))
def badL (r : R) (past row : List Nat) : List Nat := (List.range row.length).filter (dayB r past row)
def dL (ds : List Nat) : List V := (ds.map fun (d : Nat) => (d : Int)).map V.int
theorem eq_dL (a b : List Nat) : eqVs (dL a) (dL b) = decide (a = b) := by
  unfold dL
  rw [eqVs_int]
  by_cases h : a = b
  · subst h; simp
  · rw [decide_eq_false h, decide_eq_false]
    intro e
    refine h (List.ext_getElem? fun i => ?_)
    have := congrArg (fun l => l[i]?) e
    simp only [List.getElem?_map] at this
    cases h1 : a[i]? with
    | none => cases h2 : b[i]? with
      | none => rfl
      | some y => rw [h1, h2] at this; cases this
    | some x => cases h2 : b[i]? with
      | none => rw [h1, h2] at this; cases this
      | some y =>
        rw [h1, h2] at this
        have : (x : Int) = (y : Int) := Option.some.inj this
        congr 1
        omega
theorem flat_dL (ds : List Nat) : (dL ds).all flatV = true := flat_int _
def sp_days (c6 : Cs) : Sp := fun vs H Q _ => ∃ p past row r, vs = [.ref p, T past, T row] ∧ RuleAt c6 H r p ∧ r.depth ≤ 23 ∧ past.length ≤ 300 ∧ row.length ≤ 300 ∧ ∀ D H', Same H H' → H D = none → H' D = some (.lst (dL (badL r past row))) → Q (.ref D) H'
section
variable {P : Program} {w : World} {K : PySem.W.Frag} {mg : Str → Option Value} {base : Heap} {C_Never C_Most C_Least C_Both C_Either C_Not : Addr}

theorem g_bad_days (tx : Tx K mg C_Never C_Most C_Least C_Both C_Either C_Not) : FnG P w K mg base "bad_days" 30 ["rule", "past", "row"] (sp_days (cs6 C_Never C_Most C_Least C_Both C_Either C_Not)) := by
  refine tx.f_bad_days.g sc_bad_days (fun _ _ _ _ _ _ us hl => match us, hl with | [_, _, _], _ => rfl) (fun vs H Q E h => ?_) (fun f cdv A outer s H vs Q E hr h => ?_)
  · obtain ⟨p, past, row, r, rfl, _⟩ := h
    rfl
  · obtain ⟨p, past, row, r, rfl, hR, hd, hp, hw, q⟩ := h
    refine ⟨_, (pss_one (ps_ret (pe_comp (osc := defScope s_bad_days) (ON := ["rule", "past", "row"]) (N := ["day", "rule", "past", "row"]) (js := [none, some 0, some 1, some 2]) ⟨rfl, by decide +kernel, by decide +kernel, by decide +kernel, rfl, by decide +kernel⟩ rfl rfl rfl (pi_range1 rfl tx.z_range (pa_cons (pe_callB call_lenS rfl tx.z_len PySem.boot_len (pa_cons (pv 2) pa_nil)) pa_nil)) (fun _ _ _ _ _ => pg_name (i := 0) (show List.Nodup (["day", "rule", "past", "row"] : List Str) from by decide +kernel) rfl (Or.inl rfl)) (fun _ _ _ _ _ => pifs_one (pt_val (pe_mtD (P := P) (w := w) (K := K) (mg := mg) (base := base) hr (pv 1) (pa_cons (pe_op op_catS (pv 2) (pe_slice sl_txt (pv 3) po_none (po_some (pe_op op_add (pv 0) pe_int)))) pa_nil) rfl rfl rfl rfl rfl))) (fun _ _ _ _ _ => (pv 0))))), ?_⟩
    walk_at "st"
    have Gb := g_bad (P := P) (w := w) (base := base) tx r
    walk_at "rd"
    refine comp_by (fun x => match x with | .int d => dayB r past row d.toNat | _ => false) (fun x => x) (hands_range 0 (row.length : Int).toNat) ?_ (fun x hx H' s' R hR' => ?_) (fun x hx hp H' s' R hR' => ?_) (fun D H' hD s' hDD => ?_)
    · rw [List.length_map, List.length_range]; omega
    · obtain ⟨k, hk, rfl⟩ := List.mem_map.mp hx
      have hk := List.mem_range.mp hk
      have rp := hR.same s'
      obtain ⟨dx, fs, ob, nb, _⟩ := rp.obj
      have hcl := cut_len row none (some (0 + (k : Int) + 1))
      have e : cutN row none (some (0 + (k : Int) + 1)) = row.take (((0 : Int) + (k : Int)).toNat + 1) := by
        rw [cut_to _ _ (by omega), show (0 + (k : Int) + 1).toNat = (0 + (k : Int)).toNat + 1 by omega]
      walk_at "rd"
      intro H2 s2
      walk_at "rd"
      have q2 := hR' H2 s2
      show R (r.bad (past ++ cutN row none (some (0 + (k : Int) + 1)))) H2
      rw [e]
      exact q2
    · walk_at "rd"
      exact hR' H' (Same.refl _)
    refine q D H' s' hD ?_
    rw [hDD]
    congr 2
    rw [List.map_id', List.filter_map]
    unfold dL badL
    rw [List.map_map]
    have e : (fun (d : Nat) => (V.int ((d : Int)))) = fun (i : Nat) => V.int (0 + (i : Int)) := by funext i; rw [Int.zero_add]
    show List.map _ _ = List.map (fun d : Nat => V.int (d : Int)) _
    rw [e, Int.toNat_natCast]
    congr 1
    refine List.filter_congr fun d _ => ?_
    show dayB r past row (0 + (d : Int)).toNat = dayB r past row d
    congr 1
    omega
end

theorem TxW.out {r : R} {t : List Nat} (x : TxW 2 r t) : Rds 2 (splitN 32 t) r ∧ wcN r.tx ≤ wcN t := by
  refine ⟨x.rd, ?_⟩
  have h := x.wc
  rw [wc_brT, decide_eq_false (by have := R.lvl2 r; omega), if_neg Bool.false_ne_true] at h
  exact h
section
variable {P : Program} {w : World} {K : PySem.W.Frag} {mg : Str → Option Value} {base : Heap} {C_Never C_Most C_Least C_Both C_Either C_Not : Addr}

theorem g_law_cell_at (tx : Tx K mg C_Never C_Most C_Least C_Both C_Either C_Not) : FnG P w K mg base "_law_cell_at" 1 ["_law_script", "_law_k"] (sp_cell K) := by
  refine tx.f_law_cell_at.g sc_law_cell_at (fun _ _ _ _ _ _ us hl => match us, hl with | [_, _], _ => rfl) (fun vs H Q E h => ?_) (fun f cdv A outer s H vs Q E hr h => ?_)
  · obtain ⟨a, ns, k, rfl, _⟩ := h
    rfl
  · obtain ⟨a, ns, k, rfl, hS, h0, q⟩ := h
    refine ⟨_, (pss_cons (ps_if (pt_cmpR op_lt (pv 1) (pe_callB (call_len_seqK (K := K) rfl) rfl tx.z_len PySem.boot_len (pa_cons (pv 0) pa_nil)) (nomark _)) (pss_one (ps_ret (pe_ix (ix_listK (K := K) rfl) (pv 0) (pv 1) (fun _ _ => rfl)))) pss_nil)
      (pss_one (ps_ret pe_int))), ?_⟩
    walk_at "st"
    refine ⟨_, rfl, _, rfl, a, _, rfl, .inl hS, _, _, rfl, rfl, _, rfl, ?_⟩
    refine ite2 (fun c => ?_) (fun c => ?_)
    · have c' : k < ((ns.map V.int).length : Int) := of_decide_eq_true c
      rw [List.length_map] at c'
      obtain ⟨v, hv, _⟩ := at_some (ns.map V.int) k h0 (by rw [List.length_map]; exact c')
      have hv' : ∃ z, v = .int z := by
        obtain ⟨_, hm⟩ := at_some (ns.map V.int) k h0 (by rw [List.length_map]; exact c')
        rw [hv] at hm
        obtain ⟨e1, e2⟩ := hm
        cases e1
        rw [List.getElem?_map] at e2
        cases h : ns[k.toNat]? with
        | none => rw [h] at e2; cases e2
        | some z => rw [h] at e2; exact ⟨z, (Option.some.inj e2).symm⟩
      obtain ⟨z, rfl⟩ := hv'
      exact ⟨_, rfl, _, rfl, a, _, _, _, rfl, rfl, hS, hv, q z⟩
    · exact q 0


theorem law_ok {f : Addr} {fd : FuncData} (tx : Tx K mg C_Never C_Most C_Least C_Both C_Either C_Not) (F : Fun K "law" "law" s_law f fd) : FnOk P w K mg base CX0 90 f fd ["_law_script"] (sp_law K) := by
  have G_law_cell_at := g_law_cell_at (P := P) (w := w) (base := base) tx
  have G_law_letters := g_law_letters (P := P) (w := w) (base := base) tx
  have G_law_tree := g_law_tree (P := P) (w := w) (base := base) tx
  have G_law_text := g_lt (P := P) (w := w) (base := base) tx 24
  have G_law_within := g_lw (P := P) (w := w) (base := base) tx G_law_text
  have G_law_bad := g_lb (P := P) (w := w) (base := base) tx 24
  have G_read_rule := g_read_rule (P := P) (w := w) (base := base) tx
  have G_bad_days := g_bad_days (P := P) (w := w) (base := base) tx
  refine F.ok sc_law (fun vs H Q E h => ?_) (fun cdv A outer s H vs Q E hr h => ?_)
  · obtain ⟨a, ns, rfl, _⟩ := h
    rfl
  · obtain ⟨sc, ns, rfl, hS, hns, q⟩ := h
    refine ⟨_, (pss_cons (ps_set (i := 1) sc_law.nd rfl (Or.inr rfl) (pe_fn G_law_letters (hr.mono (by decide)) (pa_cons (pe_fn G_law_cell_at (hr.mono (by decide)) (pa_cons (pv 0) (pa_cons pe_int pa_nil))) pa_nil)))
      (pss_cons (ps_set (i := 2) sc_law.nd rfl (Or.inr rfl) (pe_fn G_law_tree (hr.mono (by decide)) (pa_cons (pe_slice (sl_listK (K := K) rfl) (pv 0) (po_some pe_int) (po_some pe_int)) (pa_cons (pv 1) pa_nil))))
      (pss_cons (ps_set (i := 3) sc_law.nd rfl (Or.inl rfl) (pe_op op_mod (pe_fn G_law_cell_at (hr.mono (by decide)) (pa_cons (pv 0) (pa_cons pe_int pa_nil))) pe_int))
      (pss_cons (ps_cut (ps_if (pt_cmpR op_eq (pe_op op_mod (pe_fn G_law_cell_at (hr.mono (by decide)) (pa_cons (pv 0) (pa_cons pe_int pa_nil))) pe_int) pe_int (nomark _)) (pss_one (ps_set (i := 3) sc_law.nd rfl (Or.inl rfl) (pe_un un_neg pe_int))) pss_nil))
      (pss_cons (ps_set (i := 4) sc_law.nd rfl (Or.inl rfl) (pe_fn G_law_within (hr.mono (by decide)) (pa_cons (pv 2) (pa_cons pe_int (pa_cons (pv 3) pa_nil)))))
      (pss_cons (ps_cut (ps_if (pt_cmpR op_gt (pe_callB (call_len_seqK (K := K) rfl) rfl tx.z_len PySem.boot_len (pa_cons (pe_splitK (K := K) rfl (pv 4) (pa_cons (pe_txt (l := [32]) (by decide +kernel)) pa_nil)) pa_nil)) pe_int (nomark _)) (pss_one (ps_set (i := 4) sc_law.nd rfl (Or.inl rfl) (pe_fn G_law_text (hr.mono (by decide)) (pa_cons (pv 2) (pa_cons (pe_un un_neg pe_int) pa_nil))))) pss_nil))
      (pss_cons (ps_if (pt_cmpR op_gt (pe_callB (call_len_seqK (K := K) rfl) rfl tx.z_len PySem.boot_len (pa_cons (pe_splitK (K := K) rfl (pv 4) (pa_cons (pe_txt (l := [32]) (by decide +kernel)) pa_nil)) pa_nil)) pe_int (nomark _)) (pss_one (ps_ret pe_bl)) pss_nil)
      (pss_cons (ps_set (i := 5) sc_law.nd rfl (Or.inr rfl) (pe_fn G_law_cell_at (hr.mono (by decide)) (pa_cons (pv 0) (pa_cons pe_int pa_nil))))
      (pss_cons (ps_set (i := 6) sc_law.nd rfl (Or.inr rfl) (pe_joinK (K := K) rfl (pe_txt (l := []) (by decide +kernel)) (pa_cons (pe_comp (osc := defScope s_law) (ON := ["_law_script", "_law_two", "_law_tree_here", "_law_extra", "_law_text_here", "_law_cell", "_law_past", "_law_row", "_law_due", "_law_rule"]) (N := ["_law_k", "_law_two", "_law_cell"]) (js := [none, some 1, some 5]) ⟨rfl, by decide +kernel, by decide +kernel, by decide +kernel, rfl, by decide +kernel⟩ rfl rfl rfl (pi_range1 rfl tx.z_range (pa_cons (pe_op op_mod (pv 5) pe_int) pa_nil)) (fun _ _ _ _ _ => pg_name (i := 0) (show List.Nodup (["_law_k", "_law_two", "_law_cell"] : List Str) from by decide +kernel) rfl (Or.inl rfl)) (fun _ _ _ _ _ => pifs_nil) (fun _ _ _ _ _ => (pe_ix ix_txt (pe_op op_catS (pe_txt (l := [45, 45]) (by decide +kernel)) (pv 1)) (pe_op op_and (pe_op op_shr (pe_op op_fdiv (pv 2) pe_int) (pe_op op_mul pe_int (pv 0))) pe_int) (fun _ _ => rfl)))) pa_nil)))
      (pss_cons (ps_set (i := 7) sc_law.nd rfl (Or.inr rfl) (pe_joinK (K := K) rfl (pe_txt (l := []) (by decide +kernel)) (pa_cons (pe_comp (osc := defScope s_law) (ON := ["_law_script", "_law_two", "_law_tree_here", "_law_extra", "_law_text_here", "_law_cell", "_law_past", "_law_row", "_law_due", "_law_rule"]) (N := ["_law_number", "_law_two"]) (js := [none, some 1]) ⟨rfl, by decide +kernel, by decide +kernel, by decide +kernel, rfl, by decide +kernel⟩ rfl rfl rfl (pi_listK (K := K) rfl (pe_slice (sl_listK (K := K) rfl) (pv 0) (po_some pe_int) (po_some pe_int))) (fun _ _ _ _ _ => pg_name (i := 0) (show List.Nodup (["_law_number", "_law_two"] : List Str) from by decide +kernel) rfl (Or.inl rfl)) (fun _ _ _ _ _ => pifs_nil) (fun _ _ _ _ _ => (pe_ix ix_txt (pe_op op_catS (pe_op op_catS (pe_txt (l := [45, 45]) (by decide +kernel)) (pv 1)) (pe_ix ix_txt (pv 1) pe_int (fun _ _ => rfl))) (pe_op op_mod (pv 0) pe_int) (fun _ _ => rfl)))) pa_nil)))
      (pss_cons (ps_setC (k := 8) (osc := defScope s_law) (ON := ["_law_script", "_law_two", "_law_tree_here", "_law_extra", "_law_text_here", "_law_cell", "_law_past", "_law_row", "_law_due", "_law_rule"]) (N := ["_law_day", "_law_tree_here", "_law_past", "_law_row"]) (js := [none, some 2, some 6, some 7]) sc_law.nd rfl (Or.inl rfl) ⟨rfl, by decide +kernel, by decide +kernel, by decide +kernel, rfl, by decide +kernel⟩ rfl rfl rfl (pi_range1 rfl tx.z_range (pa_cons (pe_callB call_lenS rfl tx.z_len PySem.boot_len (pa_cons (pv 7) pa_nil)) pa_nil)) (fun _ _ _ _ _ => pg_name (i := 0) (show List.Nodup (["_law_day", "_law_tree_here", "_law_past", "_law_row"] : List Str) from by decide +kernel) rfl (Or.inl rfl)) (fun _ _ _ _ _ => pifs_one (pt_val (pe_fn G_law_bad (hr.mono (by decide)) (pa_cons (pv 1) (pa_cons (pe_op op_catS (pv 2) (pe_slice sl_txt (pv 3) po_none (po_some (pe_op op_add (pv 0) pe_int)))) pa_nil))))) (fun _ _ _ _ _ => (pv 0)))
      (pss_cons (ps_set (i := 9) sc_law.nd rfl (Or.inl rfl) (pe_fn G_read_rule (hr.mono (by decide)) (pa_cons (pv 4) pa_nil)))
      (pss_one (ps_ret (pe_and (pe_cmpR (op_eqL (K := K) rfl hr.units0) (pe_fn G_bad_days (hr.mono (by decide)) (pa_cons (pv 9) (pa_cons (pv 6) (pa_cons (pv 7) pa_nil)))) (pv 8) (nomark _)) (pe_one (pe_cmpR (op_eqL (K := K) rfl hr.units0) (pe_fn G_bad_days (hr.mono (by decide)) (pa_cons (pe_fn G_read_rule (hr.mono (by decide)) (pa_cons (pe_mt0D (P := P) (w := w) (K := K) (mg := mg) (base := base) hr (pv 9) rfl rfl rfl rfl rfl) pa_nil)) (pa_cons (pv 6) (pa_cons (pv 7) pa_nil)))) (pv 8) (nomark _)))))))))))))))))), ?_⟩
    walk_at "st"
    walk_at "rd"
    intro v0
    walk_at "rd"
    intro a b ua ub
    walk_at "rd"
    intro p1 hp1
    obtain ⟨H1, e1, hp1', s1⟩ := nwl (xs := cutV (ns.map V.int) (some 4) (some 16)) hp1
    rw [← e1]
    clear e1
    have l1 : (cutN ns (some 4) (some 16)).length ≤ 12 := cut_span ns 4 16
    have q1 : SqL K H1 p1 ((cutN ns (some 4) (some 16)).map V.int) := by rw [← cutV_map]; exact SqL.of hp1'
    have u2 : upS [a, b] := ⟨rfl, fun c hc => by
      simp only [List.mem_cons, List.not_mem_nil, or_false] at hc
      rcases hc with rfl | rfl
      · exact ua
      · exact ub⟩
    walk_at "rd"
    intro r tp H2 ro rz s2 rt
    have hS2 := (s1.trans s2).seq hS
    clear q1 hp1'
    walk_at "rd"
    intro v1
    walk_at "rd"
    refine tCut.mk (fun σ' H' => Here (∃ e, σ' = [some (.ref sc), some (T [a, b]), some (.ref tp), some (.int e), none, none, none, none, none, none] ∧ H' = H2)) ?_ ?_
    · walk_at "rd"
      intro v2
      walk_at "rd"
      refine ite2 (fun _ => ?_) (fun _ => ?_)
      · walk_at "rd"
        exact Here.mk ⟨_, rfl, rfl⟩
      · exact Here.mk ⟨_, rfl, rfl⟩
    rintro σ' H' hv
    obtain ⟨e, rfl, eH⟩ := hv.out
    rw [eH]
    clear eH hv
    walk_at "rd"
    intro t xt _
    have tl0 := xt.ln
    have tl : t.length ≤ 964 := by omega
    obtain ⟨rd1, wc1⟩ := TxW.out xt
    clear xt tl0
    walk_at "rd"
    refine tCut.mk (fun σ' H' => Here (∃ t, σ' = [some (.ref sc), some (T [a, b]), some (.ref tp), some (.int e), some (T t), none, none, none, none, none] ∧ Rds 2 (splitN 32 t) r ∧ wcN r.tx ≤ wcN t ∧ t.length ≤ 964 ∧ Same H2 H')) ?_ ?_
    · walk_at "rd"
      intro p2 hp2
      obtain ⟨H3, e3, hp3, s3⟩ := nwl (xs := (splitN 32 t).map T) hp2
      rw [← e3]
      clear e3
      have rt3 := rt.same s3
      walk_at "rd"
      refine ite2 (fun _ => ?_) (fun _ => ?_)
      · walk_at "rd"
        intro t2 xt2 _
        have tl2 := xt2.ln
        exact Here.mk ⟨t2, rfl, xt2.rd.up (R.lvl2 r) (Nat.le_refl _), xt2.wc, by omega, s3⟩
      · exact Here.mk ⟨t, rfl, rd1, wc1, tl, s3⟩
    rintro σ' H' hv
    obtain ⟨t, rfl, rd, wc, tl, s3⟩ := hv.out
    clear hv rd1 wc1
    have rt3 := rt.same s3
    have hS3 := s3.seq hS2
    walk_at "rd"
    intro p2 hp2
    obtain ⟨H4, e4, hp4, s4⟩ := nwl (xs := (splitN 32 t).map T) hp2
    rw [← e4]
    clear e4
    walk_at "rd"
    refine ite2 (fun _ => ?_) (fun c => ?_)
    · walk_at "rd"
      exact q _
    have hw : (splitN 32 t).length ≤ 60 := by
      have c' := of_decide_eq_false (Bool.eq_false_iff.mpr c)
      rw [List.length_map] at c'
      omega
    clear c hp4
    have rt4 := rt3.same s4
    have hS4 := s4.seq hS3
    clear rt rt3 hS2 hS3 hS
    walk_at "rd"
    intro v3
    have y0 : 0 ≤ v3 % 7 := Int.emod_nonneg _ (by decide)
    have y1 : v3 % 7 < 7 := Int.emod_lt_of_pos _ (by decide)
    walk_at "rd"
    refine comp_all (fun _ y => ∃ c, y = T [c]) (hands_range 0 (v3 % 7).toNat) ?_ (fun x hx H' s' R hR => ?_) (fun D H5 ys hD s5 hlen hP hDD => ?_)
    · rw [List.length_map, List.length_range]; omega
    · obtain ⟨k, hk, rfl⟩ := List.mem_map.mp hx
      have br := PyProof.Rows.bitAnd_range (v3 / 7 / 2 ^ (2 * (0 + (k : Int))).toNat) (y := 3) (by decide)
      obtain ⟨c, hc, _⟩ := at_some ([45, 45] ++ [a, b]) (Builtin.bitAnd (v3 / 7 / 2 ^ (2 * (0 + (k : Int))).toNat) 3) br.1 (by show _ < (4 : Int); omega)
      have l3 : (0 : Int) ≤ 2 * (0 + (k : Int)) := by omega
      walk_at "rd"
      exact hR _ H' ⟨c, rfl⟩ (Same.refl _)
    rw [List.length_map, List.length_range] at hlen
    obtain ⟨past, rfl, hpl⟩ := ones_txt (ys := ys) fun y hy => by
      obtain ⟨i, hi, rfl⟩ := List.mem_iff_getElem.mp hy
      exact hP i _ _ (List.getElem?_eq_getElem (by rw [List.length_map, List.length_range]; omega)) (List.getElem?_eq_getElem hi)
    refine ⟨[], past.map fun c => [c], D, rfl, rfl, SqL.of hDD, ?_, ?_⟩
    · rw [sum_ones, List.length_map, List.length_nil, Nat.mul_zero]
      omega
    rw [joinN_nil, flat_ones]
    have hS5 := s5.seq hS4
    have hpast : past.length ≤ 7 := by omega
    have rt5 := rt4.same s5
    clear hDD hP hS4 rt4
    walk_at "rd"
    intro p6 hp6
    obtain ⟨H6, e6, hp6', s6⟩ := nwl (xs := cutV (ns.map V.int) (some 16) (some 30)) hp6
    rw [← e6]
    clear e6
    have l6 : (cutN ns (some 16) (some 30)).length ≤ 14 := cut_span ns 16 30
    have q6 : SqL K H6 p6 ((cutN ns (some 16) (some 30)).map V.int) := by rw [← cutV_map]; exact SqL.of hp6'
    have e0 : atI [a, b] (0 : Int) = some a := by simp [atI, ixN]
    walk_at "rd"
    refine comp_all (fun _ y => ∃ c, y = T [c]) (hands_list q6) ?_ (fun x hx H' s' R hR => ?_) (fun D2 H7 ys hD2 s7 hlen hP hDD => ?_)
    · rw [List.length_map]; omega
    · obtain ⟨n, _, rfl⟩ := List.mem_map.mp hx
      obtain ⟨d, hd, _⟩ := at_some ([45, 45] ++ [a, b] ++ [a]) (n % 5) (Int.emod_nonneg _ (by decide)) (Int.emod_lt_of_pos _ (by decide))
      walk_at "rd"
      exact hR _ H' ⟨d, rfl⟩ (Same.refl _)
    rw [List.length_map] at hlen
    obtain ⟨row, rfl, hrl⟩ := ones_txt (ys := ys) fun y hy => by
      obtain ⟨i, hi, rfl⟩ := List.mem_iff_getElem.mp hy
      exact hP i _ _ (List.getElem?_eq_getElem (by rw [List.length_map]; omega)) (List.getElem?_eq_getElem hi)
    refine ⟨[], row.map fun c => [c], D2, rfl, rfl, SqL.of hDD, ?_, ?_⟩
    · rw [sum_ones, List.length_map, List.length_nil, Nat.mul_zero]
      omega
    rw [joinN_nil, flat_ones]
    have hrow : row.length ≤ 14 := by omega
    have rt7 := (rt5.same s6).same s7
    clear hDD hP hS5 rt5 q6 hp6'
    walk_at "rd"
    refine comp_by (fun x => match x with | .int d => dayB r past row d.toNat | _ => false) (fun x => x) (hands_range 0 (row.length : Int).toNat) ?_ (fun x hx H' s' R hR' => ?_) (fun x hx hp H' s' R hR' => ?_) (fun D3 H8 hD3 s8 hDD => ?_)
    · rw [List.length_map, List.length_range]; omega
    · obtain ⟨k, hk, rfl⟩ := List.mem_map.mp hx
      have hk := List.mem_range.mp hk
      have rp := rt7.same s'
      have hcl := cut_len row none (some (0 + (k : Int) + 1))
      have e : cutN row none (some (0 + (k : Int) + 1)) = row.take (((0 : Int) + (k : Int)).toNat + 1) := by
        rw [cut_to _ _ (by omega), show (0 + (k : Int) + 1).toNat = (0 + (k : Int)).toNat + 1 by omega]
      walk_at "rd"
      have q2 := hR' H' (Same.refl _)
      show R (r.bad (past ++ cutN row none (some (0 + (k : Int) + 1)))) H'
      rw [e]
      exact q2
    · walk_at "rd"
      exact hR' H' (Same.refl _)
    have hdue : H8 D3 = some (.lst (dL (badL r past row))) := by
      rw [hDD]
      congr 2
      rw [List.map_id', List.filter_map]
      unfold dL badL
      rw [List.map_map]
      have e : (fun (d : Nat) => (V.int ((d : Int)))) = fun (i : Nat) => V.int (0 + (i : Int)) := by funext i; rw [Int.zero_add]
      show List.map _ _ = List.map (fun d : Nat => V.int (d : Int)) _
      rw [e, Int.toNat_natCast]
      congr 1
      refine List.filter_congr fun d _ => ?_
      show dayB r past row (0 + (d : Int)).toNat = dayB r past row d
      congr 1
      omega
    clear hDD rt7 hD3 hD2 hD
    have hrd := rd_of rd 60 hw
    have tl3 : t.length ≤ 10000 := by omega
    walk_at "rd"
    intro rp H9 s9 hr9
    have hdue9 := s9 _ _ hdue
    have f1 := flat_dL (badL r past row)
    have hdep : r.depth ≤ 23 := by have := r.depth_sz; omega
    have hp300 : past.length ≤ 300 := by omega
    have hr300 : row.length ≤ 300 := by omega
    have e9 : eqVs (dL (badL r past row)) (dL (badL r past row)) = true := by rw [eq_dL]; exact decide_eq_true rfl
    walk_at "rd"
    intro D4 H10 s10 nD4 hD4
    have hdue10 := s10 _ _ hdue9
    have hr10 := hr9.same s10
    walk_at "rd"
    show if eqVs (dL (badL r past row)) (dL (badL r past row)) = true then _ else _
    rw [e9]
    obtain ⟨dx, fs, ob, _, _, nt⟩ := hr10.obj
    have Gt := g_tx (P := P) (w := w) (base := base) tx 24 r ro rz (by omega)
    have hrd2 := rd_of (((R.tx_ok ro).rd).up (R.lvl2 r) (Nat.le_refl _)) 60 (Nat.le_trans wc hw)
    have tl4 : r.tx.length ≤ 10000 := by have := R.tx_len ro; omega
    have hw2 : (splitN 32 r.tx).length ≤ 60 := Nat.le_trans wc hw
    walk_at "rd"
    intro rp2 H11 s11 hr11
    have hdue11 := s11 _ _ hdue10
    walk_at "rd"
    intro D5 H12 s12 nD5 hD5
    have hdue12 := s12 _ _ hdue11
    walk_at "rd"
    show Q (.bl (eqVs (dL (badL r past row)) (dL (badL r past row)))) _
    rw [e9]
    exact q _
end

theorem all_mk {l : PySem.W.OpenLaw} {w : World} {K : PySem.W.Frag} {h : Heap} {mg : Str → Option Value} {fa C_Never C_Most C_Least C_Both C_Either C_Not q1 q2 q3 q4 q5 q6 q7 q8 q9 q10 q11 q12 q13 q14 q15 q16 q17 q18 q19 q20 q21 q22 q23 q24 q25 q26 q27 q28 q29 q30 q31 q32 q33 q34 q35 q36 q37 q38 q39 q40 q41 q42 q43 q44 q45 q46 q47 : Addr} (X : K.In h) (G : h.Ns mainGlobals mg) (hfa : mg "law" = some (.ref fa))
    {od1 an1 od2 an2 od3 an3 od4 an4 od5 an5 od6 an6 od7 an7 od8 an8 od9 an9 od10 an10 od11 an11 od12 an12 od13 an13 od14 an14 od15 an15 od16 an16 od17 an17 od18 an18 od19 an19 od20 an20 od21 an21 od22 an22 od23 an23 od24 an24 od25 an25 od26 an26 od27 an27 od28 an28 od29 an29 od30 an30 od31 an31 od32 an32 od33 an33 od34 an34 od35 an35 od36 an36 od37 an37 od38 an38 od39 an39 od40 an40 od41 an41 od42 an42 od43 an43 od44 an44 od45 an45 od46 an46 od47 an47 : Option Addr} {sl1 sl2 sl3 sl4 sl5 sl6 sl7 sl8 sl9 sl10 sl11 sl12 sl13 sl14 sl15 sl16 sl17 sl18 sl19 sl20 sl21 sl22 sl23 sl24 sl25 sl26 sl27 sl28 sl29 sl30 sl31 sl32 sl33 sl34 sl35 sl36 sl37 sl38 sl39 sl40 sl41 sl42 sl43 sl44 sl45 sl46 sl47 : Array (Option Value)} {oc1 kV1 dc1 pm1 cd1 ct1 oc2 kV2 dc2 pm2 cd2 ct2 oc3 kV3 dc3 pm3 cd3 ct3 oc4 kV4 dc4 pm4 cd4 ct4 oc5 kV5 dc5 pm5 cd5 ct5 oc6 kV6 dc6 pm6 cd6 ct6 oc7 kV7 dc7 pm7 cd7 ct7 oc8 kV8 dc8 pm8 cd8 ct8 oc9 kV9 dc9 pm9 cd9 ct9 oc10 kV10 dc10 pm10 cd10 ct10 oc11 kV11 dc11 pm11 cd11 ct11 oc12 kV12 dc12 pm12 cd12 ct12 oc13 kV13 dc13 pm13 cd13 ct13 oc14 kV14 dc14 pm14 cd14 ct14 oc15 kV15 dc15 pm15 cd15 ct15 oc16 kV16 dc16 pm16 cd16 ct16 oc17 kV17 dc17 pm17 cd17 ct17 oc18 kV18 dc18 pm18 cd18 ct18 oc19 kV19 dc19 pm19 cd19 ct19 oc20 kV20 dc20 pm20 cd20 ct20 oc21 kV21 dc21 pm21 cd21 ct21 oc22 kV22 dc22 pm22 cd22 ct22 oc23 kV23 dc23 pm23 cd23 ct23 oc24 kV24 dc24 pm24 cd24 ct24 oc25 kV25 dc25 pm25 cd25 ct25 oc26 kV26 dc26 pm26 cd26 ct26 oc27 kV27 dc27 pm27 cd27 ct27 oc28 kV28 dc28 pm28 cd28 ct28 oc29 kV29 dc29 pm29 cd29 ct29 oc30 kV30 dc30 pm30 cd30 ct30 oc31 kV31 dc31 pm31 cd31 ct31 oc32 kV32 dc32 pm32 cd32 ct32 oc33 kV33 dc33 pm33 cd33 ct33 oc34 kV34 dc34 pm34 cd34 ct34 oc35 kV35 dc35 pm35 cd35 ct35 oc36 kV36 dc36 pm36 cd36 ct36 oc37 kV37 dc37 pm37 cd37 ct37 oc38 kV38 dc38 pm38 cd38 ct38 oc39 kV39 dc39 pm39 cd39 ct39 oc40 kV40 dc40 pm40 cd40 ct40 oc41 kV41 dc41 pm41 cd41 ct41 oc42 kV42 dc42 pm42 cd42 ct42 oc43 kV43 dc43 pm43 cd43 ct43 oc44 kV44 dc44 pm44 cd44 ct44 oc45 kV45 dc45 pm45 cd45 ct45 oc46 kV46 dc46 pm46 cd46 ct46 oc47 kV47 dc47 pm47 cd47 ct47 : Value}
    {tk_MOST_WORDS tk_MARK_SIGNS tk_WORD_SIGNS tk_MANY_FIGURES tk_DAYS_FIGURES : Tok}
    (g_Never : PySem.W.nsIn K mainGlobals "Never" = some (some (.ref C_Never)))
    (g_Most : PySem.W.nsIn K mainGlobals "Most" = some (some (.ref C_Most)))
    (g_Least : PySem.W.nsIn K mainGlobals "Least" = some (some (.ref C_Least)))
    (g_Both : PySem.W.nsIn K mainGlobals "Both" = some (some (.ref C_Both)))
    (g_Either : PySem.W.nsIn K mainGlobals "Either" = some (some (.ref C_Either)))
    (g_Not : PySem.W.nsIn K mainGlobals "Not" = some (some (.ref C_Not)))
    (a1 : PySem.W.nsIn K mainGlobals "fits" = some (some (.ref q1)))
    (l1 : K.lookup q1 = some ⟨oc1, od1, .func (PySem.W.fnOf "fits" "fits" (defArgs s_fits) (defBody s_fits) (defScope s_fits) .none kV1 dc1 pm1 an1 cd1 ct1), sl1⟩)
    (c1 : PySem.W.codeIn K cd1 "fits" = true)
    (k1 : PySem.W.keepIn K (.ref q1) = true)
    (a2 : PySem.W.nsIn K mainGlobals "last_marks" = some (some (.ref q2)))
    (l2 : K.lookup q2 = some ⟨oc2, od2, .func (PySem.W.fnOf "last_marks" "last_marks" (defArgs s_last_marks) (defBody s_last_marks) (defScope s_last_marks) .none kV2 dc2 pm2 an2 cd2 ct2), sl2⟩)
    (c2 : PySem.W.codeIn K cd2 "last_marks" = true)
    (k2 : PySem.W.keepIn K (.ref q2) = true)
    (a3 : PySem.W.nsIn K mainGlobals "let_by" = some (some (.ref q3)))
    (l3 : K.lookup q3 = some ⟨oc3, od3, .func (PySem.W.fnOf "let_by" "let_by" (defArgs s_let_by) (defBody s_let_by) (defScope s_let_by) .none kV3 dc3 pm3 an3 cd3 ct3), sl3⟩)
    (c3 : PySem.W.codeIn K cd3 "let_by" = true)
    (k3 : PySem.W.keepIn K (.ref q3) = true)
    (a4 : PySem.W.nsIn K mainGlobals "count_among" = some (some (.ref q4)))
    (l4 : K.lookup q4 = some ⟨oc4, od4, .func (PySem.W.fnOf "count_among" "count_among" (defArgs s_count_among) (defBody s_count_among) (defScope s_count_among) .none kV4 dc4 pm4 an4 cd4 ct4), sl4⟩)
    (c4 : PySem.W.codeIn K cd4 "count_among" = true)
    (k4 : PySem.W.keepIn K (.ref q4) = true)
    (a5 : PySem.W.findIn K (.ref C_Never) "__init__" = some (some (.ref q5)))
    (i5 : PySem.W.isFn K (.ref q5) = true)
    (l5 : K.lookup q5 = some ⟨oc5, od5, .func (PySem.W.fnOf "__init__" "Never.__init__" (defArgs s_Never_init) (defBody s_Never_init) (defScope s_Never_init) .none kV5 dc5 pm5 an5 cd5 ct5), sl5⟩)
    (c5 : PySem.W.codeIn K cd5 "Never.__init__" = true)
    (k5 : PySem.W.keepIn K (.ref q5) = true)
    (a6 : PySem.W.findIn K (.ref C_Never) "bad" = some (some (.ref q6)))
    (i6 : PySem.W.isFn K (.ref q6) = true)
    (l6 : K.lookup q6 = some ⟨oc6, od6, .func (PySem.W.fnOf "bad" "Never.bad" (defArgs s_Never_bad) (defBody s_Never_bad) (defScope s_Never_bad) .none kV6 dc6 pm6 an6 cd6 ct6), sl6⟩)
    (c6 : PySem.W.codeIn K cd6 "Never.bad" = true)
    (k6 : PySem.W.keepIn K (.ref q6) = true)
    (a7 : PySem.W.findIn K (.ref C_Most) "__init__" = some (some (.ref q7)))
    (i7 : PySem.W.isFn K (.ref q7) = true)
    (l7 : K.lookup q7 = some ⟨oc7, od7, .func (PySem.W.fnOf "__init__" "Most.__init__" (defArgs s_Most_init) (defBody s_Most_init) (defScope s_Most_init) .none kV7 dc7 pm7 an7 cd7 ct7), sl7⟩)
    (c7 : PySem.W.codeIn K cd7 "Most.__init__" = true)
    (k7 : PySem.W.keepIn K (.ref q7) = true)
    (a8 : PySem.W.findIn K (.ref C_Most) "bad" = some (some (.ref q8)))
    (i8 : PySem.W.isFn K (.ref q8) = true)
    (l8 : K.lookup q8 = some ⟨oc8, od8, .func (PySem.W.fnOf "bad" "Most.bad" (defArgs s_Most_bad) (defBody s_Most_bad) (defScope s_Most_bad) .none kV8 dc8 pm8 an8 cd8 ct8), sl8⟩)
    (c8 : PySem.W.codeIn K cd8 "Most.bad" = true)
    (k8 : PySem.W.keepIn K (.ref q8) = true)
    (a9 : PySem.W.findIn K (.ref C_Least) "__init__" = some (some (.ref q9)))
    (i9 : PySem.W.isFn K (.ref q9) = true)
    (l9 : K.lookup q9 = some ⟨oc9, od9, .func (PySem.W.fnOf "__init__" "Least.__init__" (defArgs s_Least_init) (defBody s_Least_init) (defScope s_Least_init) .none kV9 dc9 pm9 an9 cd9 ct9), sl9⟩)
    (c9 : PySem.W.codeIn K cd9 "Least.__init__" = true)
    (k9 : PySem.W.keepIn K (.ref q9) = true)
    (a10 : PySem.W.findIn K (.ref C_Least) "bad" = some (some (.ref q10)))
    (i10 : PySem.W.isFn K (.ref q10) = true)
    (l10 : K.lookup q10 = some ⟨oc10, od10, .func (PySem.W.fnOf "bad" "Least.bad" (defArgs s_Least_bad) (defBody s_Least_bad) (defScope s_Least_bad) .none kV10 dc10 pm10 an10 cd10 ct10), sl10⟩)
    (c10 : PySem.W.codeIn K cd10 "Least.bad" = true)
    (k10 : PySem.W.keepIn K (.ref q10) = true)
    (a11 : PySem.W.findIn K (.ref C_Both) "__init__" = some (some (.ref q11)))
    (i11 : PySem.W.isFn K (.ref q11) = true)
    (l11 : K.lookup q11 = some ⟨oc11, od11, .func (PySem.W.fnOf "__init__" "Both.__init__" (defArgs s_Both_init) (defBody s_Both_init) (defScope s_Both_init) .none kV11 dc11 pm11 an11 cd11 ct11), sl11⟩)
    (c11 : PySem.W.codeIn K cd11 "Both.__init__" = true)
    (k11 : PySem.W.keepIn K (.ref q11) = true)
    (a12 : PySem.W.findIn K (.ref C_Either) "__init__" = some (some (.ref q12)))
    (i12 : PySem.W.isFn K (.ref q12) = true)
    (l12 : K.lookup q12 = some ⟨oc12, od12, .func (PySem.W.fnOf "__init__" "Either.__init__" (defArgs s_Either_init) (defBody s_Either_init) (defScope s_Either_init) .none kV12 dc12 pm12 an12 cd12 ct12), sl12⟩)
    (c12 : PySem.W.codeIn K cd12 "Either.__init__" = true)
    (k12 : PySem.W.keepIn K (.ref q12) = true)
    (a13 : PySem.W.findIn K (.ref C_Not) "__init__" = some (some (.ref q13)))
    (i13 : PySem.W.isFn K (.ref q13) = true)
    (l13 : K.lookup q13 = some ⟨oc13, od13, .func (PySem.W.fnOf "__init__" "Not.__init__" (defArgs s_Not_init) (defBody s_Not_init) (defScope s_Not_init) .none kV13 dc13 pm13 an13 cd13 ct13), sl13⟩)
    (c13 : PySem.W.codeIn K cd13 "Not.__init__" = true)
    (k13 : PySem.W.keepIn K (.ref q13) = true)
    (a14 : PySem.W.findIn K (.ref C_Both) "bad" = some (some (.ref q14)))
    (i14 : PySem.W.isFn K (.ref q14) = true)
    (l14 : K.lookup q14 = some ⟨oc14, od14, .func (PySem.W.fnOf "bad" "Both.bad" (defArgs s_Both_bad) (defBody s_Both_bad) (defScope s_Both_bad) .none kV14 dc14 pm14 an14 cd14 ct14), sl14⟩)
    (c14 : PySem.W.codeIn K cd14 "Both.bad" = true)
    (k14 : PySem.W.keepIn K (.ref q14) = true)
    (a15 : PySem.W.findIn K (.ref C_Either) "bad" = some (some (.ref q15)))
    (i15 : PySem.W.isFn K (.ref q15) = true)
    (l15 : K.lookup q15 = some ⟨oc15, od15, .func (PySem.W.fnOf "bad" "Either.bad" (defArgs s_Either_bad) (defBody s_Either_bad) (defScope s_Either_bad) .none kV15 dc15 pm15 an15 cd15 ct15), sl15⟩)
    (c15 : PySem.W.codeIn K cd15 "Either.bad" = true)
    (k15 : PySem.W.keepIn K (.ref q15) = true)
    (a16 : PySem.W.findIn K (.ref C_Not) "bad" = some (some (.ref q16)))
    (i16 : PySem.W.isFn K (.ref q16) = true)
    (l16 : K.lookup q16 = some ⟨oc16, od16, .func (PySem.W.fnOf "bad" "Not.bad" (defArgs s_Not_bad) (defBody s_Not_bad) (defScope s_Not_bad) .none kV16 dc16 pm16 an16 cd16 ct16), sl16⟩)
    (c16 : PySem.W.codeIn K cd16 "Not.bad" = true)
    (k16 : PySem.W.keepIn K (.ref q16) = true)
    (a17 : PySem.W.nsIn K mainGlobals "made_of" = some (some (.ref q17)))
    (l17 : K.lookup q17 = some ⟨oc17, od17, .func (PySem.W.fnOf "made_of" "made_of" (defArgs s_made_of) (defBody s_made_of) (defScope s_made_of) .none kV17 dc17 pm17 an17 cd17 ct17), sl17⟩)
    (c17 : PySem.W.codeIn K cd17 "made_of" = true)
    (k17 : PySem.W.keepIn K (.ref q17) = true)
    (a18 : PySem.W.nsIn K mainGlobals "is_figure" = some (some (.ref q18)))
    (l18 : K.lookup q18 = some ⟨oc18, od18, .func (PySem.W.fnOf "is_figure" "is_figure" (defArgs s_is_figure) (defBody s_is_figure) (defScope s_is_figure) .none kV18 dc18 pm18 an18 cd18 ct18), sl18⟩)
    (c18 : PySem.W.codeIn K cd18 "is_figure" = true)
    (k18 : PySem.W.keepIn K (.ref q18) = true)
    (a19 : PySem.W.nsIn K mainGlobals "is_word" = some (some (.ref q19)))
    (l19 : K.lookup q19 = some ⟨oc19, od19, .func (PySem.W.fnOf "is_word" "is_word" (defArgs s_is_word) (defBody s_is_word) (defScope s_is_word) .none kV19 dc19 pm19 an19 cd19 ct19), sl19⟩)
    (c19 : PySem.W.codeIn K cd19 "is_word" = true)
    (k19 : PySem.W.keepIn K (.ref q19) = true)
    (a20 : PySem.W.nsIn K mainGlobals "are_marks" = some (some (.ref q20)))
    (l20 : K.lookup q20 = some ⟨oc20, od20, .func (PySem.W.fnOf "are_marks" "are_marks" (defArgs s_are_marks) (defBody s_are_marks) (defScope s_are_marks) .none kV20 dc20 pm20 an20 cd20 ct20), sl20⟩)
    (c20 : PySem.W.codeIn K cd20 "are_marks" = true)
    (k20 : PySem.W.keepIn K (.ref q20) = true)
    (a21 : PySem.W.nsIn K mainGlobals "last_outside" = some (some (.ref q21)))
    (l21 : K.lookup q21 = some ⟨oc21, od21, .func (PySem.W.fnOf "last_outside" "last_outside" (defArgs s_last_outside) (defBody s_last_outside) (defScope s_last_outside) .none kV21 dc21 pm21 an21 cd21 ct21), sl21⟩)
    (c21 : PySem.W.codeIn K cd21 "last_outside" = true)
    (k21 : PySem.W.keepIn K (.ref q21) = true)
    (a22 : PySem.W.nsIn K mainGlobals "is_count" = some (some (.ref q22)))
    (l22 : K.lookup q22 = some ⟨oc22, od22, .func (PySem.W.fnOf "is_count" "is_count" (defArgs s_is_count) (defBody s_is_count) (defScope s_is_count) .none kV22 dc22 pm22 an22 cd22 ct22), sl22⟩)
    (c22 : PySem.W.codeIn K cd22 "is_count" = true)
    (k22 : PySem.W.keepIn K (.ref q22) = true)
    (a23 : PySem.W.nsIn K mainGlobals "read_plain" = some (some (.ref q23)))
    (l23 : K.lookup q23 = some ⟨oc23, od23, .func (PySem.W.fnOf "read_plain" "read_plain" (defArgs s_read_plain) (defBody s_read_plain) (defScope s_read_plain) .none kV23 dc23 pm23 an23 cd23 ct23), sl23⟩)
    (c23 : PySem.W.codeIn K cd23 "read_plain" = true)
    (k23 : PySem.W.keepIn K (.ref q23) = true)
    (a24 : PySem.W.nsIn K mainGlobals "read_words" = some (some (.ref q24)))
    (l24 : K.lookup q24 = some ⟨oc24, od24, .func (PySem.W.fnOf "read_words" "read_words" (defArgs s_read_words) (defBody s_read_words) (defScope s_read_words) .none kV24 dc24 pm24 an24 cd24 ct24), sl24⟩)
    (c24 : PySem.W.codeIn K cd24 "read_words" = true)
    (k24 : PySem.W.keepIn K (.ref q24) = true)
    (a25 : PySem.W.nsIn K mainGlobals "read_rule" = some (some (.ref q25)))
    (l25 : K.lookup q25 = some ⟨oc25, od25, .func (PySem.W.fnOf "read_rule" "read_rule" (defArgs s_read_rule) (defBody s_read_rule) (defScope s_read_rule) .none kV25 dc25 pm25 an25 cd25 ct25), sl25⟩)
    (c25 : PySem.W.codeIn K cd25 "read_rule" = true)
    (k25 : PySem.W.keepIn K (.ref q25) = true)
    (a26 : PySem.W.nsIn K mainGlobals "count_text" = some (some (.ref q26)))
    (l26 : K.lookup q26 = some ⟨oc26, od26, .func (PySem.W.fnOf "count_text" "count_text" (defArgs s_count_text) (defBody s_count_text) (defScope s_count_text) .none kV26 dc26 pm26 an26 cd26 ct26), sl26⟩)
    (c26 : PySem.W.codeIn K cd26 "count_text" = true)
    (k26 : PySem.W.keepIn K (.ref q26) = true)
    (a27 : PySem.W.findIn K (.ref C_Never) "text" = some (some (.ref q27)))
    (i27 : PySem.W.isFn K (.ref q27) = true)
    (l27 : K.lookup q27 = some ⟨oc27, od27, .func (PySem.W.fnOf "text" "Never.text" (defArgs s_Never_text) (defBody s_Never_text) (defScope s_Never_text) .none kV27 dc27 pm27 an27 cd27 ct27), sl27⟩)
    (c27 : PySem.W.codeIn K cd27 "Never.text" = true)
    (k27 : PySem.W.keepIn K (.ref q27) = true)
    (a28 : PySem.W.findIn K (.ref C_Most) "text" = some (some (.ref q28)))
    (i28 : PySem.W.isFn K (.ref q28) = true)
    (l28 : K.lookup q28 = some ⟨oc28, od28, .func (PySem.W.fnOf "text" "Most.text" (defArgs s_Most_text) (defBody s_Most_text) (defScope s_Most_text) .none kV28 dc28 pm28 an28 cd28 ct28), sl28⟩)
    (c28 : PySem.W.codeIn K cd28 "Most.text" = true)
    (k28 : PySem.W.keepIn K (.ref q28) = true)
    (a29 : PySem.W.findIn K (.ref C_Least) "text" = some (some (.ref q29)))
    (i29 : PySem.W.isFn K (.ref q29) = true)
    (l29 : K.lookup q29 = some ⟨oc29, od29, .func (PySem.W.fnOf "text" "Least.text" (defArgs s_Least_text) (defBody s_Least_text) (defScope s_Least_text) .none kV29 dc29 pm29 an29 cd29 ct29), sl29⟩)
    (c29 : PySem.W.codeIn K cd29 "Least.text" = true)
    (k29 : PySem.W.keepIn K (.ref q29) = true)
    (a30 : PySem.W.nsIn K mainGlobals "is_joined" = some (some (.ref q30)))
    (l30 : K.lookup q30 = some ⟨oc30, od30, .func (PySem.W.fnOf "is_joined" "is_joined" (defArgs s_is_joined) (defBody s_is_joined) (defScope s_is_joined) .none kV30 dc30 pm30 an30 cd30 ct30), sl30⟩)
    (c30 : PySem.W.codeIn K cd30 "is_joined" = true)
    (k30 : PySem.W.keepIn K (.ref q30) = true)
    (a31 : PySem.W.nsIn K mainGlobals "part_text" = some (some (.ref q31)))
    (l31 : K.lookup q31 = some ⟨oc31, od31, .func (PySem.W.fnOf "part_text" "part_text" (defArgs s_part_text) (defBody s_part_text) (defScope s_part_text) .none kV31 dc31 pm31 an31 cd31 ct31), sl31⟩)
    (c31 : PySem.W.codeIn K cd31 "part_text" = true)
    (k31 : PySem.W.keepIn K (.ref q31) = true)
    (a32 : PySem.W.findIn K (.ref C_Both) "text" = some (some (.ref q32)))
    (i32 : PySem.W.isFn K (.ref q32) = true)
    (l32 : K.lookup q32 = some ⟨oc32, od32, .func (PySem.W.fnOf "text" "Both.text" (defArgs s_Both_text) (defBody s_Both_text) (defScope s_Both_text) .none kV32 dc32 pm32 an32 cd32 ct32), sl32⟩)
    (c32 : PySem.W.codeIn K cd32 "Both.text" = true)
    (k32 : PySem.W.keepIn K (.ref q32) = true)
    (a33 : PySem.W.findIn K (.ref C_Either) "text" = some (some (.ref q33)))
    (i33 : PySem.W.isFn K (.ref q33) = true)
    (l33 : K.lookup q33 = some ⟨oc33, od33, .func (PySem.W.fnOf "text" "Either.text" (defArgs s_Either_text) (defBody s_Either_text) (defScope s_Either_text) .none kV33 dc33 pm33 an33 cd33 ct33), sl33⟩)
    (c33 : PySem.W.codeIn K cd33 "Either.text" = true)
    (k33 : PySem.W.keepIn K (.ref q33) = true)
    (a34 : PySem.W.findIn K (.ref C_Not) "text" = some (some (.ref q34)))
    (i34 : PySem.W.isFn K (.ref q34) = true)
    (l34 : K.lookup q34 = some ⟨oc34, od34, .func (PySem.W.fnOf "text" "Not.text" (defArgs s_Not_text) (defBody s_Not_text) (defScope s_Not_text) .none kV34 dc34 pm34 an34 cd34 ct34), sl34⟩)
    (c34 : PySem.W.codeIn K cd34 "Not.text" = true)
    (k34 : PySem.W.keepIn K (.ref q34) = true)
    (a35 : PySem.W.nsIn K mainGlobals "_law_letters" = some (some (.ref q35)))
    (l35 : K.lookup q35 = some ⟨oc35, od35, .func (PySem.W.fnOf "_law_letters" "_law_letters" (defArgs s_law_letters) (defBody s_law_letters) (defScope s_law_letters) .none kV35 dc35 pm35 an35 cd35 ct35), sl35⟩)
    (c35 : PySem.W.codeIn K cd35 "_law_letters" = true)
    (k35 : PySem.W.keepIn K (.ref q35) = true)
    (a36 : PySem.W.nsIn K mainGlobals "_law_signs" = some (some (.ref q36)))
    (l36 : K.lookup q36 = some ⟨oc36, od36, .func (PySem.W.fnOf "_law_signs" "_law_signs" (defArgs s_law_signs) (defBody s_law_signs) (defScope s_law_signs) .none kV36 dc36 pm36 an36 cd36 ct36), sl36⟩)
    (c36 : PySem.W.codeIn K cd36 "_law_signs" = true)
    (k36 : PySem.W.keepIn K (.ref q36) = true)
    (a37 : PySem.W.nsIn K mainGlobals "_law_stream" = some (some (.ref q37)))
    (l37 : K.lookup q37 = some ⟨oc37, od37, .func (PySem.W.fnOf "_law_stream" "_law_stream" (defArgs s_law_stream) (defBody s_law_stream) (defScope s_law_stream) .none kV37 dc37 pm37 an37 cd37 ct37), sl37⟩)
    (c37 : PySem.W.codeIn K cd37 "_law_stream" = true)
    (k37 : PySem.W.keepIn K (.ref q37) = true)
    (a38 : PySem.W.nsIn K mainGlobals "_law_plain" = some (some (.ref q38)))
    (l38 : K.lookup q38 = some ⟨oc38, od38, .func (PySem.W.fnOf "_law_plain" "_law_plain" (defArgs s_law_plain) (defBody s_law_plain) (defScope s_law_plain) .none kV38 dc38 pm38 an38 cd38 ct38), sl38⟩)
    (c38 : PySem.W.codeIn K cd38 "_law_plain" = true)
    (k38 : PySem.W.keepIn K (.ref q38) = true)
    (a39 : PySem.W.nsIn K mainGlobals "_law_tree" = some (some (.ref q39)))
    (l39 : K.lookup q39 = some ⟨oc39, od39, .func (PySem.W.fnOf "_law_tree" "_law_tree" (defArgs s_law_tree) (defBody s_law_tree) (defScope s_law_tree) .none kV39 dc39 pm39 an39 cd39 ct39), sl39⟩)
    (c39 : PySem.W.codeIn K cd39 "_law_tree" = true)
    (k39 : PySem.W.keepIn K (.ref q39) = true)
    (a40 : PySem.W.nsIn K mainGlobals "_law_within" = some (some (.ref q40)))
    (l40 : K.lookup q40 = some ⟨oc40, od40, .func (PySem.W.fnOf "_law_within" "_law_within" (defArgs s_law_within) (defBody s_law_within) (defScope s_law_within) .none kV40 dc40 pm40 an40 cd40 ct40), sl40⟩)
    (c40 : PySem.W.codeIn K cd40 "_law_within" = true)
    (k40 : PySem.W.keepIn K (.ref q40) = true)
    (a41 : PySem.W.nsIn K mainGlobals "_law_text" = some (some (.ref q41)))
    (l41 : K.lookup q41 = some ⟨oc41, od41, .func (PySem.W.fnOf "_law_text" "_law_text" (defArgs s_law_text) (defBody s_law_text) (defScope s_law_text) .none kV41 dc41 pm41 an41 cd41 ct41), sl41⟩)
    (c41 : PySem.W.codeIn K cd41 "_law_text" = true)
    (k41 : PySem.W.keepIn K (.ref q41) = true)
    (a42 : PySem.W.nsIn K mainGlobals "_law_lets" = some (some (.ref q42)))
    (l42 : K.lookup q42 = some ⟨oc42, od42, .func (PySem.W.fnOf "_law_lets" "_law_lets" (defArgs s_law_lets) (defBody s_law_lets) (defScope s_law_lets) .none kV42 dc42 pm42 an42 cd42 ct42), sl42⟩)
    (c42 : PySem.W.codeIn K cd42 "_law_lets" = true)
    (k42 : PySem.W.keepIn K (.ref q42) = true)
    (a43 : PySem.W.nsIn K mainGlobals "_law_word_lies" = some (some (.ref q43)))
    (l43 : K.lookup q43 = some ⟨oc43, od43, .func (PySem.W.fnOf "_law_word_lies" "_law_word_lies" (defArgs s_law_word_lies) (defBody s_law_word_lies) (defScope s_law_word_lies) .none kV43 dc43 pm43 an43 cd43 ct43), sl43⟩)
    (c43 : PySem.W.codeIn K cd43 "_law_word_lies" = true)
    (k43 : PySem.W.keepIn K (.ref q43) = true)
    (a44 : PySem.W.nsIn K mainGlobals "_law_bad" = some (some (.ref q44)))
    (l44 : K.lookup q44 = some ⟨oc44, od44, .func (PySem.W.fnOf "_law_bad" "_law_bad" (defArgs s_law_bad) (defBody s_law_bad) (defScope s_law_bad) .none kV44 dc44 pm44 an44 cd44 ct44), sl44⟩)
    (c44 : PySem.W.codeIn K cd44 "_law_bad" = true)
    (k44 : PySem.W.keepIn K (.ref q44) = true)
    (a45 : PySem.W.nsIn K mainGlobals "bad_days" = some (some (.ref q45)))
    (l45 : K.lookup q45 = some ⟨oc45, od45, .func (PySem.W.fnOf "bad_days" "bad_days" (defArgs s_bad_days) (defBody s_bad_days) (defScope s_bad_days) .none kV45 dc45 pm45 an45 cd45 ct45), sl45⟩)
    (c45 : PySem.W.codeIn K cd45 "bad_days" = true)
    (k45 : PySem.W.keepIn K (.ref q45) = true)
    (a46 : PySem.W.nsIn K mainGlobals "_law_cell_at" = some (some (.ref q46)))
    (l46 : K.lookup q46 = some ⟨oc46, od46, .func (PySem.W.fnOf "_law_cell_at" "_law_cell_at" (defArgs s_law_cell_at) (defBody s_law_cell_at) (defScope s_law_cell_at) .none kV46 dc46 pm46 an46 cd46 ct46), sl46⟩)
    (c46 : PySem.W.codeIn K cd46 "_law_cell_at" = true)
    (k46 : PySem.W.keepIn K (.ref q46) = true)
    (a47 : PySem.W.nsIn K mainGlobals "law" = some (some (.ref q47)))
    (l47 : K.lookup q47 = some ⟨oc47, od47, .func (PySem.W.fnOf "law" "law" (defArgs s_law) (defBody s_law) (defScope s_law) .none kV47 dc47 pm47 an47 cd47 ct47), sl47⟩)
    (c47 : PySem.W.codeIn K cd47 "law" = true)
    (k47 : PySem.W.keepIn K (.ref q47) = true)
    (pg_Never : PySem.W.plainGet K C_Never Str.empty = true)
    (hd_Never : PySem.W.hasDictIn K C_Never = true)
    (po_Never : PySem.W.plainOver K C_Never = true)
    (sa_Never : PySem.W.findIn K (.ref C_Never) "__setattr__" = some (some (.builtin "object.__setattr__")))
    (mk_Never : PySem.W.makesIn K C_Never = true)
    (kc_Never : PySem.W.keepIn K (.ref C_Never) = true)
    (pg_Most : PySem.W.plainGet K C_Most Str.empty = true)
    (hd_Most : PySem.W.hasDictIn K C_Most = true)
    (po_Most : PySem.W.plainOver K C_Most = true)
    (sa_Most : PySem.W.findIn K (.ref C_Most) "__setattr__" = some (some (.builtin "object.__setattr__")))
    (mk_Most : PySem.W.makesIn K C_Most = true)
    (kc_Most : PySem.W.keepIn K (.ref C_Most) = true)
    (pg_Least : PySem.W.plainGet K C_Least Str.empty = true)
    (hd_Least : PySem.W.hasDictIn K C_Least = true)
    (po_Least : PySem.W.plainOver K C_Least = true)
    (sa_Least : PySem.W.findIn K (.ref C_Least) "__setattr__" = some (some (.builtin "object.__setattr__")))
    (mk_Least : PySem.W.makesIn K C_Least = true)
    (kc_Least : PySem.W.keepIn K (.ref C_Least) = true)
    (pg_Both : PySem.W.plainGet K C_Both Str.empty = true)
    (hd_Both : PySem.W.hasDictIn K C_Both = true)
    (po_Both : PySem.W.plainOver K C_Both = true)
    (sa_Both : PySem.W.findIn K (.ref C_Both) "__setattr__" = some (some (.builtin "object.__setattr__")))
    (mk_Both : PySem.W.makesIn K C_Both = true)
    (kc_Both : PySem.W.keepIn K (.ref C_Both) = true)
    (pg_Either : PySem.W.plainGet K C_Either Str.empty = true)
    (hd_Either : PySem.W.hasDictIn K C_Either = true)
    (po_Either : PySem.W.plainOver K C_Either = true)
    (sa_Either : PySem.W.findIn K (.ref C_Either) "__setattr__" = some (some (.builtin "object.__setattr__")))
    (mk_Either : PySem.W.makesIn K C_Either = true)
    (kc_Either : PySem.W.keepIn K (.ref C_Either) = true)
    (pg_Not : PySem.W.plainGet K C_Not Str.empty = true)
    (hd_Not : PySem.W.hasDictIn K C_Not = true)
    (po_Not : PySem.W.plainOver K C_Not = true)
    (sa_Not : PySem.W.findIn K (.ref C_Not) "__setattr__" = some (some (.builtin "object.__setattr__")))
    (mk_Not : PySem.W.makesIn K C_Not = true)
    (kc_Not : PySem.W.keepIn K (.ref C_Not) = true)
    (yn : PySem.W.specialIn K (.builtin "object.__class__") "__get__" = some (some (.builtin "getset_descriptor.__get__")))
    (yt : PySem.W.takesIn K (.builtin "object.__class__") = some true)
    (ya_Never : PySem.W.findIn K (.ref C_Never) "__class__" = some (some (.builtin "object.__class__")))
    (ym_Never : PySem.W.mroIn K C_Never (.type "object") = some true)
    (i_Never_Both : PySem.W.kitOne K (.ref C_Never) (.ref C_Both) = some false)
    (i_Never_Either : PySem.W.kitOne K (.ref C_Never) (.ref C_Either) = some false)
    (ya_Most : PySem.W.findIn K (.ref C_Most) "__class__" = some (some (.builtin "object.__class__")))
    (ym_Most : PySem.W.mroIn K C_Most (.type "object") = some true)
    (i_Most_Both : PySem.W.kitOne K (.ref C_Most) (.ref C_Both) = some false)
    (i_Most_Either : PySem.W.kitOne K (.ref C_Most) (.ref C_Either) = some false)
    (ya_Least : PySem.W.findIn K (.ref C_Least) "__class__" = some (some (.builtin "object.__class__")))
    (ym_Least : PySem.W.mroIn K C_Least (.type "object") = some true)
    (i_Least_Both : PySem.W.kitOne K (.ref C_Least) (.ref C_Both) = some false)
    (i_Least_Either : PySem.W.kitOne K (.ref C_Least) (.ref C_Either) = some false)
    (ya_Both : PySem.W.findIn K (.ref C_Both) "__class__" = some (some (.builtin "object.__class__")))
    (ym_Both : PySem.W.mroIn K C_Both (.type "object") = some true)
    (i_Both_Both : PySem.W.kitOne K (.ref C_Both) (.ref C_Both) = some true)
    (i_Both_Either : PySem.W.kitOne K (.ref C_Both) (.ref C_Either) = some false)
    (ya_Either : PySem.W.findIn K (.ref C_Either) "__class__" = some (some (.builtin "object.__class__")))
    (ym_Either : PySem.W.mroIn K C_Either (.type "object") = some true)
    (i_Either_Both : PySem.W.kitOne K (.ref C_Either) (.ref C_Both) = some false)
    (i_Either_Either : PySem.W.kitOne K (.ref C_Either) (.ref C_Either) = some true)
    (ya_Not : PySem.W.findIn K (.ref C_Not) "__class__" = some (some (.builtin "object.__class__")))
    (ym_Not : PySem.W.mroIn K C_Not (.type "object") = some true)
    (i_Not_Both : PySem.W.kitOne K (.ref C_Not) (.ref C_Both) = some false)
    (i_Not_Either : PySem.W.kitOne K (.ref C_Not) (.ref C_Either) = some false)
    (n_Never_word : PySem.W.findIn K (.ref C_Never) "word" = some none)
    (n_Most_many : PySem.W.findIn K (.ref C_Most) "many" = some none)
    (n_Most_marks : PySem.W.findIn K (.ref C_Most) "marks" = some none)
    (n_Most_days : PySem.W.findIn K (.ref C_Most) "days" = some none)
    (n_Least_many : PySem.W.findIn K (.ref C_Least) "many" = some none)
    (n_Least_marks : PySem.W.findIn K (.ref C_Least) "marks" = some none)
    (n_Least_days : PySem.W.findIn K (.ref C_Least) "days" = some none)
    (n_Both_left : PySem.W.findIn K (.ref C_Both) "left" = some none)
    (n_Both_right : PySem.W.findIn K (.ref C_Both) "right" = some none)
    (n_Either_left : PySem.W.findIn K (.ref C_Either) "left" = some none)
    (n_Either_right : PySem.W.findIn K (.ref C_Either) "right" = some none)
    (n_Not_inner : PySem.W.findIn K (.ref C_Not) "inner" = some none)
    (z_all : PySem.W.nsIn K mainGlobals "all" = some none)
    (z_any : PySem.W.nsIn K mainGlobals "any" = some none)
    (z_enumerate : PySem.W.nsIn K mainGlobals "enumerate" = some none)
    (z_int : PySem.W.nsIn K mainGlobals "int" = some none)
    (z_isinstance : PySem.W.nsIn K mainGlobals "isinstance" = some none)
    (z_len : PySem.W.nsIn K mainGlobals "len" = some none)
    (z_max : PySem.W.nsIn K mainGlobals "max" = some none)
    (z_min : PySem.W.nsIn K mainGlobals "min" = some none)
    (z_range : PySem.W.nsIn K mainGlobals "range" = some none)
    (z_set : PySem.W.nsIn K mainGlobals "set" = some none)
    (z_str : PySem.W.nsIn K mainGlobals "str" = some none)
    (z_zip : PySem.W.nsIn K mainGlobals "zip" = some none)
    (k_MOST_WORDS : PySem.W.nsIn K mainGlobals "MOST_WORDS" = some (some (.int 60 tk_MOST_WORDS)))
    (k_MARK_SIGNS : PySem.W.nsIn K mainGlobals "MARK_SIGNS" = some (some (.str ⟨[65, 66, 67, 68, 69, 70, 71, 72, 73, 74, 75, 76, 77, 78, 79, 80, 81, 82, 83, 84, 85, 86, 87, 88, 89, 90, 45, 35].toArray⟩ tk_MARK_SIGNS)))
    (k_WORD_SIGNS : PySem.W.nsIn K mainGlobals "WORD_SIGNS" = some (some (.str ⟨[65, 66, 67, 68, 69, 70, 71, 72, 73, 74, 75, 76, 77, 78, 79, 80, 81, 82, 83, 84, 85, 86, 87, 88, 89, 90, 45, 35, 63].toArray⟩ tk_WORD_SIGNS)))
    (k_MANY_FIGURES : PySem.W.nsIn K mainGlobals "MANY_FIGURES" = some (some (.str ⟨[48, 49, 50, 51, 52, 53, 54, 55].toArray⟩ tk_MANY_FIGURES)))
    (k_DAYS_FIGURES : PySem.W.nsIn K mainGlobals "DAYS_FIGURES" = some (some (.str ⟨[49, 50, 51, 52, 53, 54, 55].toArray⟩ tk_DAYS_FIGURES)))
    : ∃ fd : FuncData, (∀ (s : Shared) (v : Value), BindsTo s fd ⟨[v], []⟩ [("_law_script", v)]) ∧ ∀ base : Heap, K.In base → base.Ns mainGlobals mg → FnOk l.prog w K mg base CX0 90 fa fd ["_law_script"] (sp_law K) := by
  have e := hfa.symm.trans (PySem.W.mg_of X G a47)
  cases e
  have T : Tx K mg C_Never C_Most C_Least C_Both C_Either C_Not := ⟨⟨_, _, fun_mk (st := s_fits) l1 c1 k1, PySem.W.mg_of X G a1⟩,
    ⟨_, _, fun_mk (st := s_last_marks) l2 c2 k2, PySem.W.mg_of X G a2⟩,
    ⟨_, _, fun_mk (st := s_let_by) l3 c3 k3, PySem.W.mg_of X G a3⟩,
    ⟨_, _, fun_mk (st := s_count_among) l4 c4 k4, PySem.W.mg_of X G a4⟩,
    ⟨_, _, fun_mk (st := s_Never_init) l5 c5 k5, ⟨a5, i5, k5⟩⟩,
    ⟨_, _, fun_mk (st := s_Never_bad) l6 c6 k6, ⟨a6, i6, k6⟩⟩,
    ⟨_, _, fun_mk (st := s_Most_init) l7 c7 k7, ⟨a7, i7, k7⟩⟩,
    ⟨_, _, fun_mk (st := s_Most_bad) l8 c8 k8, ⟨a8, i8, k8⟩⟩,
    ⟨_, _, fun_mk (st := s_Least_init) l9 c9 k9, ⟨a9, i9, k9⟩⟩,
    ⟨_, _, fun_mk (st := s_Least_bad) l10 c10 k10, ⟨a10, i10, k10⟩⟩,
    ⟨_, _, fun_mk (st := s_Both_init) l11 c11 k11, ⟨a11, i11, k11⟩⟩,
    ⟨_, _, fun_mk (st := s_Either_init) l12 c12 k12, ⟨a12, i12, k12⟩⟩,
    ⟨_, _, fun_mk (st := s_Not_init) l13 c13 k13, ⟨a13, i13, k13⟩⟩,
    ⟨_, _, fun_mk (st := s_Both_bad) l14 c14 k14, ⟨a14, i14, k14⟩⟩,
    ⟨_, _, fun_mk (st := s_Either_bad) l15 c15 k15, ⟨a15, i15, k15⟩⟩,
    ⟨_, _, fun_mk (st := s_Not_bad) l16 c16 k16, ⟨a16, i16, k16⟩⟩,
    ⟨_, _, fun_mk (st := s_made_of) l17 c17 k17, PySem.W.mg_of X G a17⟩,
    ⟨_, _, fun_mk (st := s_is_figure) l18 c18 k18, PySem.W.mg_of X G a18⟩,
    ⟨_, _, fun_mk (st := s_is_word) l19 c19 k19, PySem.W.mg_of X G a19⟩,
    ⟨_, _, fun_mk (st := s_are_marks) l20 c20 k20, PySem.W.mg_of X G a20⟩,
    ⟨_, _, fun_mk (st := s_last_outside) l21 c21 k21, PySem.W.mg_of X G a21⟩,
    ⟨_, _, fun_mk (st := s_is_count) l22 c22 k22, PySem.W.mg_of X G a22⟩,
    ⟨_, _, fun_mk (st := s_read_plain) l23 c23 k23, PySem.W.mg_of X G a23⟩,
    ⟨_, _, fun_mk (st := s_read_words) l24 c24 k24, PySem.W.mg_of X G a24⟩,
    ⟨_, _, fun_mk (st := s_read_rule) l25 c25 k25, PySem.W.mg_of X G a25⟩,
    ⟨_, _, fun_mk (st := s_count_text) l26 c26 k26, PySem.W.mg_of X G a26⟩,
    ⟨_, _, fun_mk (st := s_Never_text) l27 c27 k27, ⟨a27, i27, k27⟩⟩,
    ⟨_, _, fun_mk (st := s_Most_text) l28 c28 k28, ⟨a28, i28, k28⟩⟩,
    ⟨_, _, fun_mk (st := s_Least_text) l29 c29 k29, ⟨a29, i29, k29⟩⟩,
    ⟨_, _, fun_mk (st := s_is_joined) l30 c30 k30, PySem.W.mg_of X G a30⟩,
    ⟨_, _, fun_mk (st := s_part_text) l31 c31 k31, PySem.W.mg_of X G a31⟩,
    ⟨_, _, fun_mk (st := s_Both_text) l32 c32 k32, ⟨a32, i32, k32⟩⟩,
    ⟨_, _, fun_mk (st := s_Either_text) l33 c33 k33, ⟨a33, i33, k33⟩⟩,
    ⟨_, _, fun_mk (st := s_Not_text) l34 c34 k34, ⟨a34, i34, k34⟩⟩,
    ⟨_, _, fun_mk (st := s_law_letters) l35 c35 k35, PySem.W.mg_of X G a35⟩,
    ⟨_, _, fun_mk (st := s_law_signs) l36 c36 k36, PySem.W.mg_of X G a36⟩,
    ⟨_, _, fun_mk (st := s_law_stream) l37 c37 k37, PySem.W.mg_of X G a37⟩,
    ⟨_, _, fun_mk (st := s_law_plain) l38 c38 k38, PySem.W.mg_of X G a38⟩,
    ⟨_, _, fun_mk (st := s_law_tree) l39 c39 k39, PySem.W.mg_of X G a39⟩,
    ⟨_, _, fun_mk (st := s_law_within) l40 c40 k40, PySem.W.mg_of X G a40⟩,
    ⟨_, _, fun_mk (st := s_law_text) l41 c41 k41, PySem.W.mg_of X G a41⟩,
    ⟨_, _, fun_mk (st := s_law_lets) l42 c42 k42, PySem.W.mg_of X G a42⟩,
    ⟨_, _, fun_mk (st := s_law_word_lies) l43 c43 k43, PySem.W.mg_of X G a43⟩,
    ⟨_, _, fun_mk (st := s_law_bad) l44 c44 k44, PySem.W.mg_of X G a44⟩,
    ⟨_, _, fun_mk (st := s_bad_days) l45 c45 k45, PySem.W.mg_of X G a45⟩,
    ⟨_, _, fun_mk (st := s_law_cell_at) l46 c46 k46, PySem.W.mg_of X G a46⟩,
    ⟨_, _, fun_mk (st := s_law) l47 c47 k47, PySem.W.mg_of X G a47⟩,
    ⟨⟨pg_Never, hd_Never, po_Never, sa_Never⟩, PySem.W.mg_of X G g_Never, mk_Never, kc_Never⟩,
    ⟨⟨pg_Most, hd_Most, po_Most, sa_Most⟩, PySem.W.mg_of X G g_Most, mk_Most, kc_Most⟩,
    ⟨⟨pg_Least, hd_Least, po_Least, sa_Least⟩, PySem.W.mg_of X G g_Least, mk_Least, kc_Least⟩,
    ⟨⟨pg_Both, hd_Both, po_Both, sa_Both⟩, PySem.W.mg_of X G g_Both, mk_Both, kc_Both⟩,
    ⟨⟨pg_Either, hd_Either, po_Either, sa_Either⟩, PySem.W.mg_of X G g_Either, mk_Either, kc_Either⟩,
    ⟨⟨pg_Not, hd_Not, po_Not, sa_Not⟩, PySem.W.mg_of X G g_Not, mk_Not, kc_Not⟩,
    ⟨⟨pg_Never, hd_Never, po_Never, sa_Never⟩, ya_Never, yn, yt, ym_Never⟩,
    i_Never_Both,
    i_Never_Either,
    ⟨⟨pg_Most, hd_Most, po_Most, sa_Most⟩, ya_Most, yn, yt, ym_Most⟩,
    i_Most_Both,
    i_Most_Either,
    ⟨⟨pg_Least, hd_Least, po_Least, sa_Least⟩, ya_Least, yn, yt, ym_Least⟩,
    i_Least_Both,
    i_Least_Either,
    ⟨⟨pg_Both, hd_Both, po_Both, sa_Both⟩, ya_Both, yn, yt, ym_Both⟩,
    i_Both_Both,
    i_Both_Either,
    ⟨⟨pg_Either, hd_Either, po_Either, sa_Either⟩, ya_Either, yn, yt, ym_Either⟩,
    i_Either_Both,
    i_Either_Either,
    ⟨⟨pg_Not, hd_Not, po_Not, sa_Not⟩, ya_Not, yn, yt, ym_Not⟩,
    i_Not_Both,
    i_Not_Either,
    n_Never_word,
    n_Most_many,
    n_Most_marks,
    n_Most_days,
    n_Least_many,
    n_Least_marks,
    n_Least_days,
    n_Both_left,
    n_Both_right,
    n_Either_left,
    n_Either_right,
    n_Not_inner,
    PySem.W.mg_none_of X G z_all,
    PySem.W.mg_none_of X G z_any,
    PySem.W.mg_none_of X G z_enumerate,
    PySem.W.mg_none_of X G z_int,
    PySem.W.mg_none_of X G z_isinstance,
    PySem.W.mg_none_of X G z_len,
    PySem.W.mg_none_of X G z_max,
    PySem.W.mg_none_of X G z_min,
    PySem.W.mg_none_of X G z_range,
    PySem.W.mg_none_of X G z_set,
    PySem.W.mg_none_of X G z_str,
    PySem.W.mg_none_of X G z_zip,
    ⟨_, PySem.W.mg_of X G k_MOST_WORDS⟩,
    ⟨_, PySem.W.mg_of X G k_MARK_SIGNS⟩,
    ⟨_, PySem.W.mg_of X G k_WORD_SIGNS⟩,
    ⟨_, PySem.W.mg_of X G k_MANY_FIGURES⟩,
    ⟨_, PySem.W.mg_of X G k_DAYS_FIGURES⟩⟩
  refine ⟨PySem.W.fnOf "law" "law" (defArgs s_law) (defBody s_law) (defScope s_law) .none kV47 dc47 pm47 an47 cd47 ct47, fun s v => .of_eq rfl, fun base _ _ => ?_⟩
  exact law_ok T (fun_mk (st := s_law) l47 c47 k47)
theorem walk {l : PySem.W.OpenLaw} {q : Program} {loose : List Str} {XP : (Str → Option Value) → Heap → Prop} {YP : World → Heap → Prop} {d : DefRec} {K : Params → PySem.W.Frag} (hn : l.most = some 63) (hdf : d.params.defaults = [])
    (hY : ∀ (w : World) (h : Heap), YP w h → (K w.params).In h)
    (F : ∀ (w : World) (mg : Str → Option Value) (fa : Addr) (h : Heap), (K w.params).In h → h.Ns mainGlobals mg → mg d.name = some (.ref fa) →
      ∃ fd : FuncData, (∀ (s : Shared) (u : Value), BindsTo s fd ⟨[u], []⟩ [("_law_script", u)]) ∧ ∀ base : Heap, (K w.params).In base → base.Ns mainGlobals mg → FnOk l.prog w (K w.params) mg base CX0 90 fa fd ["_law_script"] (sp_law (K w.params))) :
    PySem.W.WalkO q loose XP YP l.row.toRowW d [] (fun f vs => PySem.call f vs) :=
  L2.walk_of (n := 63) (k := 90) (x := "_law_script") (CX := fun _ => CX0) (sp := fun w => sp_law (K w.params)) hn (by decide) hdf ⟨rfl, by decide, by decide⟩ hY F (fun _ _ a ns hl _ hS => ⟨a, ns, rfl, hS, hl, fun _ => rfl⟩) fun _ _ _ _ _ z => z
theorem walkX {q : Program} {loose : List Str} {XP : (Str → Option Value) → Heap → Prop} {K : Params → PySem.W.Frag} {as : List Addr} {n t : Nat} {r : PySem.W.RowW} {d : DefRec} {kwd : List (Str × Expr)} {run : Value → List Value → Sem Value} (e : ∀ P, as = (K P).map (·.1))
    (h : PySem.W.WalkO q loose XP (fun w hp => (K w.params).In hp) r d kwd run) : PySem.W.WalkX q loose XP (PySem.W.X.obsZ as) (PySem.W.X.valZ K n t) r d kwd run := by
  intro w s₀ s₁ mg mb G Y a o pm cd doc dV kV h1 h2 h3 h4 h5 h6 args vals as' L p1 p2 p3 p4 p5
  exact h w s₀ s₁ mg mb G (PySem.W.InK.keeps w _ _ (PySem.W.X.z_facts e Y).2.1 L.keeps) a o pm cd doc dV kV h1 h2 h3 h4 h5 h6 args vals as' p1 p2 p3 p4 p5
end K08
def PySem.W.Fast.tw11766259878851059319 : Unit := ()
def PySem.W.Fast.tw6225738195272294630 : Unit := ()
def PySem.W.Fast.tw1345806428715089315 : Unit := ()
def PySem.W.Fast.tw384498921301955195 : Unit := ()
def PySem.W.Fast.tw2305164029329572060 : Unit := ()
def PySem.W.Fast.tw7904310584461499504 : Unit := ()
def PySem.W.Fast.tw16224882429002311851 : Unit := ()
def PySem.W.Fast.tw1951244444479797108 : Unit := ()
def PySem.W.Fast.tw743801748254145915 : Unit := ()
def PySem.W.Fast.tw17644709836674303358 : Unit := ()
def PySem.W.Fast.tw1480283567186292739 : Unit := ()
def PySem.W.Fast.tw17380359759883385938 : Unit := ()
def PySem.W.Fast.tw3704611861086035154 : Unit := ()
def PySem.W.Fast.tw12675878063024547211 : Unit := ()
def PySem.W.Fast.tw13781518557495569695 : Unit := ()
def PySem.W.Fast.tw1243515974717453596 : Unit := ()
def PySem.W.Fast.tw13923258482753924738 : Unit := ()
def PySem.W.Fast.tw11273847548862422681 : Unit := ()
def PySem.W.Fast.tw13350307667015237539 : Unit := ()
def PySem.W.Fast.tw17681653144079007007 : Unit := ()
def PySem.W.Fast.tw4613962607357867490 : Unit := ()
def PySem.W.Fast.tw17701389832080522471 : Unit := ()
def PySem.W.Fast.tw2064620491356633687 : Unit := ()
def PySem.W.Fast.tw18226827354157005104 : Unit := ()
def PySem.W.Fast.tw10370969720343034828 : Unit := ()
def PySem.W.Fast.tw9287622754995686034 : Unit := ()
def PySem.W.Fast.tw4979051938250915368 : Unit := ()
def PySem.W.Fast.tw4853714642303562782 : Unit := ()
def PySem.W.Fast.tw1838986934750063177 : Unit := ()
def PySem.W.Fast.tw8673508053288060479 : Unit := ()
def PySem.W.Fast.tw1683516405162384878 : Unit := ()
def PySem.W.Fast.tw15532492394267949972 : Unit := ()
def PySem.W.Fast.tw13504272990304910507 : Unit := ()
def PySem.W.Fast.tw8535342651917556261 : Unit := ()
def PySem.W.Fast.tw13944309343892242290 : Unit := ()
def PySem.W.Fast.tw4996956156896634237 : Unit := ()
def PySem.W.Fast.tw7703133304181477639 : Unit := ()
def PySem.W.Fast.tw309487292630447919 : Unit := ()
def PySem.W.Fast.tw12870967830314299415 : Unit := ()
def PySem.W.Fast.tw10900193840424427204 : Unit := ()
def PySem.W.Fast.tw9321267668445762939 : Unit := ()
def PySem.W.Fast.tw9188612418646344480 : Unit := ()
def PySem.W.Fast.tw10630886772631391297 : Unit := ()
def PySem.W.Fast.tw12983034053948786262 : Unit := ()
def PySem.W.Fast.tw8746228323854240916 : Unit := ()
def PySem.W.Fast.tw5299051907522273729 : Unit := ()
def PySem.W.Fast.tw13239723117843097251 : Unit := ()
def PySem.W.Fast.tw4047728216585965900 : Unit := ()
def PySem.W.Fast.tw18068329537444551527 : Unit := ()
def PySem.W.Fast.tw5741124129635039156 : Unit := ()
def PySem.W.Fast.tw12842816039772955465 : Unit := ()
def PySem.W.Fast.tw8482664396999996957 : Unit := ()
def PySem.W.Fast.tw14729632966323874797 : Unit := ()
def PySem.W.Fast.tw7274609549405352116 : Unit := ()
def PySem.W.Fast.tw11143172220928767991 : Unit := ()
def PySem.W.Fast.tw3450239286815291924 : Unit := ()
def PySem.W.Fast.tw11103713983232765536 : Unit := ()
def PySem.W.Fast.tw2123501905451110732 : Unit := ()
def PySem.W.Fast.tw15947733694966838205 : Unit := ()
def PySem.W.Fast.tw12417305862377608829 : Unit := ()
def PySem.W.Fast.tw13530485493654321327 : Unit := ()
def PySem.W.Fast.tw4632272557543790032 : Unit := ()
def PySem.W.Fast.tw14059161466106033275 : Unit := ()
def PySem.W.Fast.tw3629757826559455977 : Unit := ()
def PySem.W.Fast.tw15409917744478191787 : Unit := ()
def PySem.W.Fast.tw18274849129744414366 : Unit := ()
def PySem.W.Fast.tw14377813523344130554 : Unit := ()
def PySem.W.Fast.tw4168790445149466547 : Unit := ()
def PySem.W.Fast.tw2947799743862277622 : Unit := ()
def PySem.W.Fast.tw8058743307561717434 : Unit := ()
def PySem.W.Fast.tw9918112752542087344 : Unit := ()
def PySem.W.Fast.tw8559287418979723341 : Unit := ()
def PySem.W.Fast.tw8691561872683446641 : Unit := ()
def PySem.W.Fast.tw2662522548627967310 : Unit := ()
def PySem.W.Fast.tw4959475090918015676 : Unit := ()
def PySem.W.Fast.tw15888475199093846236 : Unit := ()
def PySem.W.Fast.tw17159575619788984363 : Unit := ()
def PySem.W.Fast.tw6222668557268644307 : Unit := ()
def PySem.W.Fast.tw4140415775149125719 : Unit := ()
def PySem.W.Fast.tw2450296737661939296 : Unit := ()
def PySem.W.Fast.tw4296971893045054785 : Unit := ()
def PySem.W.Fast.tw13899617694652459898 : Unit := ()
def PySem.W.Fast.tw13222558965677114899 : Unit := ()
def PySem.W.Fast.tw13593440324374055546 : Unit := ()
def PySem.W.Fast.tw3900429945663423198 : Unit := ()
def PySem.W.Fast.tw11737981280700226035 : Unit := ()
def PySem.W.Fast.tw9940310931550219975 : Unit := ()
def PySem.W.Fast.tw18057845366985924694 : Unit := ()
def PySem.W.Fast.tw17344889631054060977 : Unit := ()
def PySem.W.Fast.tw11095952544008451432 : Unit := ()
def PySem.W.Fast.tw10336193624002990104 : Unit := ()
def PySem.W.Fast.tw5490160783995952907 : Unit := ()
def PySem.W.Fast.tw12815437459582093601 : Unit := ()
def PySem.W.Fast.tw2559052211812948557 : Unit := ()
def PySem.W.Fast.tw6510694920555014037 : Unit := ()
def PySem.W.Fast.tw4723264335068613056 : Unit := ()
def PySem.W.Fast.tw2730988392623845553 : Unit := ()
def PySem.W.Fast.tw3930080289689604583 : Unit := ()
def PySem.W.Fast.tw13907386586509124225 : Unit := ()
def PySem.W.Fast.tw6568621636103965893 : Unit := ()
def PySem.W.Fast.tw675327756169362263 : Unit := ()
def PySem.W.Fast.tw241403000184816845 : Unit := ()
def PySem.W.Fast.tw15731484896818869539 : Unit := ()
def PySem.W.Fast.tw9772222721446549802 : Unit := ()
def PySem.W.Fast.tw1054672450394950399 : Unit := ()
def PySem.W.Fast.tw2881130427626615189 : Unit := ()
def PySem.W.Fast.tw9291433389477112471 : Unit := ()
def PySem.W.Fast.tw17855337780558523159 : Unit := ()
def PySem.W.Fast.tw4886476717884059407 : Unit := ()
def PySem.W.Fast.tw15232072741868872354 : Unit := ()
def PySem.W.Fast.tw6234954322181378575 : Unit := ()
def PySem.W.Fast.tw4782551149407135966 : Unit := ()
def PySem.W.Fast.tw13376437533471462147 : Unit := ()
def PySem.W.Fast.tw17637270292309295081 : Unit := ()
def PySem.W.Fast.tw10117142994448533548 : Unit := ()
def PySem.W.Fast.tw16082365518580662890 : Unit := ()
def PySem.W.Fast.tw1039111702665954010 : Unit := ()
def PySem.W.Fast.tw6026781168171439498 : Unit := ()
def PySem.W.Fast.tw6923241998942720970 : Unit := ()
def PySem.W.Fast.tw9999982665775574818 : Unit := ()
def PySem.W.Fast.tw16130016074656307620 : Unit := ()
def PySem.W.Fast.tw8957582812896970626 : Unit := ()
def PySem.W.Fast.tw12229917535354467343 : Unit := ()
def PySem.W.Fast.tw14925899149082727810 : Unit := ()
def PySem.W.Fast.tw18001322252014813627 : Unit := ()
def PySem.W.Fast.tw5665973309179440247 : Unit := ()
def PySem.W.Fast.tw7053370941364788934 : Unit := ()
def PySem.W.Fast.tw16776837913817839798 : Unit := ()
def PySem.W.Fast.tw11335858542260078531 : Unit := ()
def PySem.W.Fast.tw5493437929598996496 : Unit := ()
def PySem.W.Fast.tw5709262304263979235 : Unit := ()
def PySem.W.Fast.tw11311835992654423702 : Unit := ()
def PySem.W.Fast.tw7730286676280068963 : Unit := ()
def PySem.W.Fast.tw11278079183989975439 : Unit := ()
def PySem.W.Fast.tw2861148934876498783 : Unit := ()
def PySem.W.Fast.tw7584224135284070651 : Unit := ()
def PySem.W.Fast.tw4659119224818936220 : Unit := ()
def PySem.W.Fast.tw8714339814357340613 : Unit := ()
def PySem.W.Fast.tw16222927733724015161 : Unit := ()
def PySem.W.Fast.tw12283935024052862802 : Unit := ()
def PySem.W.Fast.tw16868125280509665691 : Unit := ()
def PySem.W.Fast.tw8197582010428131293 : Unit := ()
def PySem.W.Fast.tw4143019419877516838 : Unit := ()
def PySem.W.Fast.tw4292689880056707863 : Unit := ()
def PySem.W.Fast.tw11194187106405142933 : Unit := ()
def PySem.W.Fast.tw12599625854031708358 : Unit := ()
def PySem.W.Fast.tw1632676640941996606 : Unit := ()
def PySem.W.Fast.tw13634415446338393380 : Unit := ()
def PySem.W.Fast.tw211508136749566615 : Unit := ()
def PySem.W.Fast.tw11772177735102175 : Unit := ()
def PySem.W.Fast.tw17902721976524642533 : Unit := ()
def PySem.W.Fast.tw306394221268612374 : Unit := ()
def PySem.W.Fast.tw520129696561000698 : Unit := ()
def PySem.W.Fast.tw11131352041067626198 : Unit := ()
def PySem.W.Fast.tw10366137936543175644 : Unit := ()
def PySem.W.Fast.tw14670367057024440704 : Unit := ()
def PySem.W.Fast.tw8507316087879373377 : Unit := ()
def PySem.W.Fast.tw1072107991888329404 : Unit := ()
def PySem.W.Fast.tw553450024956633165 : Unit := ()
def PySem.W.Fast.tw3554236244630148664 : Unit := ()
def PySem.W.Fast.tw12527760061463370110 : Unit := ()
def PySem.W.Fast.tw7324929493565316462 : Unit := ()
def PySem.W.Fast.tw3912088217016094892 : Unit := ()
def PySem.W.Fast.tw13010198751960465499 : Unit := ()
def PySem.W.Fast.tw8145891064690238531 : Unit := ()
def PySem.W.Fast.tw10538950806090673692 : Unit := ()
def PySem.W.Fast.tw2151135247412119557 : Unit := ()
def PySem.W.Fast.tw4105235908209458979 : Unit := ()
def PySem.W.Fast.tw15948561324382242871 : Unit := ()
def PySem.W.Fast.tw13745609139909171667 : Unit := ()
def PySem.W.Fast.tw12402174236960690139 : Unit := ()
def PySem.W.Fast.tw3022354242384784178 : Unit := ()
def PySem.W.Fast.tw8087891418520393875 : Unit := ()
def PySem.W.Fast.tw17079378334765646069 : Unit := ()
def PySem.W.Fast.tw5547637983615481011 : Unit := ()
def PySem.W.Fast.tw12264875555579095293 : Unit := ()
def PySem.W.Fast.tw4368416303024008308 : Unit := ()
def PySem.W.Fast.tw12943063195488646755 : Unit := ()
def PySem.W.Fast.tw14754424635775147443 : Unit := ()
def PySem.W.Fast.tw7574929039252009887 : Unit := ()
def PySem.W.Fast.tw6151080911229282003 : Unit := ()
def PySem.W.Fast.tw6812036053557112521 : Unit := ()
def PySem.W.Fast.tw3664831210131711812 : Unit := ()
def PySem.W.Fast.tw16385390690906815215 : Unit := ()
def PySem.W.Fast.tw17708720876665755257 : Unit := ()
def PySem.W.Fast.tw4365175808943340135 : Unit := ()
def PySem.W.Fast.tw16399354813476831173 : Unit := ()
def PySem.W.Fast.tw8489321509212949482 : Unit := ()
def PySem.W.Fast.tw10827364797605249301 : Unit := ()
def PySem.W.Fast.tw13600991420649734416 : Unit := ()
def PySem.W.Fast.tw21615735608944955 : Unit := ()
def PySem.W.Fast.tw3647697895505491367 : Unit := ()
def PySem.W.Fast.tw2228592490486228467 : Unit := ()
def PySem.W.Fast.tw452195153305526419 : Unit := ()
def PySem.W.Fast.tw15027961052717267367 : Unit := ()
def PySem.W.Fast.tw4734187347498463422 : Unit := ()
def PySem.W.Fast.tw2891469007635111444 : Unit := ()
def PySem.W.Fast.tw13133657191063272538 : Unit := ()
def PySem.W.Fast.tw14392089309226225914 : Unit := ()
def PySem.W.Fast.tw15125037261448915396 : Unit := ()
def PySem.W.Fast.tw2023191883826849004 : Unit := ()
def PySem.W.Fast.tw14019358023669129795 : Unit := ()
def PySem.W.Fast.tw12257046567105493555 : Unit := ()
def PySem.W.Fast.tw7809107648918370194 : Unit := ()
def PySem.W.Fast.tw18114237788822185758 : Unit := ()
def PySem.W.Fast.tw16402681463653649329 : Unit := ()
def PySem.W.Fast.tw7431617333963970339 : Unit := ()
def PySem.W.Fast.tw1784325911377320255 : Unit := ()
def PySem.W.Fast.tw2672448371626115910 : Unit := ()
def PySem.W.Fast.tw3500985132455365538 : Unit := ()
def PySem.W.Fast.tw1357853118665284716 : Unit := ()
def PySem.W.Fast.tw15291749569575336768 : Unit := ()
def PySem.W.Fast.tw16133997004092986086 : Unit := ()
def PySem.W.Fast.tw12920206514594021165 : Unit := ()
def PySem.W.Fast.tw5490998844282217366 : Unit := ()
def PySem.W.Fast.tw5857317702200972039 : Unit := ()
def PySem.W.Fast.tw8102605109403852630 : Unit := ()
def PySem.W.Fast.tw12464615145688279483 : Unit := ()
def PySem.W.Fast.tw17527176845716991881 : Unit := ()
def PySem.W.Fast.tw10831700355092112843 : Unit := ()
def PySem.W.Fast.tw2095012397484445218 : Unit := ()
def PySem.W.Fast.tw9426192131831303338 : Unit := ()
def PySem.W.Fast.tw16660938319671582908 : Unit := ()
def PySem.W.Fast.tw9088626208444136785 : Unit := ()
def PySem.W.Fast.tw15431019673013848768 : Unit := ()
def PySem.W.Fast.tw10982443598711724543 : Unit := ()
def PySem.W.Fast.tw1668060435643920690 : Unit := ()
def PySem.W.Fast.tw2842768927093788054 : Unit := ()
def PySem.W.Fast.tw17077352637867623080 : Unit := ()
def PySem.W.Fast.tw313147822415527768 : Unit := ()
def PySem.W.Fast.tw8223129127991769067 : Unit := ()
def PySem.W.Fast.tw10691144893893896174 : Unit := ()
def PySem.W.Fast.tw7012031725264654347 : Unit := ()
def PySem.W.Fast.tw11016808657388008976 : Unit := ()
def PySem.W.Fast.tw11070753424082928061 : Unit := ()
def PySem.W.Fast.tw15368537650112170271 : Unit := ()
def PySem.W.Fast.tw1934861607679705329 : Unit := ()
def PySem.W.Fast.tw12660401507522639851 : Unit := ()
def PySem.W.Fast.tw9362617636318264592 : Unit := ()
def PySem.W.Fast.tw17692070937221188854 : Unit := ()
def PySem.W.Fast.tw6249999660637979523 : Unit := ()
def PySem.W.Fast.tw830134845335829035 : Unit := ()
def PySem.W.Fast.tw733657283792017350 : Unit := ()
def PySem.W.Fast.tw11545008508292171243 : Unit := ()
def PySem.W.Fast.tw15402091255631809396 : Unit := ()
def PySem.W.Fast.tw3670793498425379811 : Unit := ()
def PySem.W.Fast.tw1745302309488857012 : Unit := ()
def PySem.W.Fast.tw10410745903574151106 : Unit := ()
def PySem.W.Fast.tw4878298718398147834 : Unit := ()
def PySem.W.Fast.tw2786641809180768962 : Unit := ()
def PySem.W.Fast.tw13635644170954863252 : Unit := ()
def PySem.W.Fast.tw14954675428080729411 : Unit := ()
def PySem.W.Fast.tw10422524578986447303 : Unit := ()
def PySem.W.Fast.tw9642245809596806117 : Unit := ()
def PySem.W.Fast.tw9591502785691257721 : Unit := ()
def PySem.W.Fast.tw1895533086244655876 : Unit := ()
def PySem.W.Fast.tw6058762782947281843 : Unit := ()
def PySem.W.Fast.tw17458208664650586077 : Unit := ()
def PySem.W.Fast.tw5325725553363487773 : Unit := ()
def PySem.W.Fast.tw10493096863872878685 : Unit := ()
def PySem.W.Fast.tw6986732997899426760 : Unit := ()
def PySem.W.Fast.tw16717410991905962942 : Unit := ()
def PySem.W.Fast.tw10754654398715591944 : Unit := ()
def PySem.W.Fast.tw11898967494463780160 : Unit := ()
def PySem.W.Fast.tw3160731960103228939 : Unit := ()
def PySem.W.Fast.tw2471454287191325470 : Unit := ()
def PySem.W.Fast.tw8183558949765595478 : Unit := ()
def PySem.W.Fast.tw15923427495786874358 : Unit := ()
def PySem.W.Fast.tw8365053003248830796 : Unit := ()
def PySem.W.Fast.tw11354674422032971747 : Unit := ()
def PySem.W.Fast.tw14218868894293698185 : Unit := ()
def PySem.W.Fast.tw7140851526073820232 : Unit := ()
def PySem.W.Fast.tw2307720048468115276 : Unit := ()
def PySem.W.Fast.tw2715521802965309440 : Unit := ()
def PySem.W.Fast.tw5916263203838793543 : Unit := ()
def PySem.W.Fast.tw17902509672240359925 : Unit := ()
def PySem.W.Fast.tw141990618935938292 : Unit := ()
def PySem.W.Fast.tw2130722406594149400 : Unit := ()
def PySem.W.Fast.tw6405531418360561011 : Unit := ()
def PySem.W.Fast.tw13017942646951301306 : Unit := ()
def PySem.W.Fast.tw18040694766759148663 : Unit := ()
def PySem.W.Fast.tw4287532996665930144 : Unit := ()
def PySem.W.Fast.tw819604779122346020 : Unit := ()
def PySem.W.Fast.tw17023284903491131672 : Unit := ()
def PySem.W.Fast.tw17380018729835167344 : Unit := ()
def PySem.W.Fast.tw2783068277112967559 : Unit := ()
def PySem.W.Fast.tw1514440233065083302 : Unit := ()
def PySem.W.Fast.tw3480421193830344390 : Unit := ()
def PySem.W.Fast.tw1905129015339406926 : Unit := ()
def PySem.W.Fast.tw1315477125142604533 : Unit := ()
def PySem.W.Fast.tw5825516893229394735 : Unit := ()
def PySem.W.Fast.tw2628740443564573556 : Unit := ()
def PySem.W.Fast.tw12255031171861435882 : Unit := ()
def PySem.W.Fast.tw11060557224336007392 : Unit := ()
def PySem.W.Fast.tw5243326359116641397 : Unit := ()
def PySem.W.Fast.tw17787545621247264878 : Unit := ()
def PySem.W.Fast.tw6633716864764779317 : Unit := ()
def PySem.W.Fast.tw18377263475370308199 : Unit := ()
def PySem.W.Fast.tw8986207504760818745 : Unit := ()
def PySem.W.Fast.tw273825238032700178 : Unit := ()
def PySem.W.Fast.tw5595330456069731039 : Unit := ()
def PySem.W.Fast.tw12778424132496813810 : Unit := ()
def PySem.W.Fast.tw11711498691903436639 : Unit := ()
def PySem.W.Fast.tw15481727953622443122 : Unit := ()
def PySem.W.Fast.tw10507884952629524271 : Unit := ()
def PySem.W.Fast.tw15175413242418364248 : Unit := ()
def PySem.W.Fast.tw13794145708924290945 : Unit := ()
def PySem.W.Fast.tw10801242240882327596 : Unit := ()
def PySem.W.Fast.tw17580218653621248077 : Unit := ()
def PySem.W.Fast.tw6053059610280147894 : Unit := ()
def PySem.W.Fast.tw2645228425588785261 : Unit := ()
def PySem.W.Fast.tw5125845454968177515 : Unit := ()
def PySem.W.Fast.tw17762194233111871985 : Unit := ()
def PySem.W.Fast.tw2215107437276591774 : Unit := ()
def PySem.W.Fast.tw15232870190448569934 : Unit := ()
def PySem.W.Fast.tw9545707480902877214 : Unit := ()
def PySem.W.Fast.tw4906905363104207597 : Unit := ()
def PySem.W.Fast.tw3989956125207671805 : Unit := ()
def PySem.W.Fast.tw15803238909265502542 : Unit := ()
def PySem.W.Fast.tw10133598383291729080 : Unit := ()
def PySem.W.Fast.tw15184709530629509524 : Unit := ()
def PySem.W.Fast.tw15105512838121816936 : Unit := ()
def PySem.W.Fast.tw2428361067288926972 : Unit := ()
def PySem.W.Fast.tw3425301168420262454 : Unit := ()
def PySem.W.Fast.tw18246068410820432202 : Unit := ()
def PySem.W.Fast.tw7530303692855310865 : Unit := ()
def PySem.W.Fast.tw8998141011091458137 : Unit := ()
def PySem.W.Fast.tw13936698461026995723 : Unit := ()
def PySem.W.Fast.tw3665579577040761006 : Unit := ()
def PySem.W.Fast.tw13136185118739707622 : Unit := ()
def PySem.W.Fast.tw12625384887810647771 : Unit := ()
def PySem.W.Fast.tw2783822912066082835 : Unit := ()
def PySem.W.Fast.tw304599127290756624 : Unit := ()
def PySem.W.Fast.tw4898228346926632631 : Unit := ()
def PySem.W.Fast.tw11067553064244450486 : Unit := ()
def PySem.W.Fast.tw8140834447897064538 : Unit := ()
def PySem.W.Fast.tw3786067223509495529 : Unit := ()
def PySem.W.Fast.tw8715796202554301228 : Unit := ()
def PySem.W.Fast.tw10791060455221700409 : Unit := ()
def PySem.W.Fast.tw12369397101608999764 : Unit := ()
def PySem.W.Fast.tw17843409759928211947 : Unit := ()
def PySem.W.Fast.tw2131695309837963679 : Unit := ()
def PySem.W.Fast.tw9362708006833883847 : Unit := ()
def PySem.W.Fast.tw16615087184043187612 : Unit := ()
def PySem.W.Fast.tw6644085730769961938 : Unit := ()
def PySem.W.Fast.tw7324551673893050960 : Unit := ()
def PySem.W.Fast.tw15682770063037464866 : Unit := ()
def PySem.W.Fast.tw9041626496589442499 : Unit := ()
def PySem.W.Fast.tw1873447808410029344 : Unit := ()
def PySem.W.Fast.tw4200826955446185246 : Unit := ()
def PySem.W.Fast.tw2168975485240534235 : Unit := ()
def PySem.W.Fast.tw16188731578820136641 : Unit := ()
def PySem.W.Fast.tw9752085200075832738 : Unit := ()
def PySem.W.Fast.tw4119570582789122935 : Unit := ()
def PySem.W.Fast.tw9932899753095603438 : Unit := ()
def PySem.W.Fast.tw11761380527200663834 : Unit := ()
def PySem.W.Fast.tw8142737207880344490 : Unit := ()
def PySem.W.Fast.tw2119583850030874718 : Unit := ()
def PySem.W.Fast.tw7531909924808534616 : Unit := ()
def PySem.W.Fast.tw7241034552105326360 : Unit := ()
def PySem.W.Fast.tw12115667142236727408 : Unit := ()
def PySem.W.Fast.tw6726068134972451560 : Unit := ()
def PySem.W.Fast.tw14132611495948759006 : Unit := ()
def PySem.W.Fast.tw3797178040255600196 : Unit := ()
def PySem.W.Fast.tw10303318414682272910 : Unit := ()
def PySem.W.Fast.tw4858116060033743661 : Unit := ()
def PySem.W.Fast.tw15739579954829300342 : Unit := ()
def PySem.W.Fast.tw11133366199522213585 : Unit := ()
def PySem.W.Fast.tw655297460914843190 : Unit := ()
def PySem.W.Fast.tw1534670365066018342 : Unit := ()
def PySem.W.Fast.tw3217760093800741433 : Unit := ()
def PySem.W.Fast.tw9157253284847471415 : Unit := ()
def PySem.W.Fast.tw3130785377589966818 : Unit := ()
def PySem.W.Fast.tw4646344144931550143 : Unit := ()
def PySem.W.Fast.tw7535660126775838373 : Unit := ()
def PySem.W.Fast.tw4220251471849282340 : Unit := ()
def PySem.W.Fast.tw10349477347594652156 : Unit := ()
def PySem.W.Fast.tw13776988241825504391 : Unit := ()
def PySem.W.Fast.tw11400030193454529478 : Unit := ()
def PySem.W.Fast.tw277722698508876412 : Unit := ()
def PySem.W.Fast.tw12180051308315371027 : Unit := ()
def PySem.W.Fast.tw13833120760224783152 : Unit := ()
def PySem.W.Fast.tw8831767289733334610 : Unit := ()
def PySem.W.Fast.tw11164071631475429251 : Unit := ()
def PySem.W.Fast.tw14992472957407714753 : Unit := ()
def PySem.W.Fast.tw11552626148534834505 : Unit := ()
def PySem.W.Fast.tw16602322289763935198 : Unit := ()
def PySem.W.Fast.tw18305453284757814040 : Unit := ()
def PySem.W.Fast.tw17303758315467268160 : Unit := ()
def PySem.W.Fast.tw9019560757319297601 : Unit := ()
def PySem.W.Fast.tw9259575309122293973 : Unit := ()
def PySem.W.Fast.tw4134605296978189956 : Unit := ()
def PySem.W.Fast.tw3024665741324848831 : Unit := ()
def PySem.W.Fast.tw8259074105714883308 : Unit := ()
def PySem.W.Fast.tw6463216987845954184 : Unit := ()
def PySem.W.Fast.tw4144606156558393070 : Unit := ()
def PySem.W.Fast.tw11538144440675212048 : Unit := ()
def PySem.W.Fast.tw3641472377582450952 : Unit := ()
def PySem.W.Fast.tw4783471645971142139 : Unit := ()
def PySem.W.Fast.tw16761300704761557500 : Unit := ()
def PySem.W.Fast.tw13558062738117411784 : Unit := ()
def PySem.W.Fast.tw4561464965651228164 : Unit := ()
def PySem.W.Fast.tw7293274983661374159 : Unit := ()
def PySem.W.Fast.tw2092387168193524499 : Unit := ()
def PySem.W.Fast.tw10953526123387618112 : Unit := ()
def PySem.W.Fast.tw13915681694596600017 : Unit := ()
def PySem.W.Fast.tw5118500860483674657 : Unit := ()
def PySem.W.Fast.tw7094082504734684107 : Unit := ()
def PySem.W.Fast.tw12826944528956795517 : Unit := ()
def PySem.W.Fast.tw4095804092023277409 : Unit := ()
def PySem.W.Fast.tw15706714265273452383 : Unit := ()
def PySem.W.Fast.tw9211416087650012916 : Unit := ()
def PySem.W.Fast.tw5533743381404933481 : Unit := ()
def PySem.W.Fast.tw10635306871029625736 : Unit := ()
def PySem.W.Fast.tw4476754853677506702 : Unit := ()
def PySem.W.Fast.tw8515646241435320383 : Unit := ()
def PySem.W.Fast.tw1769670118120104044 : Unit := ()
def PySem.W.Fast.tw15410101855822823490 : Unit := ()
def PySem.W.Fast.tw1936130331336408762 : Unit := ()
def PySem.W.Fast.tw16953370834212636836 : Unit := ()
def PySem.W.Fast.tw12828868981462327562 : Unit := ()
def PySem.W.Fast.tw3911128887074046988 : Unit := ()
def PySem.W.Fast.tw15761998717377234429 : Unit := ()
def PySem.W.Fast.tw7136540539746219586 : Unit := ()
def PySem.W.Fast.tw475444968573015298 : Unit := ()
def PySem.W.Fast.tw3571950078703008733 : Unit := ()
def PySem.W.Fast.tw14829815912676927738 : Unit := ()
def PySem.W.Fast.tw13182901926496557445 : Unit := ()
def PySem.W.Fast.tw7610210630639658649 : Unit := ()
def PySem.W.Fast.tw10790708417545875817 : Unit := ()
def PySem.W.Fast.tw2216678120724962437 : Unit := ()
def PySem.W.Fast.tw8280854163674515828 : Unit := ()
def PySem.W.Fast.tw6985931818167532240 : Unit := ()
def PySem.W.Fast.tw12754416519633194380 : Unit := ()
def PySem.W.Fast.tw15610736231658173161 : Unit := ()
def PySem.W.Fast.tw3863274712590793076 : Unit := ()
def PySem.W.Fast.tw17388431623624092158 : Unit := ()
def PySem.W.Fast.tw14168171166227315567 : Unit := ()
def PySem.W.Fast.tw3117137746144243738 : Unit := ()
def PySem.W.Fast.tw14385365400594268401 : Unit := ()
def PySem.W.Fast.tw8723916165793428420 : Unit := ()
def PySem.W.Fast.tw5920102309942109360 : Unit := ()
def PySem.W.Fast.tw11460988017696922777 : Unit := ()
def PySem.W.Fast.tw4037694819259323660 : Unit := ()
def PySem.W.Fast.tw1810168241187071189 : Unit := ()
def PySem.W.Fast.tw8377130774470933081 : Unit := ()
def PySem.W.Fast.tw6496336226679146743 : Unit := ()
def PySem.W.Fast.tw2293586945288994233 : Unit := ()
def PySem.W.Fast.tw8349974739072157103 : Unit := ()
def PySem.W.Fast.tw9722641973276854304 : Unit := ()
def PySem.W.Fast.tw18329410159307237226 : Unit := ()
def PySem.W.Fast.tw14480845243209359566 : Unit := ()
def PySem.W.Fast.tw10446511383795295760 : Unit := ()
def PySem.W.Fast.tw8096969588928155802 : Unit := ()
def PySem.W.Fast.tw15600561709148186996 : Unit := ()
def PySem.W.Fast.tw16912121930711582960 : Unit := ()
def PySem.W.Fast.tw18311282092484550766 : Unit := ()
def PySem.W.Fast.tw17168041089125187219 : Unit := ()
def PySem.W.Fast.tw11577908680289256142 : Unit := ()
def PySem.W.Fast.tw9568895461243868333 : Unit := ()
def PySem.W.Fast.tw6804275191271863522 : Unit := ()
def PySem.W.Fast.tw6996481447966942155 : Unit := ()
def PySem.W.Fast.tw2320927771103123220 : Unit := ()
def PySem.W.Fast.tw7692510288253500333 : Unit := ()
def PySem.W.Fast.tw3293781403771771175 : Unit := ()
def PySem.W.Fast.tw4232885005859683824 : Unit := ()
def PySem.W.Fast.tw4453262808464089278 : Unit := ()
def PySem.W.Fast.tw2803551802404728695 : Unit := ()
def PySem.W.Fast.tw9761190699176905685 : Unit := ()
def PySem.W.Fast.tw17185848974785807946 : Unit := ()
def PySem.W.Fast.tw7560127913391133418 : Unit := ()
def PySem.W.Fast.tw11435097284898003320 : Unit := ()
def PySem.W.Fast.tw3622400387605594304 : Unit := ()
def PySem.W.Fast.tw7507419961405214888 : Unit := ()
def PySem.W.Fast.tw12793418869978079830 : Unit := ()
def PySem.W.Fast.tw1686981025998340901 : Unit := ()
def PySem.W.Fast.tw7698563002983497303 : Unit := ()
def PySem.W.Fast.tw2660282145499508232 : Unit := ()
def PySem.W.Fast.tw13396421971773861460 : Unit := ()
def PySem.W.Fast.tw14752579759466345498 : Unit := ()
def PySem.W.Fast.tw8953192966475947234 : Unit := ()
def PySem.W.Fast.tw4314165238965503082 : Unit := ()
def PySem.W.Fast.tw1806406039111636705 : Unit := ()
open PySem PySem.W PyProof.Rows
set_option maxRecDepth 100000 in
set_option maxHeartbeats 0 in
theorem PySem.Challenge.cw_rotafair_k08_whole_rules_of_texts_holds : PySem.Challenge.rw_rotafair_k08_whole_rules_of_texts.Holds := by
  w_on; o_law; z_head; (case hw => w_witness2)
  k_fill
  refine K08.walkX (fun _ => rfl) ?_
  refine K08.walk (l := PySem.Challenge.rw_rotafair_k08_whole_rules_of_texts) rfl rfl (fun w h Y => Y) ?F
  case F =>
    intro w mg fa h KX G hmg
    refine' K08.all_mk KX G hmg ?g_Never ?g_Most ?g_Least ?g_Both ?g_Either ?g_Not ?a1 ?l1 ?c1 ?k1 ?a2 ?l2 ?c2 ?k2 ?a3 ?l3 ?c3 ?k3 ?a4 ?l4 ?c4 ?k4 ?a5 ?i5 ?l5 ?c5 ?k5 ?a6 ?i6 ?l6 ?c6 ?k6 ?a7 ?i7 ?l7 ?c7 ?k7 ?a8 ?i8 ?l8 ?c8 ?k8 ?a9 ?i9 ?l9 ?c9 ?k9 ?a10 ?i10 ?l10 ?c10 ?k10 ?a11 ?i11 ?l11 ?c11 ?k11 ?a12 ?i12 ?l12 ?c12 ?k12 ?a13 ?i13 ?l13 ?c13 ?k13 ?a14 ?i14 ?l14 ?c14 ?k14 ?a15 ?i15 ?l15 ?c15 ?k15 ?a16 ?i16 ?l16 ?c16 ?k16 ?a17 ?l17 ?c17 ?k17 ?a18 ?l18 ?c18 ?k18 ?a19 ?l19 ?c19 ?k19 ?a20 ?l20 ?c20 ?k20 ?a21 ?l21 ?c21 ?k21 ?a22 ?l22 ?c22 ?k22 ?a23 ?l23 ?c23 ?k23 ?a24 ?l24 ?c24 ?k24 ?a25 ?l25 ?c25 ?k25 ?a26 ?l26 ?c26 ?k26 ?a27 ?i27 ?l27 ?c27 ?k27 ?a28 ?i28 ?l28 ?c28 ?k28 ?a29 ?i29 ?l29 ?c29 ?k29 ?a30 ?l30 ?c30 ?k30 ?a31 ?l31 ?c31 ?k31 ?a32 ?i32 ?l32 ?c32 ?k32 ?a33 ?i33 ?l33 ?c33 ?k33 ?a34 ?i34 ?l34 ?c34 ?k34 ?a35 ?l35 ?c35 ?k35 ?a36 ?l36 ?c36 ?k36 ?a37 ?l37 ?c37 ?k37 ?a38 ?l38 ?c38 ?k38 ?a39 ?l39 ?c39 ?k39 ?a40 ?l40 ?c40 ?k40 ?a41 ?l41 ?c41 ?k41 ?a42 ?l42 ?c42 ?k42 ?a43 ?l43 ?c43 ?k43 ?a44 ?l44 ?c44 ?k44 ?a45 ?l45 ?c45 ?k45 ?a46 ?l46 ?c46 ?k46 ?a47 ?l47 ?c47 ?k47 ?pg_Never ?hd_Never ?po_Never ?sa_Never ?mk_Never ?kc_Never ?pg_Most ?hd_Most ?po_Most ?sa_Most ?mk_Most ?kc_Most ?pg_Least ?hd_Least ?po_Least ?sa_Least ?mk_Least ?kc_Least ?pg_Both ?hd_Both ?po_Both ?sa_Both ?mk_Both ?kc_Both ?pg_Either ?hd_Either ?po_Either ?sa_Either ?mk_Either ?kc_Either ?pg_Not ?hd_Not ?po_Not ?sa_Not ?mk_Not ?kc_Not ?yn ?yt ?ya_Never ?ym_Never ?i_Never_Both ?i_Never_Either ?ya_Most ?ym_Most ?i_Most_Both ?i_Most_Either ?ya_Least ?ym_Least ?i_Least_Both ?i_Least_Either ?ya_Both ?ym_Both ?i_Both_Both ?i_Both_Either ?ya_Either ?ym_Either ?i_Either_Both ?i_Either_Either ?ya_Not ?ym_Not ?i_Not_Both ?i_Not_Either ?n_Never_word ?n_Most_many ?n_Most_marks ?n_Most_days ?n_Least_many ?n_Least_marks ?n_Least_days ?n_Both_left ?n_Both_right ?n_Either_left ?n_Either_right ?n_Not_inner ?z_all ?z_any ?z_enumerate ?z_int ?z_isinstance ?z_len ?z_max ?z_min ?z_range ?z_set ?z_str ?z_zip ?k_MOST_WORDS ?k_MARK_SIGNS ?k_WORD_SIGNS ?k_MANY_FIGURES ?k_DAYS_FIGURES
    (case g_Never => k_is)
    (case g_Most => k_is)
    (case g_Least => k_is)
    (case g_Both => k_is)
    (case g_Either => k_is)
    (case g_Not => k_is)
    (case a1 => k_is)
    (case l1 => k_is)
    (case c1 => k_is)
    (case k1 => k_is)
    (case a2 => k_is)
    (case l2 => k_is)
    (case c2 => k_is)
    (case k2 => k_is)
    (case a3 => k_is)
    (case l3 => k_is)
    (case c3 => k_is)
    (case k3 => k_is)
    (case a4 => k_is)
    (case l4 => k_is)
    (case c4 => k_is)
    (case k4 => k_is)
    (case a5 => k_is)
    (case i5 => k_is)
    (case l5 => k_is)
    (case c5 => k_is)
    (case k5 => k_is)
    (case a6 => k_is)
    (case i6 => k_is)
    (case l6 => k_is)
    (case c6 => k_is)
    (case k6 => k_is)
    (case a7 => k_is)
    (case i7 => k_is)
    (case l7 => k_is)
    (case c7 => k_is)
    (case k7 => k_is)
    (case a8 => k_is)
    (case i8 => k_is)
    (case l8 => k_is)
    (case c8 => k_is)
    (case k8 => k_is)
    (case a9 => k_is)
    (case i9 => k_is)
    (case l9 => k_is)
    (case c9 => k_is)
    (case k9 => k_is)
    (case a10 => k_is)
    (case i10 => k_is)
    (case l10 => k_is)
    (case c10 => k_is)
    (case k10 => k_is)
    (case a11 => k_is)
    (case i11 => k_is)
    (case l11 => k_is)
    (case c11 => k_is)
    (case k11 => k_is)
    (case a12 => k_is)
    (case i12 => k_is)
    (case l12 => k_is)
    (case c12 => k_is)
    (case k12 => k_is)
    (case a13 => k_is)
    (case i13 => k_is)
    (case l13 => k_is)
    (case c13 => k_is)
    (case k13 => k_is)
    (case a14 => k_is)
    (case i14 => k_is)
    (case l14 => k_is)
    (case c14 => k_is)
    (case k14 => k_is)
    (case a15 => k_is)
    (case i15 => k_is)
    (case l15 => k_is)
    (case c15 => k_is)
    (case k15 => k_is)
    (case a16 => k_is)
    (case i16 => k_is)
    (case l16 => k_is)
    (case c16 => k_is)
    (case k16 => k_is)
    (case a17 => k_is)
    (case l17 => k_is)
    (case c17 => k_is)
    (case k17 => k_is)
    (case a18 => k_is)
    (case l18 => k_is)
    (case c18 => k_is)
    (case k18 => k_is)
    (case a19 => k_is)
    (case l19 => k_is)
    (case c19 => k_is)
    (case k19 => k_is)
    (case a20 => k_is)
    (case l20 => k_is)
    (case c20 => k_is)
    (case k20 => k_is)
    (case a21 => k_is)
    (case l21 => k_is)
    (case c21 => k_is)
    (case k21 => k_is)
    (case a22 => k_is)
    (case l22 => k_is)
    (case c22 => k_is)
    (case k22 => k_is)
    (case a23 => k_is)
    (case l23 => k_is)
    (case c23 => k_is)
    (case k23 => k_is)
    (case a24 => k_is)
    (case l24 => k_is)
    (case c24 => k_is)
    (case k24 => k_is)
    (case a25 => k_is)
    (case l25 => k_is)
    (case c25 => k_is)
    (case k25 => k_is)
    (case a26 => k_is)
    (case l26 => k_is)
    (case c26 => k_is)
    (case k26 => k_is)
    (case a27 => k_is)
    (case i27 => k_is)
    (case l27 => k_is)
    (case c27 => k_is)
    (case k27 => k_is)
    (case a28 => k_is)
    (case i28 => k_is)
    (case l28 => k_is)
    (case c28 => k_is)
    (case k28 => k_is)
    (case a29 => k_is)
    (case i29 => k_is)
    (case l29 => k_is)
    (case c29 => k_is)
    (case k29 => k_is)
    (case a30 => k_is)
    (case l30 => k_is)
    (case c30 => k_is)
    (case k30 => k_is)
    (case a31 => k_is)
    (case l31 => k_is)
    (case c31 => k_is)
    (case k31 => k_is)
    (case a32 => k_is)
    (case i32 => k_is)
    (case l32 => k_is)
    (case c32 => k_is)
    (case k32 => k_is)
    (case a33 => k_is)
    (case i33 => k_is)
    (case l33 => k_is)
    (case c33 => k_is)
    (case k33 => k_is)
    (case a34 => k_is)
    (case i34 => k_is)
    (case l34 => k_is)
    (case c34 => k_is)
    (case k34 => k_is)
    (case a35 => k_is)
    (case l35 => k_is)
    (case c35 => k_is)
    (case k35 => k_is)
    (case a36 => k_is)
    (case l36 => k_is)
    (case c36 => k_is)
    (case k36 => k_is)
    (case a37 => k_is)
    (case l37 => k_is)
    (case c37 => k_is)
    (case k37 => k_is)
    (case a38 => k_is)
    (case l38 => k_is)
    (case c38 => k_is)
    (case k38 => k_is)
    (case a39 => k_is)
    (case l39 => k_is)
    (case c39 => k_is)
    (case k39 => k_is)
    (case a40 => k_is)
    (case l40 => k_is)
    (case c40 => k_is)
    (case k40 => k_is)
    (case a41 => k_is)
    (case l41 => k_is)
    (case c41 => k_is)
    (case k41 => k_is)
    (case a42 => k_is)
    (case l42 => k_is)
    (case c42 => k_is)
    (case k42 => k_is)
    (case a43 => k_is)
    (case l43 => k_is)
    (case c43 => k_is)
    (case k43 => k_is)
    (case a44 => k_is)
    (case l44 => k_is)
    (case c44 => k_is)
    (case k44 => k_is)
    (case a45 => k_is)
    (case l45 => k_is)
    (case c45 => k_is)
    (case k45 => k_is)
    (case a46 => k_is)
    (case l46 => k_is)
    (case c46 => k_is)
    (case k46 => k_is)
    (case a47 => k_is)
    (case l47 => k_is)
    (case c47 => k_is)
    (case k47 => k_is)
    (case pg_Never => k_is)
    (case hd_Never => k_is)
    (case po_Never => k_is)
    (case sa_Never => k_is)
    (case mk_Never => k_is)
    (case kc_Never => k_is)
    (case pg_Most => k_is)
    (case hd_Most => k_is)
    (case po_Most => k_is)
    (case sa_Most => k_is)
    (case mk_Most => k_is)
    (case kc_Most => k_is)
    (case pg_Least => k_is)
    (case hd_Least => k_is)
    (case po_Least => k_is)
    (case sa_Least => k_is)
    (case mk_Least => k_is)
    (case kc_Least => k_is)
    (case pg_Both => k_is)
    (case hd_Both => k_is)
    (case po_Both => k_is)
    (case sa_Both => k_is)
    (case mk_Both => k_is)
    (case kc_Both => k_is)
    (case pg_Either => k_is)
    (case hd_Either => k_is)
    (case po_Either => k_is)
    (case sa_Either => k_is)
    (case mk_Either => k_is)
    (case kc_Either => k_is)
    (case pg_Not => k_is)
    (case hd_Not => k_is)
    (case po_Not => k_is)
    (case sa_Not => k_is)
    (case mk_Not => k_is)
    (case kc_Not => k_is)
    (case yn => k_is)
    (case yt => k_is)
    (case ya_Never => k_is)
    (case ym_Never => k_is)
    (case i_Never_Both => kit_is)
    (case i_Never_Either => kit_is)
    (case ya_Most => k_is)
    (case ym_Most => k_is)
    (case i_Most_Both => kit_is)
    (case i_Most_Either => kit_is)
    (case ya_Least => k_is)
    (case ym_Least => k_is)
    (case i_Least_Both => kit_is)
    (case i_Least_Either => kit_is)
    (case ya_Both => k_is)
    (case ym_Both => k_is)
    (case i_Both_Both => kit_is)
    (case i_Both_Either => kit_is)
    (case ya_Either => k_is)
    (case ym_Either => k_is)
    (case i_Either_Both => kit_is)
    (case i_Either_Either => kit_is)
    (case ya_Not => k_is)
    (case ym_Not => k_is)
    (case i_Not_Both => kit_is)
    (case i_Not_Either => kit_is)
    (case n_Never_word => k_is)
    (case n_Most_many => k_is)
    (case n_Most_marks => k_is)
    (case n_Most_days => k_is)
    (case n_Least_many => k_is)
    (case n_Least_marks => k_is)
    (case n_Least_days => k_is)
    (case n_Both_left => k_is)
    (case n_Both_right => k_is)
    (case n_Either_left => k_is)
    (case n_Either_right => k_is)
    (case n_Not_inner => k_is)
    (case z_all => k_is)
    (case z_any => k_is)
    (case z_enumerate => k_is)
    (case z_int => k_is)
    (case z_isinstance => k_is)
    (case z_len => k_is)
    (case z_max => k_is)
    (case z_min => k_is)
    (case z_range => k_is)
    (case z_set => k_is)
    (case z_str => k_is)
    (case z_zip => k_is)
    (case k_MOST_WORDS => k_is)
    (case k_MARK_SIGNS => k_is)
    (case k_WORD_SIGNS => k_is)
    (case k_MANY_FIGURES => k_is)
    (case k_DAYS_FIGURES => k_is)
#print axioms PySem.Challenge.cw_rotafair_k08_whole_rules_of_texts_holds
