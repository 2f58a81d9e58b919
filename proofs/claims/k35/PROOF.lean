import PyProof.Rows.All
import Wide.All
import OpenK.AllK
import Wide.FinOn
import Lean
import PyProof.EqAt
import PyProof.EqKinds
import PyProof.TupleCall
import KE.KIntText
import PySem.Challenge.RW_rotafair_k35_whole_faults_in_order
set_option Elab.async false
set_option linter.all false
set_option maxRecDepth 100000
namespace L2
open PySem PySem.Spec PyProof.Rows
noncomputable abbrev Key := Sum Int Str
noncomputable def JeF : Key → Value → Bool
 | .inl k,v => Value.isInt k v
 | .inr x,v => Value.isStrOf x v
noncomputable def keyH (w : World) : Key → Int
 | .inl k => hashInt k
 | .inr x => hashStr w x
theorem J0I : ∀ {k : Key} {v : Value},JeF k v = true → (∃ i t,k = Sum.inl i ∧ v = Value.int i t) ∨ (∃ x t,k = Sum.inr x ∧ v = Value.str x t)
 | .inl i,v,h => by
  obtain ⟨t,e⟩ := Value.isInt_shape (k := i) (v := v) h
  exact .inl ⟨i,t,rfl,e⟩
 | .inr x,v,h => by
  obtain ⟨t,e⟩ := Value.isStrOf_shape (x := x) (v := v) h
  exact .inr ⟨x,t,rfl,e⟩
theorem Jft (a b : Int) : decide ((Sum.inl a : Key) = Sum.inl b) = (a == b) := by
 by_cases e : a = b
 ·subst e; simp
 ·have h : ¬ (Sum.inl a : Key) = Sum.inl b := fun q => e (Sum.inl.inj q)
  rw [decide_eq_false h]
  exact (beq_eq_false_iff_ne.mpr e).symm
theorem Jf0 (a b : Str) : decide ((Sum.inr a : Key) = Sum.inr b) = decide (a = b) := by
 by_cases e : a = b
 ·subst e; simp
 ·have h : ¬ (Sum.inr a : Key) = Sum.inr b := fun q => e (Sum.inr.inj q)
  rw [decide_eq_false h,decide_eq_false e]
theorem JeX (a : Int) (b : Str) : decide ((Sum.inl a : Key) = Sum.inr b) = false := decide_eq_false (fun q => nomatch q)
theorem Jfj (a : Str) (b : Int) : decide ((Sum.inr a : Key) = Sum.inl b) = false := decide_eq_false (fun q => nomatch q)
noncomputable def Jbk (prog : Program) (w : World) : PySem.KeyKind prog w Key where
 is := JeF
 hash := keyH w
 inj := fun v a b ha hb => by
  rcases J0I ha with ⟨i,t,rfl,rfl⟩ | ⟨x,t,rfl,rfl⟩
  ·rcases J0I hb with ⟨j,u,rfl,e⟩ | ⟨y,u,rfl,e⟩
   ·injection e with e1 _; rw [e1]
   ·exact nomatch e
  ·rcases J0I hb with ⟨j,u,rfl,e⟩ | ⟨y,u,rfl,e⟩
   ·exact nomatch e
   ·injection e with e1 _; rw [e1]
 byValue := fun k v h => by
  rcases J0I h with ⟨i,t,rfl,rfl⟩ | ⟨x,t,rfl,rfl⟩ <;> rfl
 pyHash := fun hv h => by
  rcases J0I hv with ⟨i,t,rfl,rfl⟩ | ⟨x,t,rfl,rfl⟩
  ·exact wpAny_pyHash_int h
  ·exact wpAny_pyHash_str h
 eqBool := fun hu hv h => by
  rcases J0I hu with ⟨i,t,rfl,rfl⟩ | ⟨x,t,rfl,rfl⟩
  ·rcases J0I hv with ⟨j,u,rfl,rfl⟩ | ⟨y,u,rfl,rfl⟩
   ·rw [Jft] at h; exact wpAny_eqBool_int h
   ·rw [JeX] at h; exact SeqAt.EqAt.int_str i t y u _ _ _ _ h
  ·rcases J0I hv with ⟨j,u,rfl,rfl⟩ | ⟨y,u,rfl,rfl⟩
   ·rw [Jfj] at h; exact SeqAt.EqAt.str_int x t j u _ _ _ _ h
   ·rw [Jf0] at h; exact wpAny_eqBool_str h
 «strs» := fun k x t v h => by
  rcases J0I h with ⟨i,u,rfl,e⟩ | ⟨y,u,rfl,e⟩
  ·exact nomatch e
  ·injection e with e1 _
   subst e1
   cases v <;> rfl
end L2
namespace L2
open PySem PySem.Spec PyProof.Rows
inductive V where
 | non | bl (b : Bool) | int (i : Int) | str (x : Str) | byt (b : Array UInt8) | flt (b : UInt64) | ref (a : Addr) | ty (n : String)
 deriving DecidableEq
noncomputable def RelV : V → Value → Prop
 | .non,u => u = Value.none
 | .bl b,u => u = Value.bool b
 | .int i,u => ∃ t,u = Value.int i t
 | .str x,u => ∃ t,u = Value.str x t
 | .byt b,u => ∃ t,u = Value.bytes b t
 | .flt b,u => ∃ t,u = Value.float b t
 | .ref a,u => u = Value.ref a
 | .ty n,u => u = Value.type n
noncomputable abbrev Vals : List V → List Value → Prop := Paired RelV
theorem Vals.length {xs : List V} {us : List Value} (r : Vals xs us) : xs.length = us.length := Paired.length r
theorem Vals.get : ∀ {xs : List V} {us : List Value} {i : Nat} {x : V},Vals xs us → xs[i]? = some x → ∃ u,us[i]? = some u ∧ RelV x u
 | _,_,_,_,.nil,e => by simp at e
 | _,_,0,_,.cons r _,e => by simp at e; subst e; exact ⟨_,rfl,r⟩
 | _,_,i + 1,x,.cons _ t,e => by
  obtain ⟨u,h1,h2⟩ := Vals.get (i := i) (x := x) t (by simpa using e)
  exact ⟨u,by simpa using h1,h2⟩
theorem Vals.append : ∀ {xs ys : List V} {us ws : List Value},Vals xs us → Vals ys ws → Vals (xs ++ ys) (us ++ ws)
 | _,_,_,_,.nil,s => s
 | _,_,_,_,.cons r t,s => .cons r (Vals.append t s)
theorem Vals.take : ∀ {xs : List V} {us : List Value} (n : Nat),Vals xs us → Vals (xs.take n) (us.take n)
 | _,_,0,_ => .nil
 | _,_,_ + 1,.nil => .nil
 | _,_,n + 1,.cons r t => .cons r (Vals.take n t)
theorem Vals.drop : ∀ {xs : List V} {us : List Value} (n : Nat),Vals xs us → Vals (xs.drop n) (us.drop n)
 | _,_,0,r => r
 | _,_,_ + 1,.nil => .nil
 | _,_,n + 1,.cons _ t => Vals.drop n t
noncomputable def RelO : Option V → Option Value → Prop
 | some v,some u => RelV v u
 | none,none => True
 | _,_ => False
noncomputable def KV {κ : Type} : List (κ × V) → List (κ × Value) → Prop := Paired fun (p : κ × V) (q : κ × Value) => p.1 = q.1 ∧ RelV p.2 q.2
noncomputable def kV : Key → V
 | .inl i => .int i
 | .inr x => .str x
inductive HO where
 | lst (xs : List V)
 | tup (xs : List V)
 | dK (kvs : List (Key × V)) | dT (kvs : List (List Key × V))
 | set (S : Int → Bool) (n : Nat)
 | ins (C dx : Addr) (fs : List (Str × V))
 | own (x : Addr)
 | xd (fs : List (Str × V))
 | met (f x : Addr)
 | rng (lo hi : Int)
 | frz (o : Obj) (u : HO)
 | tbl (ps : Array Value)
 | ext (φ : Heap → Prop)
noncomputable abbrev Hp := Addr → Option HO
noncomputable def upd (H : Hp) (a : Addr) (o : HO) : Hp := fun b => if b = a then some o else H b
theorem J7 {H : Hp} {a : Addr} {o : HO} : upd H a o a = some o := by unfold upd; rw [if_pos rfl]
theorem Jg {H : Hp} {a b : Addr} {o : HO} (h : b ≠ a) : upd H a o b = H b := by unfold upd; rw [if_neg h]
theorem JfM {H : Hp} {a b : Addr} {o u : HO} (h : H a = some o) (h' : H b = some u) (d : o ≠ u) : a ≠ b := by
 intro e; subst e; rw [h] at h'; exact d (Option.some.inj h')
theorem Jc {H : Hp} {a b : Addr} {o : HO} (h : H a = some o) (h' : H b = none) : a ≠ b := by
 intro e; subst e; rw [h] at h'; cases h'
section
variable (P : Program) (w : World)
noncomputable def J2Z (H : Hp) (h : Heap) (a : Addr) : HO → Prop
 | .lst xs => xs.length ≤ sizeLine ∧ ∃ (its : List Value) (n : Nat),Vals xs its ∧ h.get? a = some { cls := .type "list",data := .seq its.toArray n }
 | .tup xs => xs.length ≤ sizeLine ∧ ∃ its : List Value,Vals xs its ∧ IsTup h a its.toArray
 | .dK kvs => kvs.length ≤ sizeLine ∧ (a == sysModules) = false ∧ ∃ vs,KV kvs vs ∧ h.DictOf (Jbk P w) a vs
 | .dT kvs => kvs.length ≤ sizeLine ∧ (a == sysModules) = false ∧ ∃ xs : List (List Key × Addr × Value),
   Paired (fun (p : List Key × V) (q : List Key × Addr × Value) => p.1 = q.1 ∧ H q.2.1 = some (.tup (p.1.map kV)) ∧ RelV p.2 q.2.2) kvs xs ∧
   ∃ o es ep,h.get? a = some o ∧ o.ExactDict ∧ o.data = .dict es ep ∧ es.toList = xs.map (entryOfKey (tupleKind (Jbk P w))) ∧ (xs.map (·.1)).Nodup
 | .set S n => h.SetOf (intKind P w) a S n
 | .ins C dx fs => H dx = some (.own a) ∧ fs.length ≤ 1000 ∧ dx ≠ a ∧ h.get? a = some (PySem.W.instObj C dx) ∧
   ∃ mA,h.Ns1 dx mA ∧ (∀ f,RelO (fs.lookup f) (mA f)) ∧ PySem.Within mA (fs.map (·.1))
 | .own _ => ∃ o,h.get? a = some o
 | .xd fs => ∃ mA,h.Ns1 a mA ∧ ∀ f,RelO (fs.lookup f) (mA f)
 | .rng lo hi => ∃ t u v,h.get? a = some { cls := .type "range",data := .fields #[.int lo t,.int hi u,.int 1 v] }
 | .frz o u => h.get? a = some o ∧ J2Z H h a u
 | .tbl ps => h.get? a = some { cls := .none,data := .fields ps }
 | .met f x => h.get? a = some (PySem.W.methodObj (.ref f) (.ref x))
 | .ext φ => φ h ∧ (∃ o,h.get? a = some o) ∧ ∀ h1 h2 : Heap,φ h1 → (∀ o,h1.get? a = some o → h2.get? a = some o) → φ h2
noncomputable def HOk (H : Hp) (h : Heap) : Prop := ∀ a o,H a = some o → J2Z P w H h a o
end
section
variable {P : Program} {w : World} {H H' : Hp} {h h' : Heap} {a : Addr} {o : HO}
theorem J2Z.lt (x : J2Z P w H h a o) : a < h.objs.size := by
 cases o with
 | lst xs => obtain ⟨_,_,_,_,e⟩ := x; exact Heap.lt_size e
 | tup xs => obtain ⟨_,_,_,p⟩ := x; exact p.lt
 | dK kvs => obtain ⟨_,_,_,_,o,_,_,e,_⟩ := x; exact Heap.lt_size e
 | dT kvs => obtain ⟨_,_,_,_,o,_,_,e,_⟩ := x; exact Heap.lt_size e
 | set S n => obtain ⟨o,_,_,_,e,_⟩ := x; exact Heap.lt_size e
 | ins C dx fs => obtain ⟨_,_,_,e,_⟩ := x; exact Heap.lt_size e
 | own y => obtain ⟨_,e⟩ := x; exact Heap.lt_size e
 | xd fs => obtain ⟨_,⟨_,_,_,e,_⟩,_⟩ := x; exact Heap.lt_size e
 | rng lo hi => obtain ⟨_,_,_,e⟩ := x; exact Heap.lt_size e
 | frz ob u => obtain ⟨e,_⟩ := x; exact Heap.lt_size e
 | tbl ps => exact Heap.lt_size (show h.get? a = some _ from x)
 | met f y => exact Heap.lt_size (show h.get? a = some _ from x)
 | ext φ => obtain ⟨_,⟨_,e⟩,_⟩ := x; exact Heap.lt_size e
theorem Paired.mapP {α β : Type} {F G : α → β → Prop} : ∀ {l₁ : List α} {l₂ : List β},Paired F l₁ l₂ → (∀ a b,F a b → G a b) → Paired G l₁ l₂
 | _,_,.nil,_ => .nil
 | _,_,.cons r t,f => .cons (f _ _ r) (Paired.mapP t f)
theorem J2Z.stay (x : J2Z P w H h a o) (k : ∀ b u,(b = a ∨ H b = some (.own a)) → h.get? b = some u → h'.get? b = some u)
  (ho : ∀ b,H b = some (.own a) → H' b = some (.own a)) (ht : ∀ b xs,H b = some (.tup xs) → H' b = some (.tup xs)) : J2Z P w H' h' a o := by
 induction o with
 | lst xs => obtain ⟨z,its,n,r,e⟩ := x; exact ⟨z,its,n,r,k _ _ (.inl rfl) e⟩
 | tup xs => obtain ⟨z,its,r,ob,e,c⟩ := x; exact ⟨z,its,r,ob,k _ _ (.inl rfl) e,c⟩
 | dK kvs => obtain ⟨z,y,vs,r,ob,es,ep,e,c⟩ := x; exact ⟨z,y,vs,r,ob,es,ep,k _ _ (.inl rfl) e,c⟩
 | dT kvs =>
  obtain ⟨z,y,xs,r,ob,es,ep,e,c⟩ := x
  exact ⟨z,y,xs,Paired.mapP r fun p q z => ⟨z.1,ht _ _ z.2.1,z.2.2⟩,ob,es,ep,k _ _ (.inl rfl) e,c⟩
 | set S n => obtain ⟨ob,es,ep,t,e,c⟩ := x; exact ⟨ob,es,ep,t,k _ _ (.inl rfl) e,c⟩
 | ins C dx fs =>
  obtain ⟨d,z,ne,e,mA,⟨od,es,ep,e2,c⟩,r⟩ := x
  exact ⟨ho _ d,z,ne,k _ _ (.inl rfl) e,mA,⟨od,es,ep,k _ _ (.inr d) e2,c⟩,r⟩
 | own y => obtain ⟨ob,e⟩ := x; exact ⟨ob,k _ _ (.inl rfl) e⟩
 | xd fs => obtain ⟨mA,⟨od,es,ep,e,c⟩,r⟩ := x; exact ⟨mA,⟨od,es,ep,k _ _ (.inl rfl) e,c⟩,r⟩
 | rng lo hi => obtain ⟨t,u,v,e⟩ := x; exact ⟨t,u,v,k _ _ (.inl rfl) e⟩
 | frz ob u ih => obtain ⟨e,q⟩ := x; exact ⟨k _ _ (.inl rfl) e,ih q⟩
 | tbl ps =>
  have e : h.get? a = some { cls := .none,data := .fields ps } := x
  show h'.get? a = some { cls := .none,data := .fields ps }
  exact k a _ (.inl rfl) e
 | met f y =>
  have e : h.get? a = some (PySem.W.methodObj (.ref f) (.ref y)) := x
  show h'.get? a = some (PySem.W.methodObj (.ref f) (.ref y))
  exact k a _ (.inl rfl) e
 | ext φ => obtain ⟨p,⟨o,e⟩,st⟩ := x; exact ⟨st _ _ p fun o q => k _ _ (.inl rfl) q,⟨o,k _ _ (.inl rfl) e⟩,st⟩
theorem HOk.lt (x : HOk P w H h) (e : H a = some o) : a < h.objs.size := (x a o e).lt
theorem HOk.fresh (x : HOk P w H h) (e : h.objs.size ≤ a) : H a = none := by
 cases q : H a with
 | none => rfl
 | some u => exact absurd (Nat.lt_of_lt_of_le (x.lt q) e) (Nat.lt_irrefl _)
theorem HOk.kept (x : HOk P w H h) (k : ∀ b u,h.get? b = some u → h'.get? b = some u) : HOk P w H h' := fun a o e =>
 (x a o e).stay (fun b u _ q => k b u q) (fun _ q => q) fun _ _ q => q
theorem HOk.laid (x : HOk P w H h) (k : ∀ b u,h.get? b = some u → h'.get? b = some u) (hp : h.objs.size ≤ a) (new : J2Z P w (upd H a o) h' a o) : HOk P w (upd H a o) h' := fun b u e => by
 have hn := x.fresh hp
 by_cases hb : b = a
 ·subst hb; rw [J7] at e; cases e; exact new
 ·rw [Jg hb] at e
  exact (x b u e).stay (fun c v _ q => k c v q) (fun c q => by rw [Jg (Jc q hn)]; exact q) fun c xs q => by rw [Jg (Jc q hn)]; exact q
end
noncomputable def Rd (H : Hp) (a : Addr) (u : HO) : Prop := H a = some u ∨ ∃ o,H a = some (.frz o u)
theorem Rd.ok {P : Program} {w : World} {H : Hp} {h : Heap} {a : Addr} {u : HO} (r : Rd H a u) (x : HOk P w H h) : J2Z P w H h a u := by
 rcases r with r | ⟨o,r⟩
 ·exact x a u r
 ·obtain ⟨_,q⟩ := x a _ r
  exact q
noncomputable def Mut : Option HO → Prop
 | some (.lst _) => True
 | some (.dK _) => True
 | some (.dT _) => True
 | some (.set _ _) => True
 | some (.ins _ _ _) => True
 | some (.ext _) => True
 | _ => False
section
variable {P : Program} {w : World} {H : Hp} {h h' : Heap} {x e : Addr} {o' : HO}
theorem HOk.write (ok : HOk P w H h) (mu : Mut (H x)) (he : e = x ∨ H e = some (.own x)) (k : ∀ b u,b ≠ e → h.get? b = some u → h'.get? b = some u) (heo : ∃ u,h'.get? e = some u)
  (new : J2Z P w (upd H x o') h' x o') : HOk P w (upd H x o') h' := fun b u q => by
 have nown : ∀ c y,H c = some (.own y) → c ≠ x := fun c y r z => by subst z; rw [r] at mu; exact mu
 have ntup : ∀ c xs,H c = some (.tup xs) → c ≠ x := fun c xs r z => by subst z; rw [r] at mu; exact mu
 by_cases hb : b = x
 ·subst hb; rw [J7] at q; cases q; exact new
 ·rw [Jg hb] at q
  by_cases hbe : b = e
  ·have q' : H b = some (.own x) := by
    rcases he with z | z
    ·exact absurd (hbe.trans z) hb
    ·rw [hbe]; exact z
   rw [q] at q'; cases q'
   obtain ⟨v,hv⟩ := heo
   exact ⟨v,by rw [hbe]; exact hv⟩
  ·refine (ok b u q).stay (fun c v hc r => k c v ?_ r) (fun c r => by rw [Jg (nown c b r)]; exact r) fun c xs r => by rw [Jg (ntup c xs r)]; exact r
   rcases hc with rfl | hc
   ·exact hbe
   ·rintro rfl
    rcases he with z | z
    ·exact nown c b hc z
    ·rw [hc] at z; cases z; exact hb rfl
end
structure Un (fs ex : List Addr) (H H' : Hp) (h h' : Heap) : Prop where
 keep : ∀ b o,h.get? b = some o → H b = none → b ∉ fs → b ∉ ex → h'.get? b = some o
 slot : ∀ b o,h.get? b = some o → H b = none → b ∈ fs → b ∉ ex → ∃ sl,h'.get? b = some { o with slots := sl }
 free : ∀ b o,h.get? b = some o → H b = none → b ∉ ex → H' b = none
 there : ∀ b o,h.get? b = some o → b ∉ ex → ∃ o',h'.get? b = some o'
 tups : ∀ b xs,H b = some (.tup xs) → H' b = some (.tup xs)
 frzs : ∀ b o u,H b = some (.frz o u) → H' b = some (.frz o u)
 tbls : ∀ b ps,H b = some (.tbl ps) → ∃ more,H' b = some (.tbl (ps ++ more))
section
variable {fs fs' ex ex' : List Addr} {H H1 H2 : Hp} {h h1 h2 h' : Heap} {a x e : Addr} {o : HO}
theorem Un.any (u : Un fs ex H H1 h h1) {b : Addr} {ob : Obj} (q : h.get? b = some ob) (n : H b = none) (hx : b ∉ ex) : ∃ sl,h1.get? b = some { ob with slots := sl } := by
 by_cases hb : b ∈ fs
 ·exact u.slot b ob q n hb hx
 ·exact ⟨ob.slots,u.keep b ob q n hb hx⟩
theorem Un.kept (k : ∀ b u,h.get? b = some u → h'.get? b = some u) : Un fs ex H H h h' :=
 ⟨fun b ob q _ _ _ => k b ob q,fun b ob q _ _ _ => ⟨ob.slots,k b ob q⟩,fun _ _ _ n _ => n,fun b ob q _ => ⟨ob,k b ob q⟩,fun _ _ q => q,fun _ _ _ q => q,fun _ ps q => ⟨#[],by rw [q]; simp⟩⟩
theorem Un.refl : Un fs ex H H h h := Un.kept fun _ _ q => q
theorem Un.laid (k : ∀ b u,h.get? b = some u → h'.get? b = some u) (hp : h.objs.size ≤ a) (hn : H a = none) : Un fs ex H (upd H a o) h h' where
 keep := fun b u q _ _ _ => k b u q
 slot := fun b u q _ _ _ => ⟨u.slots,k b u q⟩
 free := fun b u q n _ => by rw [Jg (Nat.ne_of_lt (Nat.lt_of_lt_of_le (Heap.lt_size q) hp))]; exact n
 there := fun b u q _ => ⟨u,k b u q⟩
 tups := fun b xs q => by rw [Jg (Jc q hn)]; exact q
 frzs := fun b u xs q => by rw [Jg (Jc q hn)]; exact q
 tbls := fun b ps q => ⟨#[],by rw [Jg (Jc q hn),q]; simp⟩
theorem Un.write (mu : Mut (H x)) (he : e = x ∨ H e = some (.own x)) (k : ∀ b u,b ≠ e → h.get? b = some u → h'.get? b = some u) (heo : ∃ u,h'.get? e = some u) : Un fs ex H (upd H x o) h h' := by
 have hx : ∀ b,H b = none → b ≠ x := fun b n z => by subst z; rw [n] at mu; exact mu
 have hb : ∀ b,H b = none → b ≠ e := fun b n z => by
  subst z
  rcases he with r | r
  ·exact hx b n r
  ·rw [n] at r; cases r
 have hm : ∀ b u,H b = some u → ¬ Mut (some u) → b ≠ x := fun b u q nm z => by subst z; rw [q] at mu; exact nm mu
 refine ⟨fun b u q n _ _ => k b u (hb b n) q,fun b u q n _ _ => ⟨u.slots,k b u (hb b n) q⟩,fun b u q n _ => by rw [Jg (hx b n)]; exact n,fun b u q _ => ?_,
  fun b xs q => by rw [Jg (hm b _ q fun z => z)]; exact q,fun b u xs q => by rw [Jg (hm b _ q fun z => z)]; exact q,fun b ps q => ⟨#[],by rw [Jg (hm b _ q fun z => z),q]; simp⟩⟩
 by_cases hbe : b = e
 ·subst hbe; exact heo
 ·exact ⟨u,k b u hbe q⟩
end
noncomputable def trk (h : Heap) (H : Hp) : List Addr := (List.range h.objs.size).filter fun a => (H a).isSome
noncomputable def hidT (h : Heap) (H : Hp) : Heap := PySem.W.hideAll h (trk h H)
theorem Jcj (h : Heap) (H : Hp) : (hidT h H).objs.size = h.objs.size := PySem.W.hideAll_size _ _
theorem JcW {h : Heap} {H : Hp} {b : Addr} {o : Obj} (e : h.get? b = some o) (n : H b = none) : (hidT h H).get? b = some o :=
 PySem.W.hideAll_get _ e fun hm => by
  have q : (H b).isSome = true := (List.mem_filter.mp hm).2
  rw [n] at q; simp at q
theorem Jec {h : Heap} {H : Hp} {b : Addr} {o : Obj} (e : (hidT h H).get? b = some o) : h.get? b = some o ∧ H b = none := by
 have e' : h.get? b = some o := PySem.W.of_hideAll (trk h H) e
 refine ⟨e',?_⟩
 cases q : H b with
 | none => rfl
 | some x =>
  have hm : b ∈ trk h H := List.mem_filter.mpr ⟨List.mem_range.mpr (Heap.lt_size e'),by simp [q]⟩
  have z : (hidT h H).get? b = none := PySem.W.hideAll_none (trk h H) hm
  rw [z] at e; cases e
end L2
namespace L2
open PySem PySem.Spec PyProof.Rows
structure Mod (K : PySem.W.Frag) (mg : Str → Option Value) (base : Heap) : Prop where
 kin : K.In base
 glob : base.Ns mainGlobals mg
 blt : ∃ mb,base.Ns builtinsNs mb ∧ ∀ x : Str,x ≠ "__name__" → mb x = bootBuiltins x
 nolimit : base.NoLimit
structure Cx where
 prog : Program
 w : World
 K : PySem.W.Frag
 mg : Str → Option Value
 base : Heap
 A : Around
 N : List Str
 s₀ : Shared
 H₀ : Hp
 env : Env
 outer : List Env
 stack : List Env
 ex : List Addr
 fn : Str → Bool
 calm : Bool
 pn : List (Addr × Obj)
 xe : Value → Shared → Prop
noncomputable def frs (l : List Env) : List Addr := l.filterMap (·.frame)
noncomputable abbrev Cx.fs (X : Cx) : List Addr := frs X.outer
noncomputable def Vis (sc : Scope) (x : Str) : Prop := sc.names.lookup x = some .local ∨ sc.names.lookup x = some .cell ∨ sc.names.lookup x = some .free
noncomputable def Loc (sc : Scope) (x : Str) : Prop := sc.names.lookup x = some .local ∨ sc.names.lookup x = some .cell
noncomputable def Look (env : Env) (h : Heap) (m : Str → Option Value) (x : Str) (u : Value) : Prop :=
 (env.kindOf x = some .local ∧ m x = some u) ∨ ((env.kindOf x = some .cell ∨ env.kindOf x = some .free) ∧ ∃ c,env.cells.lookup x = some c ∧ h.IsCell c (some u))
structure Cx.Ok (X : Cx) : Prop where
 mod : Mod X.K X.mg X.base
 kind : X.env.scope.kind = .function
 glob : X.env.globals = mainGlobals
 blt : X.env.builtins = builtinsNs
 above : X.s₀.heap.objs.size ≤ X.env.locals
 inj : ∀ x y c,X.env.cells.lookup x = some c → X.env.cells.lookup y = some c → x = y
 has : ∀ x,(X.env.kindOf x = some .cell ∨ X.env.kindOf x = some .free) → ∃ c,X.env.cells.lookup x = some c
 cab : ∀ x c,X.fn x = true → X.env.cells.lookup x = some c → X.s₀.heap.objs.size ≤ c
 hd : X.calm = true → X.A.handled = none
 frames : X.A.frames = some X.stack
 stk : X.stack = X.outer ∨ (X.stack = X.env :: X.outer ∧ X.env.frame = some X.env.locals)
 exf : ∀ b ∈ X.ex,b ≠ X.env.locals ∧ ∀ x c,X.env.cells.lookup x = some c → c ≠ b
 bs : ∀ b o,X.base.get? b = some o → X.s₀.heap.get? b = some o ∧ X.H₀ b = none
 bsz : X.base.objs.size ≤ X.s₀.heap.objs.size
 noex : ∀ b o,X.base.get? b = some o → b ∉ X.ex
 exfs : ∀ b ∈ X.ex,b ∉ X.fs
 funs : X.s₀.heap.FunFrames X.base X.outer
 frf : ∀ b ∈ X.fs,X.H₀ b = none
structure Inv (X : Cx) (pins : List (Addr × Obj)) (σ : List (Option V)) (H : Hp) (s : Shared) : Prop where
 ok : X.Ok
 os : s.os = X.s₀.os
 bare : AllBare s.gens
 base : Un X.fs X.ex X.H₀ H X.s₀.heap s.heap
 loc : ∃ m,s.heap.Ns X.env.locals m ∧ ∀ (i : Nat) (x : Str) (v : V),X.N[i]? = some x → σ[i]? = some (some v) → Vis X.env.scope x → ∃ u,RelV v u ∧ Look X.env s.heap m x u
 cell : ∀ x c,X.env.cells.lookup x = some c → ∃ v,s.heap.IsCell c v
 free : H X.env.locals = none
 freeC : ∀ x c,X.env.cells.lookup x = some c → H c = none
 pin : ∀ p ∈ X.pn ++ pins,s.heap.get? p.1 = some p.2 ∧ H p.1 = none ∧ p.1 ≠ X.env.locals ∧ p.1 ∉ X.fs ∧ ∀ v,p.2.data ≠ .cell v
 hok : HOk X.prog X.w H s.heap
 len : σ.length = X.N.length
section
variable {X : Cx} {pins : List (Addr × Obj)} {σ : List (Option V)} {H H' : Hp} {s : Shared} {h' : Heap}
theorem Cx.Ok.nofr (ok : X.Ok) {b : Addr} {o : Obj} (e : X.base.get? b = some o) : b ∉ X.fs := fun hb => by
 have := (ok.funs.mem hb).1
 rw [e] at this; cases this
theorem Inv.bs (I : Inv X pins σ H s) : ∀ b o,X.base.get? b = some o → s.heap.get? b = some o ∧ H b = none := fun b o e =>
 ⟨I.base.keep b o (I.ok.bs b o e).1 (I.ok.bs b o e).2 (I.ok.nofr e) (I.ok.noex b o e),I.base.free b o (I.ok.bs b o e).1 (I.ok.bs b o e).2 (I.ok.noex b o e)⟩
theorem Inv.bk (I : Inv X pins σ H s) : ∀ b o,X.base.get? b = some o → s.heap.get? b = some o := fun b o e => (I.bs b o e).1
theorem Inv.mod (I : Inv X pins σ H s) : Mod X.K X.mg X.base := I.ok.mod
theorem Inv.kIn (I : Inv X pins σ H s) : X.K.In s.heap := I.ok.mod.kin.keeps I.bk
theorem Inv.lt (I : Inv X pins σ H s) : X.env.locals < s.heap.objs.size := let ⟨_,hn,_⟩ := I.loc; hn.lt
theorem Inv.sz (I : Inv X pins σ H s) : X.s₀.heap.objs.size ≤ s.heap.objs.size := Nat.le_trans I.ok.above (Nat.le_of_lt I.lt)
theorem Inv.nofs (I : Inv X pins σ H s) {a : Addr} (h : s.heap.objs.size ≤ a) : a ∉ X.fs := fun hb => by
 obtain ⟨_,o,ho,_⟩ := I.ok.funs.mem hb
 exact absurd (Nat.lt_of_lt_of_le (Heap.lt_size ho) (Nat.le_trans I.sz h)) (Nat.lt_irrefl _)
theorem Inv.cne (I : Inv X pins σ H s) : ∀ x c,X.env.cells.lookup x = some c → c ≠ X.env.locals := fun x c e z => by
 obtain ⟨v,o,ho,hd⟩ := I.cell x c e
 obtain ⟨m,⟨o',es,ep,ho',hd',_⟩,_⟩ := I.loc
 rw [z,ho'] at ho; cases ho; rw [hd'] at hd; cases hd
theorem Inv.funs (I : Inv X pins σ H s) : s.heap.FunFrames X.base X.outer := by
 have all : ∀ (l : List Env),(∀ b ∈ frs l,b ∈ X.fs) → X.s₀.heap.FunFrames X.base l → s.heap.FunFrames X.base l := by
  intro l
  induction l with
  | nil => intro _ _; trivial
  | cons env r ih =>
   intro hs hl
   obtain ⟨hk,⟨L,o,hf,hn,ho,hd⟩,hr⟩ := hl
   have hL : L ∈ X.fs := hs L (by unfold frs; rw [List.filterMap_cons,hf]; exact List.mem_cons_self)
   obtain ⟨sl,e⟩ := I.base.slot L o ho (I.ok.frf L hL) hL fun z => I.ok.exfs L z hL
   exact ⟨hk,⟨L,_,hf,hn,e,hd⟩,ih (fun b hb => hs b (by unfold frs; rw [List.filterMap_cons,hf]; exact List.mem_cons_of_mem _ hb)) hr⟩
 exact all X.outer (fun _ hb => hb) I.ok.funs
theorem Inv.stack (I : Inv X pins σ H s) : s.heap.FunFrames X.base X.stack := by
 rcases I.ok.stk with e | ⟨e,hf⟩
 ·rw [e]; exact I.funs
 ·rw [e]
  obtain ⟨m,hn,_⟩ := I.loc
  refine .cons (by rw [I.ok.kind]; decide) hf hn ?_ I.funs
  exact Heap.get?_none_of_le (Nat.le_trans I.ok.bsz I.ok.above)
theorem Inv.stkSub (I : Inv X pins σ H s) : ∀ b ∈ frs X.stack,b ∈ X.env.locals :: X.fs := fun b hb => by
 rcases I.ok.stk with e | ⟨e,hf⟩
 ·rw [e] at hb; exact List.mem_cons_of_mem _ hb
 ·rw [e] at hb
  unfold frs at hb
  rw [List.filterMap_cons,hf] at hb
  exact hb
theorem Inv.stkFree (I : Inv X pins σ H s) : ∀ b ∈ frs X.stack,H b = none := fun b hb => by
 rcases List.mem_cons.mp (I.stkSub b hb) with e | hb
 ·rw [e]; exact I.free
 ·obtain ⟨_,o,ho,_⟩ := I.ok.funs.mem hb
  exact I.base.free b o ho (I.ok.frf b hb) fun z => I.ok.exfs b z hb
theorem Inv.step {g' : Array GenState} {t' : Nat} {d' : Drawn} {ch : List Addr} (I : Inv X pins σ H s)
  (hch : ∀ b ∈ ch,(b ∈ X.ex ∨ X.s₀.heap.objs.size ≤ b) ∧ b ≠ X.env.locals ∧ (∀ x c,X.env.cells.lookup x = some c → c ≠ b) ∧ ∀ p ∈ X.pn ++ pins,p.1 ≠ b)
  (keep : ∀ b o,b ≠ X.env.locals → b ∉ X.fs → b ∉ ch → s.heap.get? b = some o → H b = none → h'.get? b = some o)
  (slot : ∀ b o,b ≠ X.env.locals → b ∈ X.fs → b ∉ ch → s.heap.get? b = some o → H b = none → ∃ sl,h'.get? b = some { o with slots := sl }) (free : ∀ b o,b ∉ ch → s.heap.get? b = some o → H b = none → H' b = none)
  (there : ∀ b o,b ∉ ch → s.heap.get? b = some o → ∃ o',h'.get? b = some o')
  (tups : ∀ b xs,H b = some (.tup xs) → H' b = some (.tup xs)) (frzs : ∀ b o u,H b = some (.frz o u) → H' b = some (.frz o u)) (tbls : ∀ b ps,H b = some (.tbl ps) → ∃ more,H' b = some (.tbl (ps ++ more)))
  (ns : ∀ m,s.heap.Ns X.env.locals m → h'.Ns X.env.locals m) (hok : HOk X.prog X.w H' h') (hg : AllBare g') :
  Inv X pins σ H' { s with heap := h',gens := g',drawn := d',toks := t' } := by
 have neL : ∀ b o,X.s₀.heap.get? b = some o → b ≠ X.env.locals := fun b o e => Nat.ne_of_lt (Nat.lt_of_lt_of_le (Heap.lt_size e) I.ok.above)
 have neC : ∀ b o,X.s₀.heap.get? b = some o → b ∉ X.ex → b ∉ ch := fun b o e hx hb => by
  rcases (hch b hb).1 with z | z
  ·exact hx z
  ·exact absurd (Nat.lt_of_lt_of_le (Heap.lt_size e) z) (Nat.lt_irrefl _)
 have cellK : ∀ x c,X.env.cells.lookup x = some c → ∀ v,s.heap.IsCell c v → h'.IsCell c v := fun x c e v ⟨o,ho,hd⟩ => by
  have nch : c ∉ ch := fun z => (hch c z).2.2.1 x c e rfl
  by_cases hc : c ∈ X.fs
  ·obtain ⟨sl,q⟩ := slot c o (I.cne x c e) hc nch ho (I.freeC x c e)
   exact ⟨_,q,hd⟩
  ·exact ⟨o,keep c o (I.cne x c e) hc nch ho (I.freeC x c e),hd⟩
 refine ⟨I.ok,I.os,hg,⟨fun b o e n hb hx => ?_,fun b o e n hb hx => ?_,fun b o e n hx => ?_,fun b o e hx => ?_,fun b xs e => tups b xs (I.base.tups b xs e),fun b o xs e => frzs b o xs (I.base.frzs b o xs e),fun b ps e => ?_⟩,?_,fun x c e => ?_,?_,fun x c e => ?_,fun p hp => ?_,hok,I.len⟩
 ·exact keep b o (neL b o e) hb (neC b o e hx) (I.base.keep b o e n hb hx) (I.base.free b o e n hx)
 ·obtain ⟨sl,e1⟩ := I.base.slot b o e n hb hx
  obtain ⟨sl',e2⟩ := slot b _ (neL b o e) hb (neC b o e hx) e1 (I.base.free b o e n hx)
  exact ⟨sl',e2⟩
 ·obtain ⟨o',e1⟩ := I.base.there b o e hx
  exact free b o' (neC b o e hx) e1 (I.base.free b o e n hx)
 ·obtain ⟨o',e1⟩ := I.base.there b o e hx
  exact there b o' (neC b o e hx) e1
 ·obtain ⟨m1,e1⟩ := I.base.tbls b ps e
  obtain ⟨m2,e2⟩ := tbls b _ e1
  exact ⟨m1 ++ m2,by rw [e2,Array.append_assoc]⟩
 ·obtain ⟨m,hn,hl⟩ := I.loc
  refine ⟨m,ns m hn,fun i x v e1 e2 e3 => ?_⟩
  obtain ⟨u,r,l⟩ := hl i x v e1 e2 e3
  refine ⟨u,r,?_⟩
  rcases l with l | ⟨k,c,e,z⟩
  ·exact .inl l
  ·exact .inr ⟨k,c,e,cellK x c e _ z⟩
 ·obtain ⟨v,z⟩ := I.cell x c e
  exact ⟨v,cellK x c e v z⟩
 ·obtain ⟨m,⟨o,_,_,ho,_⟩,_⟩ := I.loc
  exact free _ o (fun z => (hch _ z).2.1 rfl) ho I.free
 ·obtain ⟨v,o,ho,hd⟩ := I.cell x c e
  exact free c o (fun z => (hch c z).2.2.1 x c e rfl) ho (I.freeC x c e)
 ·obtain ⟨e,n,ne,nf,d⟩ := I.pin p hp
  have nch : p.1 ∉ ch := fun z => (hch p.1 z).2.2.2 p hp rfl
  exact ⟨keep p.1 p.2 ne nf nch e n,free p.1 p.2 nch e n,ne,nf,d⟩
theorem Inv.un {t' : Nat} (I : Inv X pins σ H s) (u : Un X.fs [] H H' s.heap h') (hok : HOk X.prog X.w H' h') : Inv X pins σ H' { s with heap := h',toks := t' } := by
 obtain ⟨m,⟨o,es,ep,ho,r⟩,_⟩ := id I.loc
 obtain ⟨sl,hL⟩ := u.any ho I.free (by simp)
 exact I.step (g' := s.gens) (d' := s.drawn) (ch := []) (fun _ z => nomatch z) (fun b o _ hb _ e n => u.keep b o e n hb (by simp)) (fun b o _ hb _ e n => u.slot b o e n hb (by simp)) (fun b o _ e n => u.free b o e n (by simp)) (fun b o _ e => u.there b o e (by simp)) u.tups u.frzs u.tbls (fun m' hm => by
  obtain ⟨o',es',ep',ho',r'⟩ := hm
  rw [ho] at ho'; cases ho'
  exact ⟨_,es',ep',hL,r'⟩) hok I.bare
theorem Inv.call {g' : Array GenState} {t' : Nat} {d' : Drawn} {ch : List Addr} (I : Inv X pins σ H s) (u : Un (frs X.stack) ch H H' s.heap h') (hok : HOk X.prog X.w H' h') (hg : AllBare g')
  (hch : ∀ b ∈ ch,(b ∈ X.ex ∨ X.s₀.heap.objs.size ≤ b) ∧ b ≠ X.env.locals ∧ (∀ x c,X.env.cells.lookup x = some c → c ≠ b) ∧ ∀ p ∈ X.pn ++ pins,p.1 ≠ b) :
  Inv X pins σ H' { s with heap := h',gens := g',drawn := d',toks := t' } := by
 obtain ⟨m,⟨o,es,ep,ho,r⟩,_⟩ := id I.loc
 obtain ⟨sl,hL⟩ := u.any ho I.free fun z => (hch _ z).2.1 rfl
 exact I.step (ch := ch) hch (fun b o hL hb hc e n => u.keep b o e n (fun z => (List.mem_cons.mp (I.stkSub b z)).elim hL hb) hc) (fun b o _ _ hc e n => u.any e n hc) (fun b o hc e n => u.free b o e n hc) (fun b o hc e => u.there b o e hc) u.tups u.frzs u.tbls (fun m' hm => by
  obtain ⟨o',es',ep',ho',r'⟩ := hm
  rw [ho] at ho'; cases ho'
  exact ⟨_,es',ep',hL,r'⟩) hok hg
theorem Inv.turned {t' : Nat} {it : Addr} (I : Inv X pins σ H s) (k : ∀ b o,b ≠ it → s.heap.get? b = some o → h'.get? b = some o) (hn : H it = none) (hL : it ≠ X.env.locals)
  (h1 : it ∈ X.ex ∨ X.s₀.heap.objs.size ≤ it) (h2 : ∀ x c,X.env.cells.lookup x = some c → c ≠ it) (h3 : ∀ p ∈ X.pn ++ pins,p.1 ≠ it) : Inv X pins σ H { s with heap := h',toks := t' } := by
 have nit : ∀ b u,H b = some u → b ≠ it := fun b u e z => by rw [z,hn] at e; cases e
 refine I.step (g' := s.gens) (d' := s.drawn) (ch := [it]) (fun b hb => ?_) (fun b o _ _ hc e _ => k b o (fun z => hc (by simp [z])) e) (fun b o _ _ hc e _ => ⟨o.slots,k b o (fun z => hc (by simp [z])) e⟩) (fun _ _ _ _ n => n)
  (fun b o hc e => ⟨o,k b o (fun z => hc (by simp [z])) e⟩) (fun _ _ e => e) (fun _ _ _ e => e) (fun b ps e => ⟨#[],by rw [e]; simp⟩) (fun m hm => ?_) (fun b u e => ?_) I.bare
 ·have e : b = it := by simpa using hb
  subst e
  exact ⟨h1,hL,h2,h3⟩
 ·obtain ⟨o,es,ep,ho,r⟩ := hm
  exact ⟨o,es,ep,k _ o (Ne.symm hL) ho,r⟩
 ·refine (I.hok b u e).stay (fun c v hc q => k c v ?_ q) (fun _ q => q) fun _ _ q => q
  rcases hc with z | z
  ·rw [z]; exact nit b u e
  ·exact nit c _ z
theorem Inv.tok (I : Inv X pins σ H s) (t : Nat) : Inv X pins σ H { s with toks := t } := I.un (h' := s.heap) (t' := t) Un.refl I.hok
theorem Inv.kept {t' : Nat} (I : Inv X pins σ H s) (k : ∀ b u,s.heap.get? b = some u → h'.get? b = some u) : Inv X pins σ H { s with heap := h',toks := t' } := I.un (Un.kept k) (I.hok.kept k)
theorem Inv.laid {a : Addr} {o : HO} {t' : Nat} (I : Inv X pins σ H s) (k : ∀ b u,s.heap.get? b = some u → h'.get? b = some u) (hp : s.heap.objs.size ≤ a) (new : J2Z X.prog X.w (upd H a o) h' a o) :
  Inv X pins σ (upd H a o) { s with heap := h',toks := t' } := I.un (Un.laid k hp (I.hok.fresh hp)) (I.hok.laid k hp new)
theorem Inv.write {x e : Addr} {o : HO} {t' : Nat} (I : Inv X pins σ H s) (mu : Mut (H x)) (he : e = x ∨ H e = some (.own x)) (k : ∀ b u,b ≠ e → s.heap.get? b = some u → h'.get? b = some u) (heo : ∃ u,h'.get? e = some u)
  (new : J2Z X.prog X.w (upd H x o) h' x o) : Inv X pins σ (upd H x o) { s with heap := h',toks := t' } := I.un (Un.write mu he k heo) (I.hok.write mu he k heo new)
theorem Inv.pins_of {pins' : List (Addr × Obj)} (I : Inv X pins σ H s) (h : ∀ p ∈ pins',s.heap.get? p.1 = some p.2 ∧ H p.1 = none ∧ p.1 ≠ X.env.locals ∧ p.1 ∉ X.fs ∧ ∀ v,p.2.data ≠ .cell v) : Inv X pins' σ H s :=
 ⟨I.ok,I.os,I.bare,I.base,I.loc,I.cell,I.free,I.freeC,fun p hp => (List.mem_append.mp hp).elim (fun z => I.pin p (List.mem_append_left _ z)) (h p),I.hok,I.len⟩
theorem J9B {N : List Str} (hN : N.Nodup) {i j : Nat} {x : Str} (a : N[i]? = some x) (b : N[j]? = some x) : i = j := by
 obtain ⟨h1,e1⟩ := List.getElem?_eq_some_iff.mp a
 obtain ⟨h2,e2⟩ := List.getElem?_eq_some_iff.mp b
 exact (List.getElem_inj hN).mp (e1.trans e2.symm)
theorem Jc9 {M : Model} {A : Around} {E : Value → Shared → Prop} {i : Nat} {x : Str} {v : V} {u : Value} {Q : Unit → Shared → Prop} (I : Inv X pins σ H s) (hN : X.N.Nodup) (hi : X.N[i]? = some x) (hx : Loc X.env.scope x) (r : RelV v u)
  (h : ∀ s',Inv X pins (σ.set i (some v)) H s' → (∃ a,Heap.SameBut a s.heap s'.heap ∧ (a = X.env.locals ∨ X.env.cells.lookup x = some a)) → Q () s') (hf : X.fn x = true ∨ X.env.scope.names.lookup x = some .local := by first | exact .inl rfl | exact .inr rfl | assumption) : wpAny M A (storeName X.env x u) Q E s := by
 obtain ⟨m,hn,hl⟩ := id I.loc
 have hcls : (X.env.scope.kind == .class || (X.env.scope.kind == .module && X.env.locals != X.env.globals)) = false := by rw [I.ok.kind]; rfl
 have hiσ : i < σ.length := by rw [I.len]; exact (List.getElem?_eq_some_iff.mp hi).1
 have cne := I.cne
 have tracked : ∀ {a : Addr} {h' : Heap},(∃ o,s.heap.get? a = some o ∧ H a = none) → Heap.SameBut a s.heap h' → HOk X.prog X.w H h' := fun {a h'} ha hs b ob e => by
  obtain ⟨_,_,hfree⟩ := ha
  refine (I.hok b ob e).stay (fun c w' hc q => (hs.2 c ?_).trans q) (fun _ q => q) fun _ _ q => q
  rintro rfl
  rcases hc with rfl | hc
  ·rw [hfree] at e; cases e
  ·rw [hfree] at hc; cases hc
 rcases hx with hk | hk
 ·refine wpAny_storeName_local hk hn (fun h' hn' hs => ?_) hcls
  obtain ⟨oL,_,_,hoL,_⟩ := id hn
  refine h _ ⟨I.ok,I.os,I.bare,⟨fun b o e n hb hx => ?_,fun b o e n hb hx => ?_,I.base.free,fun b o e hx => ?_,I.base.tups,I.base.frzs,I.base.tbls⟩,⟨_,hn',fun j y v' e1 e2 e3 => ?_⟩,fun y c e => ?_,I.free,I.freeC,fun p hp => ?_,tracked ⟨oL,hoL,I.free⟩ hs,by simpa using I.len⟩ ⟨_,hs,.inl rfl⟩
  ·exact (hs.2 b (Nat.ne_of_lt (Nat.lt_of_lt_of_le (Heap.lt_size e) I.ok.above))).trans (I.base.keep b o e n hb hx)
  ·obtain ⟨sl,e1⟩ := I.base.slot b o e n hb hx
   exact ⟨sl,(hs.2 b (Nat.ne_of_lt (Nat.lt_of_lt_of_le (Heap.lt_size e) I.ok.above))).trans e1⟩
  ·obtain ⟨o',e1⟩ := I.base.there b o e hx
   exact ⟨o',(hs.2 b (Nat.ne_of_lt (Nat.lt_of_lt_of_le (Heap.lt_size e) I.ok.above))).trans e1⟩
  ·by_cases hj : j = i
   ·subst hj
    rw [hi] at e1; cases e1
    rw [List.getElem?_set_self hiσ] at e2
    cases e2
    exact ⟨u,r,.inl ⟨hk,by simp⟩⟩
   ·rw [List.getElem?_set_ne (Ne.symm hj)] at e2
    obtain ⟨u',r',q⟩ := hl j y v' e1 e2 e3
    refine ⟨u',r',?_⟩
    rcases q with ⟨k,e⟩ | ⟨k,c,e,z⟩
    ·refine .inl ⟨k,?_⟩
     have : y ≠ x := fun e => hj (J9B hN e1 (e ▸ hi))
     simp [this,e]
    ·exact .inr ⟨k,c,e,z.sameBut hs (cne y c e)⟩
  ·obtain ⟨w',z⟩ := I.cell y c e
   exact ⟨w',z.sameBut hs (cne y c e)⟩
  ·obtain ⟨e,n,ne,nf,d⟩ := I.pin p hp
   exact ⟨(hs.2 p.1 ne).trans e,n,ne,nf,d⟩
 ·have hfn : X.fn x = true := by
   rcases hf with z | z
   ·exact z
   ·rw [z] at hk; cases hk
  obtain ⟨c,hc⟩ := I.ok.has x (.inl hk)
  obtain ⟨w',z⟩ := I.cell x c hc
  refine wpAny_storeName_cell I.ok.kind hk hc z (fun h' hc' hs => ?_)
  obtain ⟨oc,hoc,hocd⟩ := id z
  refine h { s with heap := h' } ⟨I.ok,I.os,I.bare,⟨fun b o e n hb hx => ?_,fun b o e n hb hx => ?_,I.base.free,fun b o e hx => ?_,I.base.tups,I.base.frzs,I.base.tbls⟩,⟨m,hn.sameBut hs (Ne.symm (cne x c hc)),fun j y v' e1 e2 e3 => ?_⟩,fun y c' e => ?_,I.free,I.freeC,fun p hp => ?_,tracked ⟨oc,hoc,I.freeC x c hc⟩ hs,by simpa using I.len⟩ ⟨c,hs,.inr hc⟩
  ·exact (hs.2 b (Nat.ne_of_lt (Nat.lt_of_lt_of_le (Heap.lt_size e) (I.ok.cab x c hfn hc)))).trans (I.base.keep b o e n hb hx)
  ·obtain ⟨sl,e1⟩ := I.base.slot b o e n hb hx
   exact ⟨sl,(hs.2 b (Nat.ne_of_lt (Nat.lt_of_lt_of_le (Heap.lt_size e) (I.ok.cab x c hfn hc)))).trans e1⟩
  ·obtain ⟨o',e1⟩ := I.base.there b o e hx
   exact ⟨o',(hs.2 b (Nat.ne_of_lt (Nat.lt_of_lt_of_le (Heap.lt_size e) (I.ok.cab x c hfn hc)))).trans e1⟩
  ·by_cases hj : j = i
   ·subst hj
    rw [hi] at e1; cases e1
    rw [List.getElem?_set_self hiσ] at e2
    cases e2
    exact ⟨u,r,.inr ⟨.inl hk,c,hc,hc'⟩⟩
   ·rw [List.getElem?_set_ne (Ne.symm hj)] at e2
    obtain ⟨u',r',q⟩ := hl j y v' e1 e2 e3
    refine ⟨u',r',?_⟩
    rcases q with q | ⟨k,c',e,z'⟩
    ·exact .inl q
    ·refine .inr ⟨k,c',e,z'.sameBut hs ?_⟩
     rintro rfl
     exact hj (J9B hN e1 (I.ok.inj _ _ _ e hc ▸ hi))
  ·by_cases hcc : c' = c
   ·subst hcc; exact ⟨_,hc'⟩
   ·obtain ⟨w2,z2⟩ := I.cell y c' e
    exact ⟨w2,z2.sameBut hs hcc⟩
  ·obtain ⟨e,n,ne,nf,d⟩ := I.pin p hp
   refine ⟨(hs.2 p.1 ?_).trans e,n,ne,nf,d⟩
   intro q
   rw [q,hoc] at e
   have q' : oc = p.2 := Option.some.inj e
   exact d w' (by rw [← q']; exact hocd)
theorem J4Q {M : Model} {A : Around} {E : Value → Shared → Prop} {i : Nat} {x : Str} {v : V} {u : Value} {Q : Unit → Shared → Prop} (I : Inv X pins σ H s) (hN : X.N.Nodup) (hi : X.N[i]? = some x) (hx : Loc X.env.scope x) (r : RelV v u)
  (h : ∀ s',Inv X pins (σ.set i (some v)) H s' → Q () s') (hf : X.fn x = true ∨ X.env.scope.names.lookup x = some .local := by first | exact .inl rfl | exact .inr rfl | assumption) : wpAny M A (storeName X.env x u) Q E s :=
 Jc9 I hN hi hx r (fun s' I' _ => h s' I') hf
theorem Inv.call' {s' : Shared} {ch : List Addr} (I : Inv X pins σ H s) (ho : s'.os = s.os) (u : Un (frs X.stack) ch H H' s.heap s'.heap) (hok : HOk X.prog X.w H' s'.heap) (hg : AllBare s'.gens)
  (hch : ∀ b ∈ ch,(b ∈ X.ex ∨ X.s₀.heap.objs.size ≤ b) ∧ b ≠ X.env.locals ∧ (∀ x c,X.env.cells.lookup x = some c → c ≠ b) ∧ ∀ p ∈ X.pn ++ pins,p.1 ≠ b) : Inv X pins σ H' s' := by
 obtain ⟨h',g',d',t',o'⟩ := s'
 have e : o' = s.os := ho
 subst e
 exact I.call (g' := g') (t' := t') (d' := d') u hok hg hch
end
noncomputable abbrev XK := Value → Option Addr → Hp → Prop
noncomputable abbrev St := List (Option V)
noncomputable abbrev VK := V → Hp → Prop
noncomputable abbrev TE := St → Hp → VK → Prop
noncomputable abbrev TT := St → Hp → (Bool → Hp → Prop) → Prop
noncomputable abbrev TA := St → Hp → (List V → Hp → Prop) → Prop
structure Ends where
 nx : St → Hp → Prop
 rt : VK
 bk : St → Hp → Prop := fun _ _ => False
 ct : St → Hp → Prop := fun _ _ => False
noncomputable abbrev TS := Ends → St → Hp → Prop
noncomputable def EP (X : Cx) (pins : List (Addr × Obj)) (σ : St) (Q : VK) (u : Value) (s' : Shared) : Prop := ∃ v H',Inv X pins σ H' s' ∧ RelV v u ∧ Q v H'
noncomputable def TP (X : Cx) (pins : List (Addr × Obj)) (σ : St) (Q : Bool → Hp → Prop) (b : Bool) (s' : Shared) : Prop := ∃ H',Inv X pins σ H' s' ∧ Q b H'
noncomputable def AP (X : Cx) (pins : List (Addr × Obj)) (σ : St) (Q : List V → Hp → Prop) (us : List Value) (s' : Shared) : Prop := ∃ vs H',Inv X pins σ H' s' ∧ Vals vs us ∧ Q vs H'
noncomputable def SP (X : Cx) (pins : List (Addr × Obj)) (D : Ends) (f : Flow) (s' : Shared) : Prop :=
 match f with
 | .next => ∃ σ' H',Inv X pins σ' H' s' ∧ D.nx σ' H'
 | .brk => ∃ σ' H',Inv X pins σ' H' s' ∧ D.bk σ' H'
 | .cont => ∃ σ' H',Inv X pins σ' H' s' ∧ D.ct σ' H'
 | .ret u => ∃ v σ' H',Inv X pins σ' H' s' ∧ RelV v u ∧ D.rt v H'
noncomputable def PE (X : Cx) (e : Expr) (t : TE) : Prop :=
 ∀ (pins : List (Addr × Obj)) (s : Shared) (σ : St) (H : Hp) (Q : VK),Inv X pins σ H s → t σ H Q → wpAny (model X.prog X.w) X.A (eval e X.env) (EP X pins σ Q) X.xe s
noncomputable def PT (X : Cx) (e : Expr) (t : TT) : Prop :=
 ∀ (pins : List (Addr × Obj)) (s : Shared) (σ : St) (H : Hp) (Q : Bool → Hp → Prop),Inv X pins σ H s → t σ H Q → wpAny (model X.prog X.w) X.A (isTrue e X.env (eval e X.env)) (TP X pins σ Q) X.xe s
noncomputable def PW (X : Cx) (e : Expr) (t : TT) : Prop :=
 ∀ (whole : Sem Value) (pins : List (Addr × Obj)) (s : Shared) (σ : St) (H : Hp) (Q : Bool → Hp → Prop),Inv X pins σ H s → t σ H Q → wpAny (model X.prog X.w) X.A (isTrue e X.env whole) (TP X pins σ Q) X.xe s
theorem PW.pt {X : Cx} {e : Expr} {t : TT} (h : PW X e t) : PT X e t := h _
noncomputable def PA (X : Cx) (es : List Expr) (t : TA) : Prop :=
 ∀ (pos : Pos) (pins : List (Addr × Obj)) (s : Shared) (σ : St) (H : Hp) (Q : List V → Hp → Prop),Inv X pins σ H s → t σ H Q → wpAny (model X.prog X.w) X.A (spliced (backTo pos (starEach es X.env))) (AP X pins σ Q) X.xe s
noncomputable def PS (X : Cx) (st : Stmt) (t : TS) : Prop :=
 ∀ (pins : List (Addr × Obj)) (s : Shared) (σ : St) (H : Hp) (D : Ends),Inv X pins σ H s → t D σ H → wpAny (model X.prog X.w) X.A (exec st X.env) (SP X pins D) X.xe s
noncomputable def PSs (X : Cx) (st : List Stmt) (t : TS) : Prop :=
 ∀ (pins : List (Addr × Obj)) (s : Shared) (σ : St) (H : Hp) (D : Ends),Inv X pins σ H s → t D σ H → wpAny (model X.prog X.w) X.A (execs st X.env) (SP X pins D) X.xe s
theorem thn {α : Type} {t : Sem α} {Q Q' : α → Shared → Prop} {M : Model} {A : Around} {E : Value → Shared → Prop} {s : Shared} (h : wpAny M A t Q E s) (hQ : ∀ a s,Q a s → Q' a s) : wpAny M A t Q' E s := wpAny_mono h hQ fun _ _ x => x
end L2
namespace L2
open PySem PySem.Spec PyProof.Rows
section
variable {X : Cx}
noncomputable def tVar (i : Nat) : TE := fun σ H Q => ∃ v,σ[i]? = some (some v) ∧ Q v H
noncomputable def tC (v : V) : TE := fun _ H Q => Q v H
theorem Jfr {i : Nat} {x : Str} {pos : Pos} (hN : X.N[i]? = some x) (hv : Vis X.env.scope x) (hd : (x == ("__debug__" : Str)) = false := by decide) (hcd : (x == ("__classdict__" : Str)) = false := by decide) : PE X (.Name x pos) (tVar i) := by
 intro pins s σ H Q I h
 obtain ⟨v,e,h⟩ := h
 obtain ⟨m,hn,hl⟩ := I.loc
 obtain ⟨u,r,l⟩ := hl i x v hN e hv
 have fin : EP X pins σ Q u s := ⟨v,H,I,r,h⟩
 rcases l with ⟨hk,hm⟩ | ⟨hk,c,hc,hcell⟩
 ·exact wpAny_Name (wpAny_loadName_local I.ok.kind hk hn hm fin) hd
 ·rcases hk with hk | hk
  ·exact wpAny_Name (wpAny_loadName_cell I.ok.kind hk hc hcell fin) hd
  ·exact wpAny_Name (wpAny_loadName_free I.ok.kind hk hc hcell fin hcd) hd
theorem J6 {i j pos} : PE X (.Constant (.int i) j pos) (tC (.int i)) := fun _ _ _ H _ I h => wpAny_Constant_int ⟨.int i,H,I.tok _,⟨_,rfl⟩,h⟩
theorem J4k {b j pos} : PE X (.Constant (.bool b) j pos) (tC (.bl b)) := fun _ _ _ H _ I h => Constant_bool ⟨.bl b,H,I,rfl,h⟩
theorem JeV {x j pos} : PE X (.Constant (.str x) j pos) (tC (.str x)) := fun _ _ _ H _ I h => Calls.Constant_str ⟨.str x,H,I.tok _,⟨_,rfl⟩,h⟩
noncomputable def Gl (X : Cx) (x : Str) : Prop := X.env.kindOf x = some .globalImplicit
theorem J8G {E : Value → Shared → Prop} {pins : List (Addr × Obj)} {s : Shared} {σ : St} {H : Hp} {x : Str} {u : Value} {pos : Pos} {Q : Value → Shared → Prop} (I : Inv X pins σ H s) (hg : Gl X x) (hm : X.mg x = some u) (h : Q u s)
  (hd : (x == ("__debug__" : Str)) = false := by decide) : wpAny (model X.prog X.w) X.A (eval (.Name x pos) X.env) Q E s :=
 Calls.Name_function_global I.ok.kind hg (Calls.loadGlobal_global (by rw [I.ok.glob]; exact I.mod.glob.keeps I.bk) hm h) hd
theorem J4q {E : Value → Shared → Prop} {pins : List (Addr × Obj)} {s : Shared} {σ : St} {H : Hp} {x : Str} {u : Value} {pos : Pos} {Q : Value → Shared → Prop} (I : Inv X pins σ H s) (hg : Gl X x) (hm : X.mg x = none) (hv : bootBuiltins x = some u) (h : Q u s)
  (hn : x ≠ "__name__" := by decide) (hd : (x == ("__debug__" : Str)) = false := by decide) : wpAny (model X.prog X.w) X.A (eval (.Name x pos) X.env) Q E s := by
 obtain ⟨mb,h1,h2⟩ := I.mod.blt
 exact Calls.Name_function_global I.ok.kind hg (Calls.loadGlobal_builtin (by rw [I.ok.glob]; exact I.mod.glob.keeps I.bk) hm (by rw [I.ok.blt]; exact h1.keeps I.bk) ((h2 x hn).trans hv) h) hd
theorem Jbb {x : Str} {v : V} {u : Value} {pos : Pos} (hg : Gl X x) (hm : X.mg x = some u) (r : RelV v u) (hd : (x == ("__debug__" : Str)) = false := by decide) : PE X (.Name x pos) (tC v) :=
 fun _ _ _ H _ I h => J8G I hg hm ⟨v,H,I,r,h⟩ hd
theorem Jeg {x : Str} {v : V} {u : Value} {pos : Pos} (hg : Gl X x) (hm : X.mg x = none) (hv : bootBuiltins x = some u) (r : RelV v u) (hn : x ≠ "__name__" := by decide) (hd : (x == ("__debug__" : Str)) = false := by decide) : PE X (.Name x pos) (tC v) :=
 fun _ _ _ H _ I h => J4q I hg hm hv ⟨v,H,I,r,h⟩ hn hd
variable {a b : Expr} {ta tb : TE} {pos : Pos}
noncomputable def tB (t : TE) : TT := fun σ H Q => t σ H fun x H1 => ∃ c,x = .bl c ∧ Q c H1
theorem J2z {e : Expr} {t : TE} (h : PE X e t) (he : ∀ whole,isTrue e X.env whole = (do let v ← whole; standAt e.pos; holding [v] (truthy v)) := by intro _; rfl) : PT X e (tB t) := by
 intro pins s σ H Q I hw
 refine isTrue_plain (thn (h pins s σ H _ I hw) fun v s1 ⟨x,H1,I1,r1,q1⟩ => ?_) (he _)
 obtain ⟨d,rfl,q⟩ := q1
 cases r1
 exact wpAny_truthy_bool ⟨H1,I1,q⟩
variable {tA tB' : TT} {rest : List Expr}
noncomputable def tAnd (t u : TT) : TT := fun σ H Q => t σ H fun c H1 => if c = true then u σ H1 Q else Q false H1
noncomputable def tOr (t u : TT) : TT := fun σ H Q => t σ H fun c H1 => if c = true then Q true H1 else u σ H1 Q
noncomputable def tNot (t : TT) : TT := fun σ H Q => t σ H fun c H1 => Q (!c) H1
theorem J1N (ha : PT X a tA) : PW X (.BoolOp .And [a] pos) tA := by
 intro wh pins s σ H Q I h
 refine isTrue_and (thn (ha pins s σ H Q I h) fun c s1 e => ?_)
 cases c with
 | true => exact isTrue_and_nil e
 | false => exact e
theorem J4v (ha : PT X a tA) : PW X (.BoolOp .Or [a] pos) tA := by
 intro wh pins s σ H Q I h
 refine isTrue_or (thn (ha pins s σ H Q I h) fun c s1 e => ?_)
 cases c with
 | false => exact isTrue_or_nil e
 | true => exact e
theorem J1x (ha : PT X a tA) (hb : PW X (.BoolOp .And (b :: rest) pos) tB') : PW X (.BoolOp .And (a :: b :: rest) pos) (tAnd tA tB') := by
 intro wh pins s σ H Q I h
 refine isTrue_and (thn (ha pins s σ H _ I h) fun c s1 ⟨H1,I1,q1⟩ => ?_)
 cases c with
 | true => exact hb wh pins s1 σ H1 Q I1 q1
 | false => exact ⟨H1,I1,q1⟩
theorem J4i (ha : PT X a tA) (hb : PW X (.BoolOp .Or (b :: rest) pos) tB') : PW X (.BoolOp .Or (a :: b :: rest) pos) (tOr tA tB') := by
 intro wh pins s σ H Q I h
 refine isTrue_or (thn (ha pins s σ H _ I h) fun c s1 ⟨H1,I1,q1⟩ => ?_)
 cases c with
 | true => exact ⟨H1,I1,q1⟩
 | false => exact hb wh pins s1 σ H1 Q I1 q1
theorem J6U (ha : PT X a tA) : PT X (.UnaryOp .Not a pos) (tNot tA) := by
 intro pins s σ H Q I h
 exact isTrue_not (ha pins s σ H (fun c H1 => Q (!c) H1) I h)
noncomputable def Jg0 (ta tb : TE) : TE := fun σ H Q => ta σ H fun x H1 => ∃ c,x = .bl c ∧ if c = true then tb σ H1 Q else Q (.bl false) H1
noncomputable def tOrV (ta tb : TE) : TE := fun σ H Q => ta σ H fun x H1 => ∃ c,x = .bl c ∧ if c = true then Q (.bl true) H1 else tb σ H1 Q
noncomputable def JfP (ta : TE) : TE := fun σ H Q => ta σ H fun x H1 => ∃ c,x = .bl c ∧ Q (.bl (!c)) H1
theorem J5v {op} {t : TE} (h : PE X a t) : PE X (.BoolOp op [a] pos) t := fun pins s σ H Q I hw => BoolOp_one (h pins s σ H Q I hw)
theorem J4y (ha : PE X a ta) (hb : PE X (.BoolOp .And (b :: rest) pos) tb) : PE X (.BoolOp .And (a :: b :: rest) pos) (Jg0 ta tb) := by
 intro pins s σ H Q I h
 refine BoolOp_and (thn (ha pins s σ H _ I h) fun v s1 ⟨x,H1,I1,r1,q1⟩ => ?_)
 obtain ⟨c,rfl,q1⟩ := q1
 cases r1
 refine wpAny_truthy_bool ?_
 cases c with
 | true => exact hb pins s1 σ H1 Q I1 q1
 | false => exact ⟨.bl false,H1,I1,rfl,q1⟩
theorem JfT (ha : PE X a ta) (hb : PE X (.BoolOp .Or (b :: rest) pos) tb) : PE X (.BoolOp .Or (a :: b :: rest) pos) (tOrV ta tb) := by
 intro pins s σ H Q I h
 refine BoolOp_or (thn (ha pins s σ H _ I h) fun v s1 ⟨x,H1,I1,r1,q1⟩ => ?_)
 obtain ⟨c,rfl,q1⟩ := q1
 cases r1
 refine wpAny_truthy_bool ?_
 cases c with
 | false => exact hb pins s1 σ H1 Q I1 q1
 | true => exact ⟨.bl true,H1,I1,rfl,q1⟩
theorem Jf4 (ha : PE X a ta) : PE X (.UnaryOp .Not a pos) (JfP ta) := by
 intro pins s σ H Q I h
 refine UnaryOp_ (thn (ha pins s σ H _ I h) fun v s1 ⟨x,H1,I1,r1,q1⟩ => ?_)
 obtain ⟨c,rfl,q1⟩ := q1
 cases r1
 exact not_of (wpAny_truthy_bool ⟨.bl (!c),H1,I1,rfl,q1⟩)
noncomputable def tIf (t : TT) (ta tb : TE) : TE := fun σ H Q => t σ H fun c H1 => if c = true then ta σ H1 Q else tb σ H1 Q
theorem Jds {c : Expr} (hc : PT X c tA) (ha : PE X a ta) (hb : PE X b tb) : PE X (.IfExp c a b pos) (tIf tA ta tb) := by
 intro pins s σ H Q I h
 refine wpAny_IfExp (thn (hc pins s σ H _ I h) fun d s1 ⟨H1,I1,q1⟩ => ?_)
 cases d with
 | true => exact ha pins s1 σ H1 Q I1 q1
 | false => exact hb pins s1 σ H1 Q I1 q1
end
end L2
namespace L2
open PySem PySem.Spec PyProof.Rows
noncomputable def SqL (K : PySem.W.Frag) (H : Hp) (a : Addr) (xs : List V) : Prop :=
 Rd H a (.lst xs) ∨
  ∃ (o : Obj) (its : Array Value) (n : Nat),K.lookup a = some o ∧ o.cls = .type "list" ∧ o.dict = none ∧ o.data = .seq its n ∧ its.size ≤ sizeLine ∧ Vals xs its.toList
noncomputable def SqT (K : PySem.W.Frag) (H : Hp) (a : Addr) (xs : List V) : Prop :=
 Rd H a (.tup xs) ∨
  ∃ (o : Obj) (its : Array Value) (n : Nat),K.lookup a = some o ∧ o.cls = .type "tuple" ∧ o.data = .seq its n ∧ its.size ≤ sizeLine ∧ Vals xs its.toList
noncomputable def absV : Value → Option V
 | .none => some .non
 | .bool b => some (.bl b)
 | .int i _ => some (.int i)
 | .str x _ => some (.str x)
 | .bytes b _ => some (.byt b)
 | .float b _ => some (.flt b)
 | .ref a => some (.ref a)
 | .type n => some (.ty n)
 | _ => none
theorem RelV.abs {x : V} {u : Value} (r : RelV x u) : absV u = some x := by
 cases x with
 | non => cases r; rfl
 | bl _ => cases r; rfl
 | int _ => obtain ⟨t,rfl⟩ := r; rfl
 | str _ => obtain ⟨t,rfl⟩ := r; rfl
 | byt _ => obtain ⟨t,rfl⟩ := r; rfl
 | flt _ => obtain ⟨t,rfl⟩ := r; rfl
 | ref _ => cases r; rfl
 | ty _ => cases r; rfl
theorem RelV.inj {x y : V} {u : Value} (r : RelV x u) (q : RelV y u) : x = y := Option.some.inj (r.abs.symm.trans q.abs)
theorem Vals.inj : ∀ {xs ys : List V} {us : List Value},Vals xs us → Vals ys us → xs = ys
 | _,_,_,.nil,.nil => rfl
 | _,_,_,.cons r t,.cons r' t' => by rw [r.inj r',Vals.inj t t']
section
variable {X : Cx} {pins : List (Addr × Obj)} {σ : St} {H : Hp} {s : Shared} {a : Addr} {xs ys : List V}
theorem SqL.of {K : PySem.W.Frag} (h : H a = some (.lst xs)) : SqL K H a xs := .inl (.inl h)
theorem SqT.of {K : PySem.W.Frag} (h : H a = some (.tup xs)) : SqT K H a xs := .inl (.inl h)
theorem Inv.list (I : Inv X pins σ H s) (h : SqL X.K H a xs) : ∃ its : List Value,Vals xs its ∧ PlainL s.heap a its.toArray ∧ xs.length ≤ sizeLine := by
 rcases h with h | ⟨o,its,n,hk,hc,hd,hs,hz,r⟩
 ·obtain ⟨z,its,n,r,e⟩ := h.ok I.hok
  exact ⟨its,r,⟨_,n,e,rfl,rfl,rfl⟩,z⟩
 ·refine ⟨its.toList,r,⟨o,n,I.kIn a o hk,hc,hd,by simpa using hs⟩,?_⟩
  have e := r.length
  simp only [Array.length_toList] at e
  omega
theorem Inv.tuple (I : Inv X pins σ H s) (h : SqT X.K H a xs) : ∃ its : List Value,Vals xs its ∧ IsTup s.heap a its.toArray ∧ xs.length ≤ sizeLine := by
 rcases h with h | ⟨o,its,n,hk,hc,hs,hz,r⟩
 ·obtain ⟨z,its,r,p⟩ := h.ok I.hok
  exact ⟨its,r,p,z⟩
 ·refine ⟨its.toList,r,⟨o,I.kIn a o hk,hc,n,by simpa using hs⟩,?_⟩
  have e := r.length
  simp only [Array.length_toList] at e
  omega
theorem Inv.list_inj (I : Inv X pins σ H s) (h : SqL X.K H a xs) (h' : SqL X.K H a ys) : xs = ys := by
 obtain ⟨its,r,⟨o,n,e,_,_,d⟩,_⟩ := I.list h
 obtain ⟨its',r',⟨o',n',e',_,_,d'⟩,_⟩ := I.list h'
 rw [e] at e'; cases e'
 rw [d] at d'
 injection d' with d1 _
 have : its = its' := by simpa using congrArg Array.toList d1
 subst this
 exact r.inj r'
theorem Inv.tuple_inj (I : Inv X pins σ H s) (h : SqT X.K H a xs) (h' : SqT X.K H a ys) : xs = ys := by
 obtain ⟨its,r,⟨o,e,_,n,d⟩,_⟩ := I.tuple h
 obtain ⟨its',r',⟨o',e',_,n',d'⟩,_⟩ := I.tuple h'
 rw [e] at e'; cases e'
 rw [d] at d'
 injection d' with d1 _
 have : its = its' := by simpa using congrArg Array.toList d1
 subst this
 exact r.inj r'
end
noncomputable abbrev Cx.wish (X : Cx) (E : Value → Shared → Prop) : Cx := { X with xe := E }
noncomputable abbrev Cx.nox (X : Cx) : Cx := X.wish fun _ _ => False
theorem Cx.Ok.wish {X : Cx} (ok : X.Ok) (E : Value → Shared → Prop) : (X.wish E).Ok :=
 ⟨ok.mod,ok.kind,ok.glob,ok.blt,ok.above,ok.inj,ok.has,ok.cab,ok.hd,ok.frames,ok.stk,ok.exf,ok.bs,ok.bsz,ok.noex,ok.exfs,ok.funs,ok.frf⟩
theorem Cx.Ok.unwish {X : Cx} {E : Value → Shared → Prop} (ok : (X.wish E).Ok) : X.Ok :=
 ⟨ok.mod,ok.kind,ok.glob,ok.blt,ok.above,ok.inj,ok.has,ok.cab,ok.hd,ok.frames,ok.stk,ok.exf,ok.bs,ok.bsz,ok.noex,ok.exfs,ok.funs,ok.frf⟩
section
variable {X : Cx} {pins : List (Addr × Obj)} {σ : St} {H : Hp} {s : Shared} {E : Value → Shared → Prop}
theorem Inv.wish (I : Inv X pins σ H s) (E : Value → Shared → Prop) : Inv (X.wish E) pins σ H s := ⟨I.ok.wish E,I.os,I.bare,I.base,I.loc,I.cell,I.free,I.freeC,I.pin,I.hok,I.len⟩
theorem Inv.unwish (I : Inv (X.wish E) pins σ H s) : Inv X pins σ H s := ⟨I.ok.unwish,I.os,I.bare,I.base,I.loc,I.cell,I.free,I.freeC,I.pin,I.hok,I.len⟩
theorem SP.unwish {D : Ends} {f : Flow} {s' : Shared} (h : SP (X.wish E) pins D f s') : SP X pins D f s' := by
 cases f with
 | next => obtain ⟨σ',H',I,q⟩ := h; exact ⟨σ',H',I.unwish,q⟩
 | brk => obtain ⟨σ',H',I,q⟩ := h; exact ⟨σ',H',I.unwish,q⟩
 | cont => obtain ⟨σ',H',I,q⟩ := h; exact ⟨σ',H',I.unwish,q⟩
 | ret u => obtain ⟨v,σ',H',I,r,q⟩ := h; exact ⟨v,σ',H',I.unwish,r,q⟩
theorem PSs.nox {st : List Stmt} {t : TS} (h : PSs X.nox st t) : PSs X st t := fun pins s σ H D I hw =>
 wpAny_mono (h pins s σ H D (I.wish _) hw) (fun _ _ q => q.unwish) fun _ _ z => False.elim z
end
section
variable {X : Cx} {st : Stmt} {rest : List Stmt} {t u : TS} {e : Expr} {te : TE} {pos : Pos}
noncomputable def JfR : TS := fun D σ H => D.nx σ H
noncomputable def tSeq (t u : TS) : TS := fun D σ H => t { D with nx := u D } σ H
theorem Jw : PSs X [] JfR := fun _ _ σ H _ I h => wpAny_execs_nil ⟨σ,H,I,h⟩
theorem J2 (h1 : PS X st t) (h2 : PSs X rest u) : PSs X (st :: rest) (tSeq t u) := by
 intro pins s σ H D I h
 refine wpAny_execs_cons (thn (h1 pins s σ H { D with nx := u D } I h) fun f s1 q => ?_)
 cases f with
 | next =>
  obtain ⟨σ',H',I',q⟩ := q
  exact h2 pins s1 σ' H' D I' q
 | ret v => exact q
 | brk => exact q
 | cont => exact q
theorem J9 (h1 : PS X st t) : PSs X [st] t := by
 intro pins s σ H D I h
 refine wpAny_execs_cons (thn (h1 pins s σ H D I h) fun f s1 q => ?_)
 cases f with
 | next => exact wpAny_execs_nil q
 | ret v => exact q
 | brk => exact q
 | cont => exact q
theorem Inv.quiet {pins : List (Addr × Obj)} {σ : St} {H : Hp} {s : Shared} (I : Inv X pins σ H s) : interactive X.env = false := by simp [interactive,I.ok.kind]
noncomputable def Jg2 (te : TE) : TS := fun D σ H => te σ H fun _ H1 => D.nx σ H1
theorem J0D (he : PE X e te) (hs : swapsWith e none pos.line X.env = pure false := by rfl) : PS X (.Expr e pos) (Jg2 te) := by
 intro pins s σ H D I h
 exact wpAny_Expr_any (thn (he pins s σ H _ I h) fun v s1 ⟨x,H1,I1,r1,q1⟩ => ⟨σ,H1,I1,q1⟩) I.quiet hs
noncomputable def tRet (te : TE) : TS := fun D σ H => te σ H D.rt
theorem Jt (he : PE X e te) : PS X (.Return (some e) pos) (tRet te) := by
 intro pins s σ H D I h
 exact wpAny_Return_some (thn (he pins s σ H _ I h) fun v s1 ⟨x,H1,I1,r1,q1⟩ => ⟨x,σ,H1,I1,r1,q1⟩)
noncomputable def tIfS (c : TT) (t u : TS) : TS := fun D σ H => c σ H fun b H1 => if b = true then t D σ H1 else u D σ H1
theorem JO {c : Expr} {a b : List Stmt} {tc : TT} (hc : PT X c tc) (ha : PSs X a t) (hb : PSs X b u) : PS X (.If c a b pos) (tIfS tc t u) := by
 intro pins s σ H D I h
 refine wpAny_If (thn (hc pins s σ H _ I h) fun d s1 ⟨H1,I1,q1⟩ => ?_)
 cases d with
 | true => exact ha pins s1 σ H1 D I1 q1
 | false => exact hb pins s1 σ H1 D I1 q1
noncomputable def Jfe : TS := fun _ _ _ => False
theorem J6Z : PS X st Jfe := fun _ _ _ _ _ _ h => h.elim
end
noncomputable abbrev TG := V → St → Hp → (St → Hp → Prop) → Prop
noncomputable abbrev TGs := List V → St → Hp → (St → Hp → Prop) → Prop
noncomputable def PG (X : Cx) (target : Expr) (t : TG) : Prop :=
 ∀ (pins : List (Addr × Obj)) (s : Shared) (σ : St) (H : Hp) (v : V) (u : Value) (Q : St → Hp → Prop),Inv X pins σ H s → RelV v u → t v σ H Q →
  wpAny (model X.prog X.w) X.A (assign target X.env u) (fun _ s' => ∃ σ' H',Inv X pins σ' H' s' ∧ Q σ' H') X.xe s
noncomputable def PGs (X : Cx) (ts : List Expr) (t : TGs) : Prop :=
 ∀ (pins : List (Addr × Obj)) (s : Shared) (σ : St) (H : Hp) (vs : List V) (us : List Value) (Q : St → Hp → Prop),Inv X pins σ H s → Vals vs us → t vs σ H Q →
  wpAny (model X.prog X.w) X.A (assignInOrder ((assignEach ts X.env).map (·.2)) us) (fun _ s' => ∃ σ' H',Inv X pins σ' H' s' ∧ Q σ' H') X.xe s
noncomputable abbrev TIp := V → V → Hp → VK → Prop
noncomputable def PIp (X : Cx) (op : Operator) (t : TIp) : Prop :=
 ∀ (pins : List (Addr × Obj)) (s : Shared) (σ : St) (H : Hp) (x y : V) (v u : Value) (Q : VK),Inv X pins σ H s → RelV x v → RelV y u → t x y H Q →
  wpAny (model X.prog X.w) X.A (inplaceOp op v u) (EP X pins σ Q) X.xe s
section
variable {X : Cx} {pos : Pos}
noncomputable def J3e (i : Nat) : TG := fun v σ H Q => Q (σ.set i (some v)) H
theorem Je {i : Nat} {x : Str} (hN : X.N.Nodup) (hi : X.N[i]? = some x) (hx : Loc X.env.scope x) (hf : X.fn x = true ∨ X.env.scope.names.lookup x = some .local := by first | exact .inl rfl | exact .inr rfl | assumption) : PG X (.Name x pos) (J3e i) := by
 intro pins s σ H v u Q I r h
 exact wpAny_assign_Name (J4Q I hN hi hx r (fun s' I' => ⟨_,H,I',h⟩) hf)
noncomputable def gNil : TGs := fun vs σ H Q => vs = [] ∧ Q σ H
noncomputable def J9J (t : TG) (u : TGs) : TGs := fun vs σ H Q => ∃ v r,vs = v :: r ∧ t v σ H fun σ' H' => u r σ' H' Q
theorem J08 : PGs X [] gNil := by
 intro pins s σ H vs us Q I r h
 obtain ⟨e,h⟩ := h
 subst e
 cases r
 exact assignInOrder_nil ⟨σ,H,I,h⟩
theorem Jk {e : Expr} {es : List Expr} {t : TG} {u : TGs} (h1 : PG X e t) (h2 : PGs X es u)
  (hs : (assignEach (e :: es) X.env).map (·.2) = assign e X.env :: (assignEach es X.env).map (·.2) := by rfl) : PGs X (e :: es) (J9J t u) := by
 intro pins s σ H vs us Q I r h
 obtain ⟨v,vr,e1,h⟩ := h
 subst e1
 cases r with
 | cons r rr =>
  rw [hs]
  refine assignInOrder_cons (thn (h1 pins s σ H _ _ _ I r h) fun _ s1 ⟨σ1,H1,I1,q1⟩ => ?_)
  exact h2 pins s1 σ1 H1 _ _ Q I1 rr q1
noncomputable def gTup (K : PySem.W.Frag) (n : Nat) (t : TGs) : TG := fun v σ H Q => ∃ a xs,v = .ref a ∧ SqT K H a xs ∧ xs.length = n ∧ t xs σ H Q
theorem J0Y {es : List Expr} {k : Nat} {t : TGs} {n : Nat} (hc : X.calm = true) (h : PGs X es t)
  (hn : (assignEach es X.env).length = n := by rfl) (hst : (assignEach es X.env).findIdx? (·.1) = none := by rfl) : PG X (.Tuple es k pos) (gTup X.K n t) := by
 intro pins s σ H v u Q I r hw
 obtain ⟨a,xs,e1,hq,hl,hw⟩ := hw
 subst e1
 cases r
 obtain ⟨its,rv,ht,hz⟩ := I.tuple hq
 refine assign_Tuple_tuple (I.ok.hd hc) ht (by simp [hn,← hl,rv.length]) hst fun h' hx => ?_
 have I1 : Inv X pins σ H { s with heap := h' } := I.kept (t' := s.toks) fun b o e => hx b o (Nat.ne_of_lt (Heap.lt_size e)) e
 exact h pins _ σ H xs _ Q I1 (by simpa using rv) hw
noncomputable def tAsg (te : TE) (g : TG) : TS := fun D σ H => te σ H fun x H1 => g x σ H1 D.nx
theorem J2y {tg e : Expr} {te : TE} {g : TG} (he : PE X e te) (hg : PG X tg g) (hs : swapsWithSole [tg] e pos.line X.env = pure false := by rfl) (hw : swappedStores [tg] e X.env = pure none := by rfl)
  (h1 : (assignEach [tg] X.env).map (·.2) = [assign tg X.env] := by rfl) : PS X (.Assign [tg] e pos) (tAsg te g) := by
 intro pins s σ H D I h
 refine wpAny_Assign_stores (thn (he pins s σ H _ I h) fun v s1 ⟨x,H1,I1,r1,q1⟩ => ?_) hs hw
 rw [h1]
 exact thn (hg pins s1 σ H1 x v _ I1 r1 q1) fun _ s2 q => q
theorem Jm {i : Nat} {x : Str} {e : Expr} {te : TE} {pos' : Pos} (hN : X.N.Nodup) (hi : X.N[i]? = some x) (hx : Loc X.env.scope x) (he : PE X e te) (hs : swapsWith e (some (.Name x pos')) pos.line X.env = pure false := by rfl) (hf : X.fn x = true ∨ X.env.scope.names.lookup x = some .local := by first | exact .inl rfl | exact .inr rfl | assumption) :
  PS X (.Assign [.Name x pos'] e pos) (tAsg te (J3e i)) := by
 intro pins s σ H D I h
 refine wpAny_Assign_Name (thn (he pins s σ H _ I h) fun v s1 ⟨y,H1,I1,r1,q1⟩ => ?_) hs
 exact J4Q I1 hN hi hx r1 (fun s2 I2 => ⟨_,H1,I2,q1⟩) hf
noncomputable def tAug (i : Nat) (te : TE) (ti : TIp) : TS := fun D σ H => ∃ x,σ[i]? = some (some x) ∧ te σ H fun y H1 => ti x y H1 fun z H2 => D.nx (σ.set i (some z)) H2
theorem J3v {i : Nat} {x : Str} {e : Expr} {te : TE} {op : Operator} {ti : TIp} {pos' : Pos} (hN : X.N.Nodup) (hi : X.N[i]? = some x) (hx : Loc X.env.scope x) (he : PE X e te) (ho : PIp X op ti) (hf : X.fn x = true ∨ X.env.scope.names.lookup x = some .local := by first | exact .inl rfl | exact .inr rfl | assumption) :
  PS X (.AugAssign (.Name x pos') op e pos) (tAug i te ti) := by
 intro pins s σ H D I h
 obtain ⟨v,e1,h⟩ := h
 obtain ⟨m,hn,hl⟩ := I.loc
 have vis : Vis X.env.scope x := by rcases hx with k | k; exact .inl k; exact .inr (.inl k)
 obtain ⟨u,r,l⟩ := hl i x v hi e1 vis
 refine wpAny_AugAssign_Name ?_
 have go : wpAny (model X.prog X.w) X.A (eval e X.env) (fun w s₂ => wpAny (model X.prog X.w) X.A (inplaceOp op u w) (fun r s₃ => wpAny (model X.prog X.w) X.A (storeName X.env x r) (fun _ => SP X pins D .next) X.xe s₃) X.xe s₂) X.xe s := by
  refine thn (he pins s σ H _ I h) fun w s1 ⟨y,H1,I1,r1,q1⟩ => ?_
  refine thn (ho pins s1 σ H1 v y u w _ I1 r r1 q1) fun z s2 ⟨zv,H2,I2,r2,q2⟩ => ?_
  exact J4Q I2 hN hi hx r2 (fun s3 I3 => ⟨_,H2,I3,q2⟩) hf
 rcases l with ⟨hk,hm⟩ | ⟨hk,c,hc,hcell⟩
 ·exact wpAny_loadName_local I.ok.kind hk hn hm go
 ·rcases hk with hk | hk
  ·exact wpAny_loadName_cell I.ok.kind hk hc hcell go
  ·rcases hx with k | k
   ·have : X.env.scope.names.lookup x = some .free := hk
    rw [k] at this; cases this
   ·have : X.env.scope.names.lookup x = some .free := hk
    rw [k] at this; cases this
noncomputable def ipI (f : Int → Int → Int) : TIp := fun x y H Q => ∃ i j,x = .int i ∧ y = .int j ∧ Q (.int (f i j)) H
theorem JfA : PIp X .Add (ipI fun i j => i + j) := by
 intro pins s σ H x y v u Q I r1 r2 h
 obtain ⟨i,j,e1,e2,q⟩ := h
 subst e1; subst e2
 obtain ⟨t,rfl⟩ := r1
 obtain ⟨t',rfl⟩ := r2
 exact iadd_int ⟨.int _,H,I.tok _,⟨_,rfl⟩,q⟩
theorem Jf1 : PIp X .Sub (ipI fun i j => i - j) := by
 intro pins s σ H x y v u Q I r1 r2 h
 obtain ⟨i,j,e1,e2,q⟩ := h
 subst e1; subst e2
 obtain ⟨t,rfl⟩ := r1
 obtain ⟨t',rfl⟩ := r2
 exact isub_int ⟨.int _,H,I.tok _,⟨_,rfl⟩,q⟩
end
section
variable {X : Cx} {pos : Pos}
end
structure It where
 go : Nat → Hp → Prop
 yld : Nat → Hp → V → Hp → Prop
 stop : Nat → Hp → Prop
noncomputable def FpOk (X : Cx) (pins : List (Addr × Obj)) (H : Hp) (b : Addr) : Prop :=
 H b = none ∧ b ≠ X.env.locals ∧ b ∉ X.fs ∧ (b ∈ X.ex ∨ X.s₀.heap.objs.size ≤ b) ∧ (∀ x c,X.env.cells.lookup x = some c → c ≠ b) ∧ ∀ p ∈ X.pn ++ pins,p.1 ≠ b
theorem Inv.fpOk {X : Cx} {pins : List (Addr × Obj)} {σ : St} {H H' : Hp} {s : Shared} {b : Addr} (I : Inv X pins σ H s) (hb : s.heap.objs.size ≤ b) (hn : H' b = none) : FpOk X pins H' b := by
 refine ⟨hn,Nat.ne_of_gt (Nat.lt_of_lt_of_le I.lt hb),I.nofs hb,.inr (Nat.le_trans I.sz hb),fun x c e z => ?_,fun p hp z => ?_⟩
 ·obtain ⟨v,q⟩ := I.cell x c e
  exact absurd (Nat.lt_of_lt_of_le q.lt (by rw [z]; exact hb)) (Nat.lt_irrefl _)
 ·exact absurd (Nat.lt_of_lt_of_le (Heap.lt_size (I.pin p hp).1) (by rw [z]; exact hb)) (Nat.lt_irrefl _)
structure Turn (P : Program) (w : World) (K : PySem.W.Frag) (tg : Expr) (J : It) (fp : List Addr) (it : Addr) (tn : Nat → Heap → Prop) : Prop where
 mem : it ∈ fp
 obj : ∀ i h,tn i h → ∀ b ∈ fp,∃ o,h.get? b = some o ∧ ∀ v,o.data ≠ .cell v
 keep : ∀ i h h',tn i h → (∀ b ∈ fp,∀ o,h.get? b = some o → h'.get? b = some o) → tn i h'
 item : ∀ (X : Cx),X.prog = P → X.w = w → X.K = K → X.calm = true → ∀ (i : Nat) (pins : List (Addr × Obj)) (s : Shared) (σ : St) (H : Hp) (E : Value → Shared → Prop),Inv X pins σ H s → (∀ b ∈ fp,FpOk X pins H b) → tn i s.heap → J.go i H →
  wpAny (model P w) X.A (pyNext (.ref it)) (fun r s1 => ∃ u,r = some u ∧
   wpAny (model P w) X.A (letOwnedTupleGo tg (.ref it) u) (fun _ s2 => ∃ x H',Inv X pins σ H' s2 ∧ RelV x u ∧ J.yld i H x H' ∧ tn (i + 1) s2.heap ∧ ∀ b ∈ fp,H' b = none) E s1) E s
 done : ∀ (X : Cx),X.prog = P → X.w = w → X.K = K → X.calm = true → ∀ (i : Nat) (pins : List (Addr × Obj)) (s : Shared) (σ : St) (H : Hp) (E : Value → Shared → Prop),Inv X pins σ H s → (∀ b ∈ fp,FpOk X pins H b) → tn i s.heap → J.stop i H →
  wpAny (model P w) X.A (pyNext (.ref it)) (fun r s1 => r = none ∧ Inv X pins σ H s1) E s
 self : ∀ (A : Around) (i : Nat) (s : Shared) (Q : Value → Shared → Prop) (E : Value → Shared → Prop),tn i s.heap → Q (.ref it) s → wpAny (model P w) A (pyIter (.ref it)) Q E s
noncomputable abbrev TI := St → Hp → (It → Hp → Prop) → Prop
noncomputable def PIE (X : Cx) (pins : List (Addr × Obj)) (σ : St) (tg : Expr) (R : It → Hp → Prop) (itv : Value) (s2 : Shared) : Prop :=
 ∃ (it : Addr) (fp : List Addr) (tn : Nat → Heap → Prop) (J : It) (H' : Hp),itv = .ref it ∧ Inv X pins σ H' s2 ∧ Turn X.prog X.w X.K tg J fp it tn ∧ tn 0 s2.heap ∧ (∀ b ∈ fp,FpOk X pins H' b) ∧ R J H'
noncomputable def PI (X : Cx) (tg iter : Expr) (wi : TI) : Prop :=
 ∀ (pins : List (Addr × Obj)) (s : Shared) (σ : St) (H : Hp) (R : It → Hp → Prop),Inv X pins σ H s → wi σ H R →
  wpAny (model X.prog X.w) X.A (eval iter X.env) (fun v s1 => wpAny (model X.prog X.w) X.A (pyIter v) (PIE X pins σ tg R) X.xe s1) X.xe s
theorem Jbn {M : Model} {A : Around} {E : Value → Shared → Prop} {s : Shared} {tg : Expr} {it : Addr} {u : Value} {o : Obj} {n : String} {vs : Array Value} {Q : Unit → Shared → Prop} (ho : s.heap.get? it = some o) (hc : o.cls = .type n) (hd : o.data = .fields vs)
    (hn : ["enumerate","zip","dict_itemiterator","dict_reverseitemiterator","odict_iterator","itertools.zip_longest","itertools.pairwise"].contains n = false) (hQ : Q () s) : wpAny M A (letOwnedTupleGo tg (.ref it) u) Q E s := by
  unfold letOwnedTupleGo
  cases tg <;> first
    | exact wpAny_pure hQ
    | (cases u <;> first
        | exact wpAny_pure hQ
        | (refine wpAny_bind (wpAny_load ho ?_)
           rw [hc,hd]
           show wpAny M A (if (["enumerate","zip","dict_itemiterator","dict_reverseitemiterator","odict_iterator","itertools.zip_longest","itertools.pairwise"].contains n && vs[0]? == some (rawInt _)) = true then _ else _) Q E s
           rw [if_neg (by intro h; rw [hn,Bool.false_and] at h; cases h)]
           exact wpAny_pure hQ))
noncomputable def Itl (K : PySem.W.Frag) (a : Addr) : It :=
 ⟨fun i H => ∃ xs x,SqL K H a xs ∧ xs[i]? = some x,fun i H x H' => H' = H ∧ ∀ xs,SqL K H a xs → xs[i]? = some x,fun i H => ∃ xs,SqL K H a xs ∧ xs.length ≤ i⟩
noncomputable def Itt (K : PySem.W.Frag) (a : Addr) : It :=
 ⟨fun i H => ∃ xs x,SqT K H a xs ∧ xs[i]? = some x,fun i H x H' => H' = H ∧ ∀ xs,SqT K H a xs → xs[i]? = some x,fun i H => ∃ xs,SqT K H a xs ∧ xs.length ≤ i⟩
noncomputable def Itr (lo : Int) (n : Nat) : It := ⟨fun i _ => i < n,fun i H x H' => H' = H ∧ x = .int (lo + i),fun i _ => n ≤ i⟩
theorem Jce {P : Program} {w : World} {K : PySem.W.Frag} {tg : Expr} (a it : Addr) : Turn P w K tg (Itl K a) [it] it (fun i h => h.IsListIter it a i) where
 mem := by simp
 obj := fun i h st b hb => by
  have e : b = it := by simpa using hb
  subst e
  obtain ⟨o,e,c,d⟩ := st
  exact ⟨o,e,fun v z => by rw [d] at z; cases z⟩
 keep := fun i h h' st k => st.at fun o e => k it (by simp) o e
 item := by
  intro X hP hw hK hc i pins s σ H E I hf st hg
  subst hP hw hK
  obtain ⟨xs,x,hq,hx⟩ := hg
  obtain ⟨its,rv,p,hz⟩ := I.list hq
  obtain ⟨u,hu,ru⟩ := rv.get hx
  obtain ⟨f0,f1,f2,f3,f4,f5⟩ := hf it (by simp)
  refine wpAny_pyNext_list_item st p.isList (x := u) (by simpa using hu) fun h' st' sb => ?_
  have I1 : Inv X pins σ H { s with heap := h' } := I.turned (t' := s.toks) (fun b o hb e => (sb.2 b hb).trans e) f0 f1 f3 f4 f5
  obtain ⟨o,e,c,d⟩ := id st'
  exact ⟨u,rfl,Jbn (s := { s with heap := h' }) e c d (by decide) ⟨x,H,I1,ru,⟨rfl,fun ys hy => by rw [I.list_inj hy hq]; exact hx⟩,st',fun b hb => (hf b hb).1⟩⟩
 done := by
  intro X hP hw hK hc i pins s σ H E I hf st hg
  subst hP hw hK
  obtain ⟨xs,hq,hx⟩ := hg
  obtain ⟨its,rv,p,hz⟩ := I.list hq
  obtain ⟨f0,f1,f2,f3,f4,f5⟩ := hf it (by simp)
  have hl := rv.length
  exact wpAny_pyNext_list_end (I.ok.hd hc) st p.isList (by simp; omega) fun h' eb => ⟨rfl,I.turned (t' := s.toks) (fun b o hb e => eb b o hb e) f0 f1 f3 f4 f5⟩
 self := fun _ _ _ _ _ st h => wpAny_pyIter_listiter st h
theorem JaZ {P : Program} {w : World} {K : PySem.W.Frag} {tg : Expr} (a it : Addr) : Turn P w K tg (Itt K a) [it] it (fun i h => h.IsTupleIter it a i) where
 mem := by simp
 obj := fun i h st b hb => by
  have e : b = it := by simpa using hb
  subst e
  obtain ⟨o,e,c,d⟩ := st
  exact ⟨o,e,fun v z => by rw [d] at z; cases z⟩
 keep := fun i h h' st k => st.at fun o e => k it (by simp) o e
 item := by
  intro X hP hw hK hc i pins s σ H E I hf st hg
  subst hP hw hK
  obtain ⟨xs,x,hq,hx⟩ := hg
  obtain ⟨its,rv,p,hz⟩ := I.tuple hq
  obtain ⟨u,hu,ru⟩ := rv.get hx
  obtain ⟨f0,f1,f2,f3,f4,f5⟩ := hf it (by simp)
  refine wpAny_pyNext_tuple_item st (show s.heap.IsTuple a its.toArray from p) (x := u) (by simpa using hu) fun h' st' sb => ?_
  have I1 : Inv X pins σ H { s with heap := h' } := I.turned (t' := s.toks) (fun b o hb e => (sb.2 b hb).trans e) f0 f1 f3 f4 f5
  obtain ⟨o,e,c,d⟩ := id st'
  exact ⟨u,rfl,Jbn (s := { s with heap := h' }) e c d (by decide) ⟨x,H,I1,ru,⟨rfl,fun ys hy => by rw [I.tuple_inj hy hq]; exact hx⟩,st',fun b hb => (hf b hb).1⟩⟩
 done := by
  intro X hP hw hK hc i pins s σ H E I hf st hg
  subst hP hw hK
  obtain ⟨xs,hq,hx⟩ := hg
  obtain ⟨its,rv,p,hz⟩ := I.tuple hq
  obtain ⟨f0,f1,f2,f3,f4,f5⟩ := hf it (by simp)
  have hl := rv.length
  exact wpAny_pyNext_tuple_end (I.ok.hd hc) st (show s.heap.IsTuple a its.toArray from p) (by simp; omega) fun h' eb => ⟨rfl,I.turned (t' := s.toks) (fun b o hb e => eb b o hb e) f0 f1 f3 f4 f5⟩
 self := fun _ _ _ _ _ st h => wpAny_pyIter_tupleiter st h
theorem JaK {P : Program} {w : World} {K : PySem.W.Frag} {tg : Expr} (it : Addr) (lo : Int) (n : Nat) : Turn P w K tg (Itr lo n) [it] it (fun i h => IsRangeIter h it (lo + (i : Nat) * 1) ((n : Int) - (i : Nat)) 1) where
 mem := by simp
 obj := fun i h st b hb => by
  have e : b = it := by simpa using hb
  subst e
  exact ⟨_,st,fun v z => by
   have z' : Data.fields _ = Data.cell v := z
   cases z'⟩
 keep := fun i h h' st k => k it (by simp) _ st
 item := by
  intro X hP hw hK hc i pins s σ H E I hf st hg
  subst hP hw hK
  obtain ⟨f0,f1,f2,f3,f4,f5⟩ := hf it (by simp)
  have W := Walks.range (prog := X.prog) (w := X.w) (I.ok.hd hc) it lo 1 n
  refine W.item i s _ _ hg st fun v h' tk hv st' kk => ?_
  obtain ⟨t,rfl⟩ := hv
  have I1 : Inv X pins σ H { s with heap := h',toks := tk } := I.turned (fun b o hb e => kk b o (by simpa using hb) e) f0 f1 f3 f4 f5
  refine ⟨_,rfl,Jbn (s := { s with heap := h',toks := tk }) (n := "range_iterator") st' rfl rfl (by decide) ⟨.int (lo + i),H,I1,⟨t,?_⟩,⟨rfl,rfl⟩,st',fun b hb => (hf b hb).1⟩⟩
  rw [Int.mul_one]
 done := by
  intro X hP hw hK hc i pins s σ H E I hf st hg
  subst hP hw hK
  obtain ⟨f0,f1,f2,f3,f4,f5⟩ := hf it (by simp)
  exact wpAny_pyNext_range_end (I.ok.hd hc) st (by have : n ≤ i := hg; omega) fun h' eb => ⟨rfl,I.turned (t' := s.toks) (fun b o hb e => eb b o hb e) f0 f1 f3 f4 f5⟩
 self := fun _ _ _ _ _ st h => wpAny_pyIter_rangeiter st h
end L2
namespace L2
open PySem PySem.Spec PyProof.Rows
section
variable {X : Cx} {tg : Expr}
noncomputable def JeD (K : PySem.W.Frag) (tl : TE) : TI := fun σ H R => tl σ H fun x H1 => ∃ a,x = .ref a ∧ (∃ xs,SqL K H1 a xs) ∧ R (Itl K a) H1
noncomputable def iTup (K : PySem.W.Frag) (tl : TE) : TI := fun σ H R => tl σ H fun x H1 => ∃ a,x = .ref a ∧ (∃ xs,SqT K H1 a xs) ∧ R (Itt K a) H1
theorem Jes {l : Expr} {tl : TE} (hl : PE X l tl) : PI X tg l (JeD X.K tl) := by
 intro pins s σ H R I h
 refine thn (hl pins s σ H _ I h) fun v s1 ⟨x,H1,I1,r1,q1⟩ => ?_
 obtain ⟨a,e,⟨xs,hq⟩,q⟩ := q1
 subst e
 cases r1
 obtain ⟨its,rv,p,hz⟩ := I1.list hq
 refine wpAny_pyIter_list p.isList ?_
 refine ⟨s1.heap.objs.size,[s1.heap.objs.size],_,_,H1,rfl,I1.kept (t' := s1.toks) fun b o e => Heap.get?_push_of_some _ e,Jce a _,⟨_,Heap.get?_push_size _ rfl,rfl,rfl⟩,fun b hb => ?_,q⟩
 have e : b = s1.heap.objs.size := by simpa using hb
 subst e
 exact I1.fpOk (Nat.le_refl _) (I1.hok.fresh (Nat.le_refl _))
theorem Jfx {l : Expr} {tl : TE} (hl : PE X l tl) : PI X tg l (iTup X.K tl) := by
 intro pins s σ H R I h
 refine thn (hl pins s σ H _ I h) fun v s1 ⟨x,H1,I1,r1,q1⟩ => ?_
 obtain ⟨a,e,⟨xs,hq⟩,q⟩ := q1
 subst e
 cases r1
 obtain ⟨its,rv,p,hz⟩ := I1.tuple hq
 refine wpAny_pyIter_tuple (show s1.heap.IsTuple a its.toArray from p) ?_
 refine ⟨s1.heap.objs.size,[s1.heap.objs.size],_,_,H1,rfl,I1.kept (t' := s1.toks) fun b o e => Heap.get?_push_of_some _ e,JaZ a _,⟨_,Heap.get?_push_size _ rfl,rfl,rfl⟩,fun b hb => ?_,q⟩
 have e : b = s1.heap.objs.size := by simpa using hb
 subst e
 exact I1.fpOk (Nat.le_refl _) (I1.hok.fresh (Nat.le_refl _))
theorem JdG {pins : List (Addr × Obj)} {σ : St} {H : Hp} {s : Shared} {R : It → Hp → Prop} {E : Value → Shared → Prop} {lo hi : Int} {t u v : Tok} {tk : Nat} (I : Inv X pins σ H s) (h1 : -(2 ^ 62) ≤ lo) (h2 : lo < 2 ^ 62) (h3 : -(2 ^ 62) ≤ hi) (h4 : hi < 2 ^ 62)
  (q : R (Itr lo (hi - lo).toNat) H) : wpAny (model X.prog X.w) X.A (pyIter (.ref s.heap.objs.size)) (PIE X pins σ tg R) E { s with heap := s.heap.push { cls := .type "range",data := .fields #[.int lo t,.int hi u,.int 1 v] },toks := tk } := by
 refine wpAny_pyIter_range (IsRange.new ..) (small_one h1 h2 h3 h4) ?_
 have I1 : Inv X pins σ H { s with heap := s.heap.push { cls := .type "range",data := .fields #[.int lo t,.int hi u,.int 1 v] },toks := tk } := I.kept fun b o e => Heap.get?_push_of_some _ e
 refine ⟨(s.heap.push { cls := .type "range",data := .fields #[.int lo t,.int hi u,.int 1 v] }).objs.size,[(s.heap.push { cls := .type "range",data := .fields #[.int lo t,.int hi u,.int 1 v] }).objs.size],_,_,H,rfl,
  I1.kept (t' := tk) fun b o e => Heap.get?_push_of_some _ e,JaK _ lo (hi - lo).toNat,?_,fun b hb => ?_,q⟩
 ·have e1 : lo + ((0 : Nat) : Int) * 1 = lo := by simp
  have e2 : (((hi - lo).toNat : Nat) : Int) - ((0 : Nat) : Int) = Builtin.Range.rangeSize lo hi 1 := by rw [rangeSize_one]; split <;> omega
  show IsRangeIter _ _ (lo + ((0 : Nat) : Int) * 1) ((((hi - lo).toNat : Nat) : Int) - ((0 : Nat) : Int)) 1
  rw [e1,e2]
  exact Heap.get?_push_size _ rfl
 ·have e : b = (s.heap.push { cls := .type "range",data := .fields #[.int lo t,.int hi u,.int 1 v] }).objs.size := by simpa using hb
  subst e
  exact I1.fpOk (Nat.le_refl _) (I1.hok.fresh (Nat.le_refl _))
noncomputable def JfZ (ta : TA) : TI := fun σ H R => ta σ H fun vs H1 => ∃ j : Int,vs = [.int j] ∧ -(2 ^ 62) ≤ j ∧ j < 2 ^ 62 ∧ R (Itr 0 j.toNat) H1
theorem J06 {a : Expr} {ta : TA} {p pos : Pos} (hg : Gl X "range") (hm : X.mg "range" = none) (ha : PA X [a] ta) (hs : starEach [a] X.env = [(false,eval a X.env)] := by rfl) : PI X tg (.Call (.Name "range" p) [a] [] pos) (JfZ ta) := by
 intro pins s σ H R I h
 refine Call_ (J4q I hg hm boot_range (PyProof.Rows.callWith_type1 (thn (ha pos pins s σ H _ I h) fun us s1 ⟨vs,H1,I1,r1,q1⟩ => ?_) hs rfl))
 obtain ⟨j,e,q1,q2,q⟩ := q1
 subst e
 cases r1 with
 | cons r rr =>
  cases rr
  obtain ⟨t,rfl⟩ := r
  exact call_range_1 (JdG I1 (by omega) (by omega) q1 q2 (by simpa using q))
noncomputable def tFor (wi : TI) (g : TG) (tb : TS) : TS := fun D σ H => wi σ H fun J H1 => ∃ W : Nat → Nat → St → Hp → Prop,(∃ m,W 0 m σ H1) ∧ ∀ i m σ H,W i m σ H →
 (J.stop i H ∧ D.nx σ H) ∨ (J.go i H ∧ ∃ N : St → Hp → Prop,(∀ σ' H',N σ' H' → ∃ m',m' < m ∧ W (i + 1) m' σ' H') ∧ ∀ x H',J.yld i H x H' → g x σ H' fun σ2 H2 => tb { D with nx := N,ct := N,bk := D.nx } σ2 H2)
noncomputable def J5D (fp : List Addr) (h : Heap) : List (Addr × Obj) := fp.filterMap fun b => (h.get? b).map fun o => (b,o)
theorem J23 {fp : List Addr} {h : Heap} {b : Addr} {o : Obj} (hb : b ∈ fp) (e : h.get? b = some o) : (b,o) ∈ J5D fp h := List.mem_filterMap.mpr ⟨b,hb,by rw [e]; rfl⟩
theorem JbX {fp : List Addr} {h : Heap} {p : Addr × Obj} (hp : p ∈ J5D fp h) : p.1 ∈ fp ∧ h.get? p.1 = some p.2 := by
 obtain ⟨b,hb,e⟩ := List.mem_filterMap.mp hp
 cases q : h.get? b with
 | none => rw [q] at e; cases e
 | some o =>
  rw [q] at e
  have e' : (b,o) = p := Option.some.inj e
  subst e'
  exact ⟨hb,q⟩
theorem Inv.pinned {pins : List (Addr × Obj)} {σ : St} {H : Hp} {s : Shared} {fp : List Addr} (I : Inv X pins σ H s) (hf : ∀ b ∈ fp,FpOk X pins H b) (ho : ∀ b ∈ fp,∃ o,s.heap.get? b = some o ∧ ∀ v,o.data ≠ .cell v) : Inv X (pins ++ J5D fp s.heap) σ H s :=
 I.pins_of fun p hp => (List.mem_append.mp hp).elim (fun z => I.pin p (List.mem_append_right _ z)) fun z => by
  obtain ⟨hb,e⟩ := JbX z
  obtain ⟨f0,f1,f2,_⟩ := hf p.1 hb
  obtain ⟨o,e',d⟩ := ho p.1 hb
  rw [e] at e'; cases e'
  exact ⟨e,f0,f1,f2,d⟩
theorem Inv.unpinned {pins pl : List (Addr × Obj)} {σ : St} {H : Hp} {s : Shared} (I : Inv X (pins ++ pl) σ H s) : Inv X pins σ H s := I.pins_of fun p hp => I.pin p (List.mem_append_right _ (List.mem_append_left _ hp))
theorem J0E {iter : Expr} {body : List Stmt} {wi : TI} {g : TG} {tb : TS} {pos : Pos} (hp : PassesOwn (model X.prog X.w) X.A X.env X.xe) (hc : X.calm = true) (hi : PI X tg iter wi) (hg : PG X tg g) (hb : PSs X body tb)
  (hs : ∀ x,foldedSetIterable iter X.env x = pure x := by intro _; rfl) : PS X (.For tg iter body [] pos) (tFor wi g tb) := by
 intro pins s σ H D I h
 refine wpAny_For (thn (hi pins s σ H _ I h) fun v s1 h1 => thn h1 fun itv s2 h2 => ?_) hs
 obtain ⟨it,fp,tn,J,H2,e,I2,T,st2,f2,W,⟨m0,w0⟩,turn⟩ := h2
 subst e
 have stat : ∀ {H' : Hp},(∀ b ∈ fp,H' b = none) → ∀ b ∈ fp,FpOk X pins H' b := fun hn b hb => ⟨hn b hb,(f2 b hb).2⟩
 refine codeAny_forLoop_any (fun n s' => ∃ i σ' H',Inv X pins σ' H' s' ∧ tn i s'.heap ∧ (∀ b ∈ fp,H' b = none) ∧ W i n σ' H') ?_ m0 ⟨0,σ,H2,I2,st2,fun b hb => (f2 b hb).1,w0⟩
 rintro n s3 ⟨i,σ3,H3,I3,st3,fr3,w3⟩
 rcases turn i n σ3 H3 w3 with ⟨stop,qn⟩ | ⟨go,N,hN,step⟩
 ·refine wpAny_passesOwn hp (thn (T.done X rfl rfl rfl hc i pins s3 σ3 H3 X.xe I3 (stat fr3) st3 stop) fun r s4 ⟨hr,I4⟩ => ?_)
  subst hr
  exact wpAny_execs_nil ⟨σ3,H3,I4,qn⟩
 ·refine wpAny_passesOwn hp (thn (T.item X rfl rfl rfl hc i pins s3 σ3 H3 X.xe I3 (stat fr3) st3 go) fun r s4 ⟨u,hr,h4⟩ => ?_)
  subst hr
  refine wpAny_passesOwn hp (thn h4 fun _ s5 ⟨x,H5,I5,r5,y5,st5,fr5⟩ => ?_)
  have I5' := I5.pinned (stat fr5) (T.obj _ _ st5)
  refine wpAny_passesOwn hp (thn (hg _ s5 σ3 H5 x u _ I5' r5 (step x H5 y5)) fun _ s6 ⟨σ6,H6,I6,q6⟩ => ?_)
  refine wpAny_passesOwn hp (thn (hb _ s6 σ6 H6 _ I6 q6) fun f s7 q7 => ?_)
  have again : ∀ {σ7 : St} {H7 : Hp},Inv X (pins ++ J5D fp s5.heap) σ7 H7 s7 → N σ7 H7 → ∃ m,m < n ∧ ∃ i σ' H',Inv X pins σ' H' s7 ∧ tn i s7.heap ∧ (∀ b ∈ fp,H' b = none) ∧ W i m σ' H' := fun {σ7 H7} I7 n7 => by
   obtain ⟨m',hm,w7⟩ := hN σ7 H7 n7
   refine ⟨m',hm,i + 1,σ7,H7,I7.unpinned,T.keep _ _ _ st5 fun b hb o e => (I7.pin (b,o) (List.mem_append_right _ (List.mem_append_right _ (J23 hb e)))).1,fun b hb => ?_,w7⟩
   obtain ⟨o,e,d⟩ := T.obj _ _ st5 b hb
   exact (I7.pin (b,o) (List.mem_append_right _ (List.mem_append_right _ (J23 hb e)))).2.1
  cases f with
  | next => obtain ⟨σ7,H7,I7,n7⟩ := q7; exact again I7 n7
  | cont => obtain ⟨σ7,H7,I7,n7⟩ := q7; exact again I7 n7
  | brk => obtain ⟨σ7,H7,I7,q7⟩ := q7; exact ⟨σ7,H7,I7.unpinned,q7⟩
  | ret v => obtain ⟨x7,σ7,H7,I7,r7,q7⟩ := q7; exact ⟨x7,σ7,H7,I7.unpinned,r7,q7⟩
end
theorem J3V {K : PySem.W.Frag} {a : Addr} {xs : List V} {g : TG} {tb : TS} {D : Ends} {σ : St} {H : Hp} (Pv : Nat → St → Hp → Prop) (h0 : Pv 0 σ H) (hl : ∀ i σ H,i ≤ xs.length → Pv i σ H → SqL K H a xs)
  (hs : ∀ i x σ H,xs[i]? = some x → Pv i σ H → g x σ H fun σ2 H2 => tb { D with nx := Pv (i + 1),ct := Pv (i + 1),bk := D.nx } σ2 H2) (hd : ∀ σ H,Pv xs.length σ H → D.nx σ H) :
  ∃ W : Nat → Nat → St → Hp → Prop,(∃ m,W 0 m σ H) ∧ ∀ i m σ H,W i m σ H →
   ((Itl K a).stop i H ∧ D.nx σ H) ∨ ((Itl K a).go i H ∧ ∃ N : St → Hp → Prop,(∀ σ' H',N σ' H' → ∃ m',m' < m ∧ W (i + 1) m' σ' H') ∧ ∀ x H',(Itl K a).yld i H x H' → g x σ H' fun σ2 H2 => tb { D with nx := N,ct := N,bk := D.nx } σ2 H2) := by
 refine ⟨fun i m σ H => m = xs.length - i ∧ i ≤ xs.length ∧ Pv i σ H,⟨xs.length,by simp,Nat.zero_le _,h0⟩,?_⟩
 rintro i m σ H ⟨rfl,hi,p⟩
 have q := hl i σ H hi p
 by_cases hlt : i < xs.length
 ·refine .inr ⟨⟨xs,xs[i],q,by simp [hlt]⟩,Pv (i + 1),fun σ' H' p' => ⟨xs.length - (i + 1),by omega,rfl,hlt,p'⟩,fun x H' y => ?_⟩
  obtain ⟨e,y⟩ := y
  subst e
  exact hs i x σ _ (y xs q) p
 ·have e : i = xs.length := by omega
  subst e
  exact .inl ⟨⟨xs,q,Nat.le_refl _⟩,hd σ H p⟩
theorem J2g {lo : Int} {n : Nat} {g : TG} {tb : TS} {D : Ends} {σ : St} {H : Hp} (Pv : Nat → St → Hp → Prop) (h0 : Pv 0 σ H)
  (hs : ∀ i σ H,i < n → Pv i σ H → g (.int (lo + i)) σ H fun σ2 H2 => tb { D with nx := Pv (i + 1),ct := Pv (i + 1),bk := D.nx } σ2 H2) (hd : ∀ σ H,Pv n σ H → D.nx σ H) :
  ∃ W : Nat → Nat → St → Hp → Prop,(∃ m,W 0 m σ H) ∧ ∀ i m σ H,W i m σ H →
   ((Itr lo n).stop i H ∧ D.nx σ H) ∨ ((Itr lo n).go i H ∧ ∃ N : St → Hp → Prop,(∀ σ' H',N σ' H' → ∃ m',m' < m ∧ W (i + 1) m' σ' H') ∧ ∀ x H',(Itr lo n).yld i H x H' → g x σ H' fun σ2 H2 => tb { D with nx := N,ct := N,bk := D.nx } σ2 H2) := by
 refine ⟨fun i m σ H => m = n - i ∧ i ≤ n ∧ Pv i σ H,⟨n,by simp,Nat.zero_le _,h0⟩,?_⟩
 rintro i m σ H ⟨rfl,hi,p⟩
 by_cases hlt : i < n
 ·refine .inr ⟨hlt,Pv (i + 1),fun σ' H' p' => ⟨n - (i + 1),by omega,rfl,hlt,p'⟩,fun x H' y => ?_⟩
  obtain ⟨e,y⟩ := y
  subst e y
  exact hs i σ _ hlt p
 ·have e : i = n := by omega
  subst e
  exact .inl ⟨Nat.le_refl _,hd σ H p⟩
end L2
namespace L2
open PySem PySem.Spec PyProof.Rows
noncomputable abbrev R2 := V → V → Hp → VK → Prop
noncomputable def OpR (X : Cx) (f : Value → Value → Sem Value) (r : R2) : Prop :=
 ∀ (pins : List (Addr × Obj)) (s : Shared) (σ : St) (H : Hp) (x y : V) (v u : Value) (Q : VK),Inv X pins σ H s → RelV x v → RelV y u → r x y H Q →
  wpAny (model X.prog X.w) X.A (f v u) (EP X pins σ Q) X.xe s
noncomputable def UnR (X : Cx) (f : Value → Sem Value) (r : V → Hp → VK → Prop) : Prop :=
 ∀ (pins : List (Addr × Obj)) (s : Shared) (σ : St) (H : Hp) (x : V) (v : Value) (Q : VK),Inv X pins σ H s → RelV x v → r x H Q →
  wpAny (model X.prog X.w) X.A (f v) (EP X pins σ Q) X.xe s
noncomputable def J1U (X : Cx) (f : Value) (r : List V → Hp → VK → Prop) : Prop :=
 ∀ (pins : List (Addr × Obj)) (s : Shared) (σ : St) (H : Hp) (xs : List V) (us : List Value) (Q : VK),Inv X pins σ H s → Vals xs us → r xs H Q →
  wpAny (model X.prog X.w) X.A (call f us) (EP X pins σ Q) X.xe s
noncomputable def tOp (r : R2) (ta tb : TE) : TE := fun σ H Q => ta σ H fun x H1 => tb σ H1 fun y H2 => r x y H2 Q
noncomputable def tUn (r : V → Hp → VK → Prop) (ta : TE) : TE := fun σ H Q => ta σ H fun x H1 => r x H1 Q
noncomputable def rI (C : Int → Int → Prop) (g : Int → Int → V) : R2 := fun x y H Q => ∃ i j,x = .int i ∧ y = .int j ∧ C i j ∧ Q (g i j) H
noncomputable def rI0 (g : Int → Int → V) : R2 := fun x y H Q => ∃ i j,x = .int i ∧ y = .int j ∧ Q (g i j) H
noncomputable def rU (g : Int → V) : V → Hp → VK → Prop := fun x H Q => ∃ i,x = .int i ∧ Q (g i) H
section
variable {X : Cx} {a b c : Expr} {ta tb tc : TE} {pos : Pos}
theorem binT (ha : PE X a ta) (hb : PE X b tb) {pins : List (Addr × Obj)} {s : Shared} {σ : St} {H : Hp} {R : V → V → Hp → Prop} (I : Inv X pins σ H s)
  (h : ta σ H fun x H1 => tb σ H1 fun y H2 => R x y H2) {Q : Value → Shared → Prop} {f : Value → Value → Sem Value}
  (hf : ∀ v u s2 x y H2,Inv X pins σ H2 s2 → RelV x v → RelV y u → R x y H2 → wpAny (model X.prog X.w) X.A (f v u) Q X.xe s2) :
  wpAny (model X.prog X.w) X.A (eval a X.env) (fun v s₁ => wpAny (model X.prog X.w) X.A (eval b X.env) (fun u s₂ => wpAny (model X.prog X.w) X.A (f v u) Q X.xe s₂) X.xe s₁) X.xe s := by
 refine thn (ha pins s σ H _ I h) fun v s1 ⟨x,H1,I1,r1,q1⟩ => ?_
 refine thn (hb pins s1 σ H1 _ I1 q1) fun u s2 ⟨y,H2,I2,r2,q2⟩ => ?_
 exact hf v u s2 x y H2 I2 r1 r2 q2
theorem Jd {op : Operator} {r : R2} (ho : OpR X (binaryOp op) r) (ha : PE X a ta) (hb : PE X b tb) : PE X (.BinOp a op b pos) (tOp r ta tb) := by
 intro pins s σ H Q I h
 exact wpAny_BinOp (binT ha hb I h fun v u s2 x y H2 I2 rx ry q => ho pins s2 σ H2 x y v u Q I2 rx ry q)
theorem Jb6 {op : UnaryOp} {r : V → Hp → VK → Prop} (ho : UnR X (unaryOp op) r) (ha : PE X a ta) : PE X (.UnaryOp op a pos) (tUn r ta) := by
 intro pins s σ H Q I h
 exact UnaryOp_ (thn (ha pins s σ H _ I h) fun v s1 ⟨x,H1,I1,r1,q1⟩ => ho pins s1 σ H1 x v Q I1 r1 q1)
theorem opI {f : Value → Value → Sem Value} {C : Int → Int → Prop} {g : Int → Int → Int}
  (rule : ∀ (i j : Int) (t u : Tok) (s : Shared) (Q : Value → Shared → Prop) (E : Value → Shared → Prop),C i j → Q (.int (g i j) s.toks) { s with toks := s.toks + 1 } → wpAny (model X.prog X.w) X.A (f (.int i t) (.int j u)) Q E s) :
  OpR X f (rI C fun i j => .int (g i j)) := by
 intro pins s σ H x y v u Q I rx ry h
 obtain ⟨i,j,rfl,rfl,hc,q⟩ := h
 obtain ⟨t,rfl⟩ := rx
 obtain ⟨t',rfl⟩ := ry
 exact rule i j t t' s _ _ hc ⟨.int (g i j),H,I.tok _,⟨_,rfl⟩,q⟩
theorem opI0 {f : Value → Value → Sem Value} {g : Int → Int → Int}
  (rule : ∀ (i j : Int) (t u : Tok) (s : Shared) (Q : Value → Shared → Prop) (E : Value → Shared → Prop),Q (.int (g i j) s.toks) { s with toks := s.toks + 1 } → wpAny (model X.prog X.w) X.A (f (.int i t) (.int j u)) Q E s) :
  OpR X f (rI0 fun i j => .int (g i j)) := by
 intro pins s σ H x y v u Q I rx ry h
 obtain ⟨i,j,rfl,rfl,q⟩ := h
 obtain ⟨t,rfl⟩ := rx
 obtain ⟨t',rfl⟩ := ry
 exact rule i j t t' s _ _ ⟨.int (g i j),H,I.tok _,⟨_,rfl⟩,q⟩
theorem opB0 {f : Value → Value → Sem Value} {g : Int → Int → Bool}
  (rule : ∀ (i j : Int) (t u : Tok) (s : Shared) (Q : Value → Shared → Prop) (E : Value → Shared → Prop),Q (.bool (g i j)) s → wpAny (model X.prog X.w) X.A (f (.int i t) (.int j u)) Q E s) :
  OpR X f (rI0 fun i j => .bl (g i j)) := by
 intro pins s σ H x y v u Q I rx ry h
 obtain ⟨i,j,rfl,rfl,q⟩ := h
 obtain ⟨t,rfl⟩ := rx
 obtain ⟨t',rfl⟩ := ry
 exact rule i j t t' s _ _ ⟨.bl (g i j),H,I,rfl,q⟩
noncomputable def CDiv (i j : Int) : Prop := 0 < j ∧ j < 1073741824
noncomputable def CPow (i j : Int) : Prop := 0 ≤ j ∧ j ≤ 1000000 ∧ i.natAbs < 2 ^ 64
noncomputable def CMul (i j : Int) : Prop := (-(2 ^ 64) < i ∧ i < 2 ^ 64) ∨ (-(2 ^ 64) < j ∧ j < 2 ^ 64)
theorem CMul.ok {i j : Int} (h : CMul i j) : IntMulOk i j := by
 rcases h with ⟨h1,h2⟩ | ⟨h1,h2⟩
 ·exact .of_left (intBits_le_64 h1 h2)
 ·exact .of_right (intBits_le_64 h1 h2)
theorem JaN (k : Nat) : (0 : Int) ≤ 2 ^ k := by
 rw [two_pow_cast]
 exact Int.natCast_nonneg _
theorem J0a : OpR X (binaryOp .Add) (rI0 fun i j => .int (i + j)) := opI0 fun _ _ _ _ _ _ _ q => add_int q
theorem JaD : OpR X (binaryOp .Sub) (rI0 fun i j => .int (i - j)) := opI0 fun _ _ _ _ _ _ _ q => sub_int q
theorem J3b : OpR X (binaryOp .Mult) (rI CMul fun i j => .int (i * j)) := opI fun _ _ _ _ _ _ _ hc q => mul_int q hc.ok
theorem JM : OpR X (binaryOp .FloorDiv) (rI CDiv fun i j => .int (i / j)) := opI fun i j _ _ _ _ _ hc q => by
 have h1 : (0 : Int) < j := hc.1
 have h2 : j < 1073741824 := hc.2
 exact floordiv_int (by omega) (by rw [Int.fdiv_eq_ediv_of_nonneg i (by omega)]; exact q) (.inl (PyProof.noPylong_small (by omega)))
theorem JD : OpR X (binaryOp .Mod) (rI (fun _ j => 0 < j) fun i j => .int (i % j)) := opI fun i j _ _ _ _ _ hc q => by
 have h1 : (0 : Int) < j := hc
 exact mod_int' (by omega) (by rw [Int.fmod_eq_emod_of_nonneg i (by omega)]; exact q)
theorem Jff : OpR X (binaryOp .Pow) (rI CPow fun i j => .int (i ^ j.toNat)) := opI fun _ _ _ _ _ _ _ hc q => pow_int_small hc.1 hc.2.1 hc.2.2 q
theorem Jdl : OpR X (binaryOp .RShift) (rI (fun _ j => 0 ≤ j) fun i j => .int (i / 2 ^ j.toNat)) := opI fun i j _ _ _ _ _ hc q =>
 rshift_int hc (by rw [Int.fdiv_eq_ediv_of_nonneg i (JaN _)]; exact q)
theorem Jdj : OpR X (binaryOp .BitAnd) (rI0 fun i j => .int (Builtin.bitAnd i j)) := opI0 fun _ _ _ _ _ _ _ q => and_int q
theorem unI {f : Value → Sem Value} {g : Int → Int}
  (rule : ∀ (i : Int) (t : Tok) (s : Shared) (Q : Value → Shared → Prop) (E : Value → Shared → Prop),Q (.int (g i) s.toks) { s with toks := s.toks + 1 } → wpAny (model X.prog X.w) X.A (f (.int i t)) Q E s) :
  UnR X f (rU fun i => .int (g i)) := by
 intro pins s σ H x v Q I rx h
 obtain ⟨i,rfl,q⟩ := h
 obtain ⟨t,rfl⟩ := rx
 exact rule i t s _ _ ⟨.int (g i),H,I.tok _,⟨_,rfl⟩,q⟩
theorem J8y : UnR X (unaryOp .USub) (rU fun i => .int (-i)) := unI fun _ _ _ _ _ q => neg_int q
end
noncomputable def scal : V → V → Bool
 | .non,.non => true | .non,.int _ => true | .int _,.non => true | .non,.bl _ => true | .bl _,.non => true | .non,.str _ => true | .str _,.non => true
 | .int _,.int _ => true | .bl _,.bl _ => true | .str _,.str _ => true | .byt _,.byt _ => true
 | .int _,.str _ => true | .str _,.int _ => true | .bl _,.str _ => true | .str _,.bl _ => true
 | _,_ => false
noncomputable def rEq : R2 := fun x y H Q => scal x y = true ∧ Q (.bl (decide (x = y))) H
noncomputable def rNe : R2 := fun x y H Q => scal x y = true ∧ Q (.bl (!decide (x = y))) H
theorem Jbo {i j : Int} : decide (V.int i = V.int j) = (i == j) := by
 rw [Bool.eq_iff_iff]
 simp
theorem JcM {i j : Bool} : decide (V.bl i = V.bl j) = (i == j) := by
 rw [Bool.eq_iff_iff]
 simp
theorem Jbc {i j : Str} : decide (V.str i = V.str j) = (i == j) := by
 rw [Bool.eq_iff_iff]
 simp
theorem Jbi {i j : Array UInt8} : decide (V.byt i = V.byt j) = (i.toList == j.toList) := by
 rw [Bool.eq_iff_iff]
 cases i
 cases j
 simp
section
variable {X : Cx} {a b c : Expr} {ta tb tc : TE} {pos : Pos}
theorem J01 {pins : List (Addr × Obj)} {σ : St} {H : Hp} {s : Shared} {Q : VK} {k k' : Bool} (I : Inv X pins σ H s) (q : Q (.bl k) H) (e : k = k') : EP X pins σ Q (.bool k') s := by
 subst e
 exact ⟨.bl k,H,I,rfl,q⟩
theorem J0c : OpR X (compareOp .Eq) rEq := by
 intro pins s σ H x y v u Q I rx ry h
 obtain ⟨hs,q⟩ := h
 cases x with
 | non =>
  cases rx
  cases y with
  | non => cases ry; exact PySem.EqNone.eq_none_none (J01 I q (by simp))
  | bl j => cases ry; exact PySem.EqNone.eq_none_bool (J01 I q (by simp))
  | int j => obtain ⟨t',rfl⟩ := ry; exact PySem.EqNone.eq_none_int (J01 I q (by simp))
  | str j => obtain ⟨t',rfl⟩ := ry; exact PySem.EqNone.eq_none_str (J01 I q (by simp))
  | _ => exact absurd (show false = true from hs) Bool.false_ne_true
 | bl i =>
  cases rx
  cases y with
  | non => cases ry; exact PySem.EqNone.eq_bool_none (J01 I q (by simp))
  | bl j => cases ry; exact eq_bool (J01 I q JcM)
  | str j => obtain ⟨t',rfl⟩ := ry; exact PySem.EqMixed.eq_bool_str (J01 I q (by simp))
  | _ => exact absurd (show false = true from hs) Bool.false_ne_true
 | int i =>
  obtain ⟨t,rfl⟩ := rx
  cases y with
  | non => cases ry; exact PySem.EqNone.eq_int_none (J01 I q (by simp))
  | int j => obtain ⟨t',rfl⟩ := ry; exact eq_int (J01 I q Jbo)
  | str j => obtain ⟨t',rfl⟩ := ry; exact PySem.EqMixed.eq_int_str (J01 I q (by simp))
  | _ => exact absurd (show false = true from hs) Bool.false_ne_true
 | str i =>
  obtain ⟨t,rfl⟩ := rx
  cases y with
  | non => cases ry; exact PySem.EqNone.eq_str_none (J01 I q (by simp))
  | bl j => cases ry; exact PySem.EqMixed.eq_str_bool (J01 I q (by simp))
  | int j => obtain ⟨t',rfl⟩ := ry; exact PySem.EqMixed.eq_str_int (J01 I q (by simp))
  | str j => obtain ⟨t',rfl⟩ := ry; exact eq_str (J01 I q Jbc)
  | _ => exact absurd (show false = true from hs) Bool.false_ne_true
 | byt i =>
  obtain ⟨t,rfl⟩ := rx
  cases y with
  | byt j => obtain ⟨t',rfl⟩ := ry; exact PySem.W.eq_bytes (J01 I q Jbi)
  | _ => exact absurd (show false = true from hs) Bool.false_ne_true
 | _ => cases y <;> exact absurd (show false = true from hs) Bool.false_ne_true
theorem J2Y : OpR X (compareOp .NotEq) rNe := by
 intro pins s σ H x y v u Q I rx ry h
 obtain ⟨hs,q⟩ := h
 cases x with
 | non =>
  cases rx
  cases y with
  | non => cases ry; exact PySem.EqNone.ne_none_none (J01 I q (by simp))
  | bl j => cases ry; exact PySem.EqNone.ne_none_bool (J01 I q (by simp))
  | int j => obtain ⟨t',rfl⟩ := ry; exact PySem.EqNone.ne_none_int (J01 I q (by simp))
  | str j => obtain ⟨t',rfl⟩ := ry; exact PySem.EqNone.ne_none_str (J01 I q (by simp))
  | _ => exact absurd (show false = true from hs) Bool.false_ne_true
 | bl i =>
  cases rx
  cases y with
  | non => cases ry; exact PySem.EqNone.ne_bool_none (J01 I q (by simp))
  | bl j => cases ry; exact ne_bool (J01 I q (congrArg not JcM))
  | str j => obtain ⟨t',rfl⟩ := ry; exact PySem.EqMixed.ne_bool_str (J01 I q (by simp))
  | _ => exact absurd (show false = true from hs) Bool.false_ne_true
 | int i =>
  obtain ⟨t,rfl⟩ := rx
  cases y with
  | non => cases ry; exact PySem.EqNone.ne_int_none (J01 I q (by simp))
  | int j => obtain ⟨t',rfl⟩ := ry; exact ne_int (J01 I q (congrArg not Jbo))
  | str j => obtain ⟨t',rfl⟩ := ry; exact PySem.EqMixed.ne_int_str (J01 I q (by simp))
  | _ => exact absurd (show false = true from hs) Bool.false_ne_true
 | str i =>
  obtain ⟨t,rfl⟩ := rx
  cases y with
  | non => cases ry; exact PySem.EqNone.ne_str_none (J01 I q (by simp))
  | bl j => cases ry; exact PySem.EqMixed.ne_str_bool (J01 I q (by simp))
  | int j => obtain ⟨t',rfl⟩ := ry; exact PySem.EqMixed.ne_str_int (J01 I q (by simp))
  | str j => obtain ⟨t',rfl⟩ := ry; exact ne_str (J01 I q (congrArg not Jbc))
  | _ => exact absurd (show false = true from hs) Bool.false_ne_true
 | byt i =>
  obtain ⟨t,rfl⟩ := rx
  cases y with
  | byt j => obtain ⟨t',rfl⟩ := ry; exact PySem.W.ne_bytes (J01 I q (congrArg not Jbi))
  | _ => exact absurd (show false = true from hs) Bool.false_ne_true
 | _ => cases y <;> exact absurd (show false = true from hs) Bool.false_ne_true
theorem J5Q : OpR X (compareOp .Lt) (rI0 fun i j => .bl (decide (i < j))) := opB0 fun _ _ _ _ _ _ _ q => lt_int q
theorem Jbq : OpR X (compareOp .LtE) (rI0 fun i j => .bl (decide (i ≤ j))) := opB0 fun _ _ _ _ _ _ _ q => le_int q
theorem J3m : OpR X (compareOp .Gt) (rI0 fun i j => .bl (decide (j < i))) := opB0 fun _ _ _ _ _ _ _ q => gt_int q
theorem JeA : OpR X (compareOp .GtE) (rI0 fun i j => .bl (decide (j ≤ i))) := opB0 fun _ _ _ _ _ _ _ q => ge_int q
theorem JbS : OpR X (compareOp .In) (fun x y H Q => ∃ i j,x = .str i ∧ y = .str j ∧ Q (.bl (!(Builtin.Str.occurrences j i 0 j.length 1).isEmpty)) H) := by
 intro pins s σ H x y v u Q I rx ry h
 obtain ⟨i,j,rfl,rfl,q⟩ := h
 obtain ⟨t,rfl⟩ := rx
 obtain ⟨t',rfl⟩ := ry
 exact in_str (J01 I q rfl)
theorem J8v : OpR X (compareOp .NotIn) (fun x y H Q => ∃ i j,x = .str i ∧ y = .str j ∧ Q (.bl (!(!(Builtin.Str.occurrences j i 0 j.length 1).isEmpty))) H) := by
 intro pins s σ H x y v u Q I rx ry h
 obtain ⟨i,j,rfl,rfl,q⟩ := h
 obtain ⟨t,rfl⟩ := rx
 obtain ⟨t',rfl⟩ := ry
 exact notIn_str (J01 I q rfl)
theorem Jq (b : Expr) {op : CmpOp} (h : op ≠ .In := by decide) (h2 : op ≠ .NotIn := by decide) : behindInMarks op b = false := by
 have e1 : (op == CmpOp.In) = false := by cases op <;> first | rfl | exact absurd rfl h
 have e2 : (op == CmpOp.NotIn) = false := by cases op <;> first | rfl | exact absurd rfl h2
 cases b <;> simp [behindInMarks,e1,e2]
theorem J2q {op : CmpOp} {r : R2} (ho : OpR X (compareOp op) r) (ha : PE X a ta) (hb : PE X b tb) (hm : behindInMarks op b = false) : PE X (.Compare a [op] [b] pos) (tOp r ta tb) := by
 intro pins s σ H Q I h
 exact wpAny_Compare1 (binT ha hb I h fun v u s2 x y H2 I2 rx ry q => ho pins s2 σ H2 x y v u Q I2 rx ry q) hm
noncomputable def JfN (t : TE) : TT := fun σ H Q => t σ H fun x H' => ∃ k,x = .bl k ∧ Q k H'
theorem Jl {op : CmpOp} {r : R2} (ho : OpR X (compareOp op) r) (ha : PE X a ta) (hb : PE X b tb) (hm : behindInMarks op b = false) : PT X (.Compare a [op] [b] pos) (JfN (tOp r ta tb)) := by
 intro pins s σ H Q I h
 refine wpAny_isTrue_Compare1 (thn (ha pins s σ H _ I h) fun v s1 ⟨x,H1,I1,r1,q1⟩ => thn (hb pins s1 σ H1 _ I1 q1) fun u s2 ⟨y,H2,I2,r2,q2⟩ =>
  thn (ho pins s2 σ H2 x y v u _ I2 r1 r2 q2) fun c s3 ⟨z,H3,I3,r3,k,e,q3⟩ => ?_) hm
 subst e
 cases r3
 exact wpAny_truthy_bool ⟨H3,I3,q3⟩
noncomputable def Jfk (r r' : R2) (ta tb tc : TE) : TE := fun σ H Q => ta σ H fun x H1 => tb σ H1 fun y H2 => r x y H2 fun z H3 => ∃ k,z = .bl k ∧
 (if k = true then tc σ H3 fun w' H4 => r' y w' H4 Q else Q (.bl false) H3)
theorem J9K {op op' : CmpOp} {r r' : R2} (ho : OpR X (compareOp op) r) (ho' : OpR X (compareOp op') r') (ha : PE X a ta) (hb : PE X b tb) (hc : PE X c tc)
  (hm : lastMarks [op,op'] [b,c] = false := by with_unfolding_all rfl) : PE X (.Compare a [op,op'] [b,c] pos) (Jfk r r' ta tb tc) := by
 intro pins s σ H Q I h
 refine Compare_chain (thn (ha pins s σ H _ I h) fun v s1 ⟨x,H1,I1,r1,q1⟩ => chain_link (thn (hb pins s1 σ H1 _ I1 q1) fun u s2 ⟨y,H2,I2,r2,q2⟩ =>
  thn (ho pins s2 σ H2 x y v u _ I2 r1 r2 q2) fun d s3 ⟨z,H3,I3,r3,k,e,q3⟩ => ?_)) hm
 subst e
 cases r3
 refine wpAny_truthy_bool ?_
 cases k with
 | false => exact ite_ff ⟨.bl false,H3,I3,rfl,q3⟩
 | true => exact ite_tt (chain_last (thn (hc pins s3 σ H3 _ I3 q3) fun w' s4 ⟨z',H4,I4,r4,q4⟩ => ho' pins s4 σ H4 y z' u w' Q I4 r2 r4 q4))
theorem J73 : (sizeLine : Nat) < 2 ^ 63 := by rw [sizeLine_eq]; decide
theorem Jay : OpR X (binaryOp .Add) (fun x y H Q => ∃ i j,x = .str i ∧ y = .str j ∧ i.length + j.length ≤ sizeLine ∧ Q (.str (i ++ j)) H) := by
 intro pins s σ H x y v u Q I rx ry h
 obtain ⟨i,j,rfl,rfl,hz,q⟩ := h
 obtain ⟨t,rfl⟩ := rx
 obtain ⟨t',rfl⟩ := ry
 exact add_str (fun t' tk => ⟨.str (i ++ j),H,I.tok _,⟨_,rfl⟩,q⟩) hz
theorem Jbd {x : V} {us : List Value} (r : Vals [x] us) : ∃ u,us = [u] ∧ RelV x u := by
 cases r with
 | cons r1 r2 => cases r2; exact ⟨_,rfl,r1⟩
theorem Jg7 {x y : V} {us : List Value} (r : Vals [x,y] us) : ∃ u w',us = [u,w'] ∧ RelV x u ∧ RelV y w' := by
 cases r with
 | cons r1 r2 =>
  cases r2 with
  | cons r3 r4 => cases r4; exact ⟨_,_,rfl,r1,r3⟩
theorem Jcc (hc : X.calm = true) : J1U X (.builtin "max") (fun xs H Q => ∃ i j,xs = [.int i,.int j] ∧ Q (.int (if j > i then j else i)) H) := by
 intro pins s σ H xs us Q I r h
 obtain ⟨i,j,rfl,q⟩ := h
 obtain ⟨u,w',rfl,⟨t,rfl⟩,⟨t',rfl⟩⟩ := Jg7 r
 refine max_two_ints (I.ok.hd hc) fun h' tk k => ⟨_,H,I.kept k,?_,q⟩
 by_cases hj : j > i
 ·rw [if_pos hj,if_pos hj]; exact ⟨_,rfl⟩
 ·rw [if_neg hj,if_neg hj]; exact ⟨_,rfl⟩
theorem J8B : J1U X (.type "str") (fun xs H Q => ∃ i,xs = [.int i] ∧ i.natAbs.log2 < 1920 ∧ Q (.str (toString i)) H) := by
 intro pins s σ H xs us Q I r h
 obtain ⟨i,rfl,hz,q⟩ := h
 obtain ⟨u,rfl,t,rfl⟩ := Jbd r
 exact PySem.P.str_of_int hz ⟨.str _,H,I.tok _,⟨_,rfl⟩,q⟩
end
end L2
namespace L2
open PySem PySem.Spec PyProof.Rows
structure ObjM (h : Heap) (x dx C : Addr) (mA : Str → Option Value) : Prop where
 obj : h.get? x = some (PySem.W.instObj C dx)
 ns : h.Ns1 dx mA
 ne : dx ≠ x
theorem Jck {h : Heap} {dx : Addr} {mA : Str → Option Value} (n : h.Ns1 dx mA) : ∃ od,h.get? dx = some od ∧ ∀ name,PySem.W.lookIn name od = some (mA name) := by
 obtain ⟨o,es,ep,ho,hd,hk,_,hm⟩ := n
 refine ⟨o,ho,fun name => ?_⟩
 have e := hm name
 unfold nsFind findBy at e
 rw [← Array.find?_toList] at e
 unfold PySem.W.lookIn
 rw [hd]
 dsimp only
 split
 ·rename_i y q
  rw [q] at e
  exact congrArg some e
 ·rename_i q
  rw [q] at e
  have a : es.toList.any (·.refKey) = false := by
   rw [List.any_eq_false]
   intro y hy
   obtain ⟨z,t,hkey⟩ := hk y (Array.mem_toList_iff.mp hy)
   simp [DictEntry.refKey,hkey]
  have a' : ¬ es.toList.any (·.refKey) = true := by rw [a]; exact Bool.false_ne_true
  rw [if_neg a']
  exact congrArg some e
theorem ObjM.look {h : Heap} {x dx C : Addr} {mA : Str → Option Value} (I : ObjM h x dx C mA) : ∃ od,PySem.W.InstAt h x (PySem.W.instObj C dx) C (some od) ∧ ∀ name,PySem.W.lookIn name od = some (mA name) :=
 let ⟨od,ho,hl⟩ := Jck I.ns
 ⟨od,⟨I.obj,rfl,rfl,ho⟩,hl⟩
section
variable {prog : Program} {w : World} {A : Around} {E : Value → Shared → Prop} {s : Shared} {K : PySem.W.Frag} {x dx C f : Addr} {mA : Str → Option Value} {name : Str} {v : Value}
theorem Jep {expr : Bool} {Q : Value → Shared → Prop} (X : K.In s.heap) (I : ObjM s.heap x dx C mA) (hg : PySem.W.plainGet K C name = true) (hh : PySem.W.hasDictIn K C = true)
  (ha : PySem.W.findIn K (.ref C) name = some none) (hv : mA name = some v) (hv' : PySem.W.handedIn v = true) (h : Q v { s with toks := s.toks + 1 }) :
  wpAny (model prog w) A (getAttr (.ref x) name expr) Q E s := by
 obtain ⟨od,J,hl⟩ := I.look
 exact PySem.W.get_value X J (PySem.W.plainGet_of hg).1 (PySem.W.findObj_own hh ha rfl (by rw [hl,hv])) hv' h
theorem JcU {pl : Sem Bool} {Q : Value × List Value → Shared → Prop} (X : K.In s.heap) (I : ObjM s.heap x dx C mA) (hg : PySem.W.plainGet K C name = true)
  (hf : PySem.W.findIn K (.ref C) name = some (some (.ref f))) (ht : PySem.W.isFn K (.ref f) = true) (hv : mA name = none) (h : Q (.ref f,[.ref x]) s) :
  wpAny (model prog w) A (getMethod (.ref x) name pl) Q E s := by
 obtain ⟨od,J,hl⟩ := I.look
 exact PySem.W.method_fn X J (PySem.W.plainGet_of hg).1 (PySem.W.plainGet_of hg).2 hf (beq_iff_eq.mp ht) (by show (PySem.W.lookIn name od).map (·.isSome) = some false; rw [hl,hv]; rfl) h
theorem JdX {ns : List Str} {Q : Unit → Shared → Prop} (X : K.In s.heap) (I : ObjM s.heap x dx C mA)
  (hs : PySem.W.findIn K (.ref C) "__setattr__" = some (some (.builtin "object.__setattr__"))) (hp : PySem.W.plainOver K C = true) (ht : PySem.W.takerIn K C name = some none) (hh : PySem.W.hasDictIn K C = true)
  (hw : PySem.Within mA ns) (hsz : ns.length ≤ sizeLine)
  (h : ∀ h',ObjM h' x dx C (fun y => if y = name then some v else mA y) → Heap.SameBut dx s.heap h' → Q () { s with heap := h',toks := s.toks + 2 }) :
  wpAny (model prog w) A (setAttr (.ref x) name v) Q E s := by
 obtain ⟨od,J,hl⟩ := I.look
 refine PySem.W.set_plain X J hs (PySem.W.osa_open (s := { s with toks := s.toks + 1 }) (r := none) X J hp ht fun b => ?_)
 obtain ⟨cd,hc,hd'⟩ := PySem.W.any_some hh
 have hx : s.heap.get? x = some ⟨.ref C,some dx,.plain,#[]⟩ := I.obj
 refine wpAny_bind (wpAny_pure (wpAny_bind (wpAny_bind (wpAny_loadPart hx (wpAny_bind (PySem.W.Looks.here (s := { s with toks := s.toks + 1 }) (PySem.W.looks_clsIn X hc) ?_))))))
 rw [hd']
 refine wpAny_pure (a := some dx) (wpAny_bind (wpAny_pure (wpAny_bind ?_)))
 refine wpAny_nsSet1 (s := { s with toks := s.toks + 1 }) I.ns fun h' hn2 hs2 => ?_
 obtain ⟨oD,esD,epD,hoD,hdD,hcD⟩ := hn2.count (PySem.Within.cons name v hw)
 refine wpAny_bind (wpAny_lookBehind hoD (by rw [hdD]; exact pastItsLine_dict (Nat.le_trans hcD (by rw [List.length_cons]; omega))) ?_)
 exact wpAny_pure (h _ ⟨(hs2.2 _ (Ne.symm I.ne)).trans I.obj,hn2,I.ne⟩ hs2)
theorem JcQ {R : Result → Shared → Prop} {vs : List Value} {kw : List (Str × Value)} (X : K.In s.heap) (hm : PySem.W.makesIn K C = true)
  (hi : PySem.W.findIn K (.ref C) "__init__" = some (some (.ref f))) (hf : PySem.W.typeIn K (.ref f) = some (.type "function"))
  (h : codeAny (model prog w) (A.under (.builtin "type.__call__" ⟨.ref C :: vs,kw⟩)) (.call (.ref f) ⟨.ref (s.heap.objs.size + 1) :: vs,kw⟩) (PySem.W.InitBack (s.heap.objs.size + 1) R)
   {s with heap := (s.heap.push PySem.W.emptyDict).push (PySem.W.instObj C s.heap.objs.size) }) :
  codeAny (model prog w) A (.call (.ref C) ⟨vs,kw⟩) R s := by
 obtain ⟨hh,g,d,t,os⟩ := s
 exact PySem.W.make_core (PySem.W.makes_of X hm) (PySem.W.looks_findIn X hi) (fun self => PySem.W.bind_fn X self hf) (.inl rfl) h
end
noncomputable def putF (f : Str) (v : V) : List (Str × V) → List (Str × V)
 | [] => [(f,v)]
 | (g,x) :: r => if g = f then (g,v) :: r else (g,x) :: putF f v r
theorem J5X (f g : Str) (v : V) : ∀ fs : List (Str × V),(putF f v fs).lookup g = if g = f then some v else fs.lookup g
 | [] => by
  show List.lookup g [(f,v)] = _
  by_cases h : g = f
  ·have hb : (g == f) = true := beq_iff_eq.mpr h
   simp only [List.lookup,hb,if_pos h]
  ·have hb : (g == f) = false := beq_eq_false_iff_ne.mpr h
   simp only [List.lookup,hb,if_neg h]
 | (k,x) :: r => by
  have ih := J5X f g v r
  rw [show putF f v ((k,x) :: r) = (if k = f then (k,v) :: r else (k,x) :: putF f v r) from rfl]
  by_cases hk : k = f
  ·rw [if_pos hk]
   by_cases h : g = k
   ·have hb : (g == k) = true := beq_iff_eq.mpr h
    simp only [List.lookup,hb,if_pos (h.trans hk)]
   ·have hb : (g == k) = false := beq_eq_false_iff_ne.mpr h
    simp only [List.lookup,hb,if_neg (fun e : g = f => h (e.trans hk.symm))]
  ·rw [if_neg hk]
   by_cases h : g = k
   ·have hb : (g == k) = true := beq_iff_eq.mpr h
    simp only [List.lookup,hb,if_neg (fun e : g = f => hk (h.symm.trans e))]
   ·have hb : (g == k) = false := beq_eq_false_iff_ne.mpr h
    simp only [List.lookup,hb]
    exact ih
theorem J5y (f : Str) (v : V) : ∀ fs : List (Str × V),f ∈ (putF f v fs).map (·.1) ∧ ∀ g,g ∈ fs.map (·.1) → g ∈ (putF f v fs).map (·.1)
 | [] => ⟨by simp [putF],fun g h => by simp at h⟩
 | (k,x) :: r => by
  obtain ⟨i1,i2⟩ := J5y f v r
  rw [show putF f v ((k,x) :: r) = (if k = f then (k,v) :: r else (k,x) :: putF f v r) from rfl]
  by_cases hk : k = f
  ·rw [if_pos hk]
   subst hk
   exact ⟨by simp,fun g h => by simpa using h⟩
  ·rw [if_neg hk]
   refine ⟨?_,fun g h => ?_⟩
   ·rw [List.map_cons]
    exact List.mem_cons_of_mem _ i1
   ·rw [List.map_cons] at h ⊢
    rcases List.mem_cons.mp h with e | e
    ·exact List.mem_cons.mpr (.inl e)
    ·exact List.mem_cons_of_mem _ (i2 g e)
theorem J2i (f : Str) (v : V) : ∀ fs : List (Str × V),(putF f v fs).length ≤ fs.length + 1
 | [] => by simp [putF]
 | (k,x) :: r => by
  have ih := J2i f v r
  rw [show putF f v ((k,x) :: r) = (if k = f then (k,v) :: r else (k,x) :: putF f v r) from rfl]
  by_cases hk : k = f
  ·rw [if_pos hk,List.length_cons,List.length_cons]; omega
  ·rw [if_neg hk,List.length_cons,List.length_cons]; omega
theorem RelO.some_of {v : V} {o : Option Value} (r : RelO (some v) o) : ∃ u,o = some u ∧ RelV v u := by
 cases o with
 | none => exact (show False from r).elim
 | some u => exact ⟨u,rfl,r⟩
theorem RelO.none_of {o : Option Value} (r : RelO none o) : o = none := by
 cases o with
 | none => rfl
 | some u => exact (show False from r).elim
theorem Jca {v : V} {u : Value} (r : RelV v u) : PySem.W.handedIn u = true := by
 cases v with
 | non => cases (show u = Value.none from r); rfl
 | bl b => cases (show u = Value.bool b from r); rfl
 | int i => obtain ⟨t,e⟩ := (show ∃ t,u = Value.int i t from r); cases e; rfl
 | str x => obtain ⟨t,e⟩ := (show ∃ t,u = Value.str x t from r); cases e; rfl
 | byt b => obtain ⟨t,e⟩ := (show ∃ t,u = Value.bytes b t from r); cases e; rfl
 | flt b => obtain ⟨t,e⟩ := (show ∃ t,u = Value.float b t from r); cases e; rfl
 | ref a => cases (show u = Value.ref a from r); rfl
 | ty n => cases (show u = Value.type n from r); rfl
section
variable {P : Program} {w : World} {H H' : Hp} {h h' : Heap} {a C dx : Addr} {fs fs' : List (Str × V)}
theorem J8P (hok : HOk P w H h) (e : H a = some (.ins C dx fs)) : ∃ mA,ObjM h a dx C mA ∧ (∀ f,RelO (fs.lookup f) (mA f)) ∧ PySem.Within mA (fs.map (·.1)) ∧ fs.length ≤ 1000 ∧ H dx = some (.own a) := by
 obtain ⟨d,z,ne,ob,mA,n,r,q⟩ := (show J2Z P w H h a (.ins C dx fs) from hok a _ e)
 exact ⟨mA,⟨ob,n,ne⟩,r,q,z,d⟩
end
structure Cls (K : PySem.W.Frag) (C : Addr) : Prop where
 pg : PySem.W.plainGet K C Str.empty = true
 hd : PySem.W.hasDictIn K C = true
 po : PySem.W.plainOver K C = true
 sa : PySem.W.findIn K (.ref C) "__setattr__" = some (some (.builtin "object.__setattr__"))
theorem Cls.get {K : PySem.W.Frag} {C : Addr} (c : Cls K C) (f : Str) : PySem.W.plainGet K C f = true := c.pg
noncomputable def J04 (K : PySem.W.Frag) (C : Addr) (f : Str) : Prop := PySem.W.findIn K (.ref C) f = some none
theorem J04.taker {K : PySem.W.Frag} {C : Addr} {f : Str} (n : J04 K C f) : PySem.W.takerIn K C f = some none := by
 unfold PySem.W.takerIn
 rw [show PySem.W.findIn K (.ref C) f = some none from n]
 rfl
structure Meth (K : PySem.W.Frag) (C : Addr) (m : Str) (f : Addr) : Prop where
 at_ : PySem.W.findIn K (.ref C) m = some (some (.ref f))
 fn : PySem.W.isFn K (.ref f) = true
 kp : PySem.W.keepIn K (.ref f) = true
section
variable {X : Cx} {pins : List (Addr × Obj)} {σ : St} {H : Hp} {s : Shared} {a C dx : Addr} {fs : List (Str × V)} {f : Str} {v : V} {A : Around} {E : Value → Shared → Prop}
theorem JaH {b : Bool} {Q : Value → Shared → Prop} (I : Inv X pins σ H s) (e : H a = some (.ins C dx fs)) (c : Cls X.K C) (n : J04 X.K C f) (l : fs.lookup f = some v)
  (h : ∀ u s',Inv X pins σ H s' → RelV v u → Q u s') : wpAny (model X.prog X.w) A (getAttr (.ref a) f b) Q E s := by
 obtain ⟨mA,O,r,_,_,_⟩ := J8P I.hok e
 obtain ⟨u,hu,ru⟩ := RelO.some_of (v := v) (o := mA f) (by rw [← l]; exact r f)
 exact Jep I.kIn O (c.get f) c.hd n hu (Jca ru) (h u _ (I.tok _) ru)
theorem J75 {m : Str} {g : Addr} {pl : Sem Bool} {Q : Value × List Value → Shared → Prop} (I : Inv X pins σ H s) (e : H a = some (.ins C dx fs)) (c : Cls X.K C) (k : Meth X.K C m g) (l : fs.lookup m = none)
  (h : Q (.ref g,[.ref a]) s) : wpAny (model X.prog X.w) A (getMethod (.ref a) m pl) Q E s := by
 obtain ⟨mA,O,r,_,_,_⟩ := J8P I.hok e
 have hn : mA m = none := RelO.none_of (by rw [← l]; exact r m)
 exact JcU I.kIn O (c.get m) k.at_ k.fn hn h
theorem JaG {y : V} {u : Value} {Q : Unit → Shared → Prop} (I : Inv X pins σ H s) (e : H a = some (.ins C dx fs)) (c : Cls X.K C) (n : J04 X.K C f) (hl : fs.length < 1000) (ry : RelV y u)
  (h : ∀ s',Inv X pins σ (upd H a (.ins C dx (putF f y fs))) s' → Q () s') : wpAny (model X.prog X.w) A (setAttr (.ref a) f u) Q E s := by
 obtain ⟨mA,O,r,wi,_,ho⟩ := J8P I.hok e
 have hz : (fs.map (·.1)).length ≤ sizeLine := by rw [List.length_map,sizeLine_eq]; omega
 refine JdX I.kIn O c.sa c.po n.taker c.hd wi hz fun h' O' sb => h _ ?_
 have hd : ∃ o,h'.get? dx = some o := let ⟨o,_,_,e',_⟩ := O'.ns; ⟨o,e'⟩
 refine I.write (x := a) (e := dx) (by rw [e]; exact True.intro) (.inr ho) (fun b q hb z => (sb.2 b hb).trans z) hd ?_
 refine ⟨by rw [Jg O.ne]; exact ho,?_,O.ne,O'.obj,_,O'.ns,fun g => ?_,fun g hg => ?_⟩
 ·have := J2i f y fs; omega
 ·show RelO ((putF f y fs).lookup g) (if g = f then some u else mA g)
  rw [J5X]
  by_cases q : g = f
  ·rw [if_pos q,if_pos q]; exact ry
  ·rw [if_neg q,if_neg q]; exact r g
 ·by_cases q : g = f
  ·rw [q]; exact (J5y f y fs).1
  ·refine (J5y f y fs).2 g (wi g fun z => hg ?_)
   show (if g = f then some u else mA g) = none
   rw [if_neg q]; exact z
theorem Inv.made (I : Inv X pins σ H s) : Inv X pins σ (upd (upd H s.heap.objs.size (.own (s.heap.objs.size + 1))) (s.heap.objs.size + 1) (.ins C s.heap.objs.size []))
  {s with heap := (s.heap.push PySem.W.emptyDict).push (PySem.W.instObj C s.heap.objs.size) } := by
 have e1 : (s.heap.push PySem.W.emptyDict).get? s.heap.objs.size = some PySem.W.emptyDict := Heap.get?_push_size s.heap rfl
 have e2 : ((s.heap.push PySem.W.emptyDict).push (PySem.W.instObj C s.heap.objs.size)).get? (s.heap.objs.size + 1) = some (PySem.W.instObj C s.heap.objs.size) := by
  have := Heap.get?_push_size (s.heap.push PySem.W.emptyDict) (o := PySem.W.instObj C s.heap.objs.size) rfl
  rwa [Heap.size_push] at this
 have e3 : (s.heap.push PySem.W.emptyDict).Ns s.heap.objs.size (fun _ => none) := ⟨PySem.W.emptyDict,#[],_,e1,rfl,(fun e he => absurd he (by simp)),fun _ => rfl⟩
 have I1 := I.laid (a := s.heap.objs.size) (o := .own (s.heap.objs.size + 1)) (h' := s.heap.push PySem.W.emptyDict) (t' := s.toks) (fun b u q => Heap.get?_push_of_some _ q) (Nat.le_refl _) ⟨_,e1⟩
 refine I1.laid (a := s.heap.objs.size + 1) (o := .ins C s.heap.objs.size []) (t' := s.toks) (fun b u q => Heap.get?_push_of_some _ q) (Nat.le_of_eq (Heap.size_push _ _)) ?_
 have ne : s.heap.objs.size ≠ s.heap.objs.size + 1 := Nat.ne_of_lt (Nat.lt_succ_self _)
 refine ⟨by rw [Jg ne,J7],Nat.zero_le _,ne,e2,fun _ => none,(Heap.Ns1.of_empty e3).at fun o q => Heap.get?_push_of_some _ q,fun _ => True.intro,fun y hy => absurd rfl hy⟩
theorem Je1 {prog : Program} {w : World} {env : Env} {e : Expr} {f : Str} {pos : Pos} {s : Shared} {Q : Value → Shared → Prop} (hb : attributeBase e f env (eval e env) = eval e env)
  (h : wpAny (model prog w) A (eval e env) (fun o s₁ => wpAny (model prog w) A (getAttr o f true) Q E s₁) E s) : wpAny (model prog w) A (eval (.Attribute e f pos) env) Q E s :=
 Attribute_any_ h (by rw [arm_eval_Attribute,hb])
end
noncomputable def tFld (K : PySem.W.Frag) (ta : TE) (f : Str) : TE := fun σ H Q => ta σ H fun x H1 => ∃ a C dx fs v,x = .ref a ∧ H1 a = some (.ins C dx fs) ∧ Cls K C ∧ J04 K C f ∧ fs.lookup f = some v ∧ Q v H1
noncomputable def sFld (K : PySem.W.Frag) (ta tv : TE) (f : Str) : TS := fun D σ H => tv σ H fun y H1 => ta σ H1 fun x H2 => ∃ a C dx fs,x = .ref a ∧ H2 a = some (.ins C dx fs) ∧ Cls K C ∧ J04 K C f ∧ fs.length < 1000 ∧
 D.nx σ (upd H2 a (.ins C dx (putF f y fs)))
section
variable {X : Cx} {o e value : Expr} {f : Str} {pos pos' tpos : Pos} {ta tv : TE}
theorem Jfq (he : PE X e ta) (hb : attributeBase e f X.env (eval e X.env) = eval e X.env) : PE X (.Attribute e f pos) (tFld X.K ta f) := by
 intro pins s σ H Q I h
 refine Je1 hb (thn (he pins s σ H _ I h) fun u s1 ⟨x,H1,I1,rx,a,C,dx,fs,v,ex,ea,c,n,l,q⟩ => ?_)
 subst ex
 obtain rfl : u = Value.ref a := rx
 exact JaH I1 ea c n l fun u' s2 I2 ru => ⟨v,H1,I2,ru,q⟩
theorem J0q (ha : PE X o ta) (hv : PE X value tv) (hs : swapsWith value (some (.Attribute o f pos')) pos.line X.env = pure false) : PS X (.Assign [.Attribute o f pos'] value pos) (sFld X.K ta tv f) := by
 intro pins s σ H D I h
 refine plainObj_wpAny_Assign_Attribute (thn (hv pins s σ H _ I h) fun u s1 ⟨y,H1,I1,ry,q⟩ => thn (ha pins s1 σ H1 _ I1 q) fun ov s2 ⟨x,H2,I2,rx,a,C,dx,fs,ex,ea,c,n,l,q2⟩ => ?_) hs
 subst ex
 obtain rfl : ov = Value.ref a := rx
 exact JaG I2 ea c n l ry fun s3 I3 => ⟨σ,_,I3,q2⟩
end
section
variable {X : Cx} {pins : List (Addr × Obj)} {σ : St} {H : Hp} {s : Shared} {A : Around} {E : Value → Shared → Prop} {Q : Value → Shared → Prop} {c : Value} {b : Bool}
end
end L2
namespace L2
open PySem PySem.Spec PyProof.Rows
structure Room (k : Nat) (A : Around) : Prop where
 hd : A.handled = none
 dp : A.depth + 3 * k + 5 < recursionLimit
 un : A.units + 16 * k + 200 < cLine
theorem Room.mono {j k : Nat} {A : Around} (r : Room k A) (h : j ≤ k) : Room j A := ⟨r.hd,by have := r.dp; omega,by have := r.un; omega⟩
theorem Room.deeper {k : Nat} {A : Around} (r : Room (k + 1) A) (env : Env) : Room k (A.deeper env) :=
 ⟨r.hd,by have := r.dp; show A.depth + 1 + 3 * k + 5 < _; omega,by have := r.un; show A.units + 3 + 16 * k + 200 < _; omega⟩
theorem Jaz {A : Around} {C : Addr} {us : List Value} {kw : List (Str × Value)} : (A.under (.builtin "type.__call__" ⟨.ref C :: us,kw⟩)).depth = A.depth + 1 := by
 first | rfl | simp [Around.under,Code.weight,Code.isCreation,Code.isGuard,Code.isCaller,Code.frames,Code.isFrame,guardIds]
theorem JaS {A : Around} {C : Addr} {us : List Value} {kw : List (Str × Value)} : (A.under (.builtin "type.__call__" ⟨.ref C :: us,kw⟩)).units = A.units + 1 := by
 first | rfl | simp [Around.under,Code.cUnits,Code.frames,Code.isFrame]
theorem Room.make {k : Nat} {A : Around} (r : Room (k + 1) A) (C : Addr) (us : List Value) (kw : List (Str × Value)) : Room k (A.under (.builtin "type.__call__" ⟨.ref C :: us,kw⟩)) :=
 ⟨r.hd,by have := r.dp; rw [Jaz]; omega,by have := r.un; rw [JaS]; omega⟩
theorem Room.depth {k : Nat} {A : Around} (r : Room k A) : A.depth < recursionLimit := by have := r.dp; omega
theorem Room.units {k : Nat} {A : Around} (r : Room k A) : A.units + 64 < cLine := by have := r.un; omega
theorem Room.units0 {k : Nat} {A : Around} (r : Room k A) : A.units < cLine := by have := r.un; omega
noncomputable def tNil : TA := fun _ H Q => Q [] H
noncomputable def JfY (ta : TE) (tr : TA) : TA := fun σ H Q => ta σ H fun x H1 => tr σ H1 fun xs H2 => Q (x :: xs) H2
section
variable {X : Cx} {e : Expr} {es : List Expr} {te : TE} {t : TA} {pos : Pos}
theorem J1 : PA X [] tNil := fun _ _ _ _ H Q I h => Calls.spliced_nil ⟨[],H,I,.nil,h⟩
theorem J0 (ha : PE X e te) (hr : PA X es t) (hs : starEach (e :: es) X.env = (false,eval e X.env) :: starEach es X.env := by rfl) : PA X (e :: es) (JfY te t) := by
 intro pos pins s σ H Q I h
 rw [hs]
 show wpAny _ _ (spliced ((false,eval e X.env) :: backTo pos (starEach es X.env))) _ _ s
 refine Calls.spliced_cons (thn (ha pins s σ H _ I h) fun u s1 ⟨x,H1,I1,r1,q1⟩ => ?_)
 exact thn (hr pos pins s1 σ H1 _ I1 q1) fun us s2 ⟨xs,H2,I2,r2,q2⟩ => ⟨x :: xs,H2,I2,.cons r1 r2,q2⟩
noncomputable def tTup (t : TA) : TE := fun σ H Q => t σ H fun xs H1 => xs.length ≤ sizeLine ∧ ∀ p,H1 p = none → Q (.ref p) (upd H1 p (.tup xs))
noncomputable def tLst (t : TA) : TE := fun σ H Q => t σ H fun xs H1 => xs.length ≤ sizeLine ∧ ∀ p,H1 p = none → Q (.ref p) (upd H1 p (.lst xs))
theorem JS {x1} (h : PA X es t) : PE X (.Tuple es x1 pos) (tTup t) := by
 intro pins s σ H Q I hq
 refine wpAny_Tuple_spliced (thn (h pos pins s σ H _ I hq) fun us s1 ⟨xs,H1,I1,r,z,q⟩ => ⟨by rw [← r.length]; exact z,?_⟩)
 have hf : H1 s1.heap.objs.size = none := I1.hok.fresh (Nat.le_refl _)
 refine ⟨.ref s1.heap.objs.size,upd H1 s1.heap.objs.size (.tup xs),I1.laid (t' := s1.toks) (fun b u e => Heap.get?_push_of_some _ e) (Nat.le_refl _) ?_,rfl,q _ hf⟩
 exact ⟨z,us,r,⟨_,Heap.get?_push_size _ rfl,rfl,_,rfl⟩⟩
theorem J0b (h : PA X es t) : PE X (.List es pos) (tLst t) := by
 intro pins s σ H Q I hq
 refine wpAny_List_spliced (thn (h pos pins s σ H _ I hq) fun us s1 ⟨xs,H1,I1,r,z,q⟩ => ⟨by rw [← r.length]; exact z,?_⟩)
 have hf : H1 s1.heap.objs.size = none := I1.hok.fresh (Nat.le_refl _)
 refine ⟨.ref s1.heap.objs.size,upd H1 s1.heap.objs.size (.lst xs),I1.laid (t' := s1.toks) (fun b u e => Heap.get?_push_of_some _ e) (Nat.le_refl _) ?_,rfl,q _ hf⟩
 exact ⟨z,us,0,r,Heap.get?_push_size _ rfl⟩
end
noncomputable abbrev Sp := List V → Hp → VK → XK → Prop
noncomputable abbrev CXT := List Env → Hp → Shared → XK → Value → Shared → Prop
structure Env0 (P : Program) (w : World) (K : PySem.W.Frag) (mg : Str → Option Value) (base : Heap) (A : Around) (outer : List Env) (s : Shared) (H : Hp) : Prop where
 frames : A.frames = some outer
 mod : Mod K mg base
 bs : ∀ b o,base.get? b = some o → s.heap.get? b = some o ∧ H b = none
 bsz : base.objs.size ≤ s.heap.objs.size
 funs : s.heap.FunFrames base outer
 frf : ∀ b ∈ frs outer,H b = none
 hok : HOk P w H s.heap
 bare : AllBare s.gens
noncomputable def CE (outer : List Env) (P : Program) (w : World) (H : Hp) (s : Shared) (Q : VK) (u : Value) (s' : Shared) : Prop :=
 ∃ v H',s'.os = s.os ∧ AllBare s'.gens ∧ Un (frs outer) [] H H' s.heap s'.heap ∧ HOk P w H' s'.heap ∧ RelV v u ∧ Q v H'
noncomputable def CR (CX : CXT) (outer : List Env) (P : Program) (w : World) (H : Hp) (s : Shared) (Q : VK) (E : XK) (r : Result) (s' : Shared) : Prop :=
 match r with
 | .ok (.ret u) => CE outer P w H s Q u s'
 | .ok _ => False
 | .error e => CX outer H s E e s'
structure FnOk (P : Program) (w : World) (K : PySem.W.Frag) (mg : Str → Option Value) (base : Heap) (CX : CXT) (k : Nat) (f : Addr) (fd : FuncData) (ps : List Str) (sp : Sp) : Prop where
 len : ∀ vs H Q E,sp vs H Q E → vs.length = ps.length
 run : ∀ (A : Around) (outer : List Env) (s : Shared) (H : Hp) (args : Args) (us : List Value) (vs : List V) (Q : VK) (E : XK),Room k A → Env0 P w K mg base A outer s H → BindsTo s fd args (ps.zip us) → Vals vs us → sp vs H Q E →
  codeAny (model P w) A (.call (.ref f) args) (CR CX outer P w H s Q E) s
theorem FnOk.mono {P : Program} {w : World} {K : PySem.W.Frag} {mg : Str → Option Value} {base : Heap} {CX : CXT} {j k : Nat} {f : Addr} {fd : FuncData} {ps : List Str} {sp : Sp} (F : FnOk P w K mg base CX j f fd ps sp) (h : j ≤ k) :
  FnOk P w K mg base CX k f fd ps sp := ⟨F.len,fun A outer s H args us vs Q E hr => F.run A outer s H args us vs Q E (hr.mono h)⟩
theorem FnOk.imp {P : Program} {w : World} {K : PySem.W.Frag} {mg : Str → Option Value} {base : Heap} {CX : CXT} {k : Nat} {f : Addr} {fd : FuncData} {ps : List Str} {sp sp' : Sp} (F : FnOk P w K mg base CX k f fd ps sp)
  (h : ∀ vs H Q E,sp' vs H Q E → sp vs H Q E) : FnOk P w K mg base CX k f fd ps sp' :=
 ⟨fun vs H Q E q => F.len vs H Q E (h _ _ _ _ q),fun A outer s H args us vs Q E hr he hb hv hs => F.run A outer s H args us vs Q E hr he hb hv (h _ _ _ _ hs)⟩
theorem Env0.make {P : Program} {w : World} {K : PySem.W.Frag} {mg : Str → Option Value} {base : Heap} {A : Around} {outer : List Env} {s : Shared} {H : Hp} (e : Env0 P w K mg base A outer s H) (C : Addr) (us : List Value) (kw : List (Str × Value)) :
  Env0 P w K mg base (A.under (.builtin "type.__call__" ⟨.ref C :: us,kw⟩)) outer s H := ⟨by first | exact e.frames | (simpa [Around.under,Code.envs,Code.isFrame,pushEnvs] using e.frames),e.mod,e.bs,e.bsz,e.funs,e.frf,e.hok,e.bare⟩
section
variable {X : Cx} {pins : List (Addr × Obj)} {σ : St} {H : Hp} {s s' : Shared}
theorem Inv.env0 (I : Inv X pins σ H s) : Env0 X.prog X.w X.K X.mg X.base X.A X.stack s H :=
 ⟨I.ok.frames,I.ok.mod,I.bs,Nat.le_trans I.ok.bsz I.sz,I.stack,I.stkFree,I.hok,I.bare⟩
theorem Inv.after {Q : VK} {u : Value} (I : Inv X pins σ H s) (h : CE X.stack X.prog X.w H s Q u s') : EP X pins σ Q u s' := by
 obtain ⟨v,H',os,bare,un,hok,r,q⟩ := h
 obtain ⟨hh,g,d,t,os'⟩ := s'
 obtain rfl : os' = s.os := os
 exact ⟨v,H',I.call (h' := hh) (g' := g) (d' := d) (t' := t) (ch := []) un hok bare (fun b z => absurd z (by simp)),r,q⟩
end
noncomputable def Jev (sp : Sp) (dvs : List V) (E : XK) (t : TA) : TE := fun σ H Q => t σ H fun vs H1 => sp (vs ++ dvs) H1 Q E
noncomputable def JeE (C : Addr) (m : Str) (sp : Sp) (dvs : List V) (E : XK) (ta : TE) (t : TA) : TE := fun σ H Q => ta σ H fun x H1 => ∃ a dx fs,x = .ref a ∧ H1 a = some (.ins C dx fs) ∧ fs.lookup m = none ∧
 t σ H1 fun vs H2 => sp (x :: (vs ++ dvs)) H2 Q E
noncomputable def J4h (K : PySem.W.Frag) (fd : FuncData) (ps : List Str) (ds : List Value) : Prop :=
 ∀ (s : Shared) (us : List Value),K.In s.heap → (us ++ ds).length = ps.length → BindsTo s fd ⟨us,[]⟩ (ps.zip (us ++ ds))
theorem J4h.all {K : PySem.W.Frag} {fd : FuncData} {ps : List Str} (h : ∀ us : List Value,us.length = ps.length → bindArgs fd ⟨us,[]⟩ = pure (ps.zip us)) : J4h K fd ps [] := fun s us _ hl => by
 rw [List.append_nil] at hl ⊢
 exact .of_eq (h us hl)
noncomputable def J72 (CX : CXT) (X : Cx) (E : XK) : Prop := ∀ (pins : List (Addr × Obj)) (σ : St) (H : Hp) (s : Shared) (e : Value) (s' : Shared),Inv X pins σ H s → CX X.stack H s E e s' → X.xe e s'
section
variable {X : Cx} {CX : CXT} {k : Nat} {f C : Addr} {fd : FuncData} {ps : List Str} {sp : Sp} {dvs : List V} {ds : List Value} {E : XK} {x m : Str} {p pos apos : Pos} {e o : Expr} {es : List Expr} {ta : TE} {t : TA}
theorem JaB {pins : List (Addr × Obj)} {σ : St} {H : Hp} {s : Shared} {Q : VK} {us : List Value} {vs : List V} (F : FnOk X.prog X.w X.K X.mg X.base CX k f fd ps sp) (hr : Room k X.A) (hb : J4h X.K fd ps ds) (hd : Vals dvs ds) (hx : J72 CX X E)
  (I : Inv X pins σ H s) (r : Vals vs us) (h : sp (vs ++ dvs) H Q E) : wpAny (model X.prog X.w) X.A (call (.ref f) us) (EP X pins σ Q) X.xe s := by
 have r2 : Vals (vs ++ dvs) (us ++ ds) := r.append hd
 have hl : (us ++ ds).length = ps.length := by rw [← r2.length]; exact F.len _ _ _ _ h
 refine wpAny_call (codeAny_mono (F.run X.A X.stack s H ⟨us,[]⟩ (us ++ ds) (vs ++ dvs) Q E hr I.env0 (hb s us I.kIn hl) r2 h) fun r s' hq => ?_)
 cases r with
 | error e => exact hx pins σ H s e s' I hq
 | ok fl =>
  cases fl with
  | ret u => exact I.after hq
  | next => exact False.elim hq
  | brk => exact False.elim hq
  | cont => exact False.elim hq
theorem Jer (F : FnOk X.prog X.w X.K X.mg X.base CX k f fd ps sp) (hr : Room k X.A) (hg : Gl X x) (hm : X.mg x = some (.ref f)) (hk : PySem.W.keepIn X.K (.ref f) = true) (hb : J4h X.K fd ps ds) (hd : Vals dvs ds) (hx : J72 CX X E)
  (ha : PA X (e :: es) t) (hdb : (x == ("__debug__" : Str)) = false := by decide) (he : starEach (e :: es) X.env = (false,eval e X.env) :: starEach es X.env := by rfl) (hpl : (backTo pos (starEach es X.env)).any (·.1) = false := by rfl) :
  PE X (.Call (.Name x p) (e :: es) [] pos) (Jev sp dvs E t) := by
 intro pins s σ H Q I h
 refine wpAny_Call_Name_kw (J8G I hg hm ?_ hdb)
 refine PySem.W.callWith_K (h₀ := X.base) I.ok.mod.kin hk (thn (ha pos pins s σ H _ I h) fun us s1 ⟨vs,H1,I1,r,q⟩ => ⟨I1.kIn,?_⟩) he hpl
 exact JaB F hr hb hd hx I1 r q
theorem JdZ {pl : Sem Bool} (he : PE X o ta) (c : Cls X.K C) (hm : Meth X.K C m f) (F : FnOk X.prog X.w X.K X.mg X.base CX k f fd ps sp) (hr : Room k X.A) (hb : J4h X.K fd ps ds) (hd : Vals dvs ds) (hx : J72 CX X E) (ha : PA X (e :: es) t)
  (hst : starEach (e :: es) X.env = (false,eval e X.env) :: starEach es X.env := by rfl) (hpl : (backTo pos (starEach es X.env)).any (·.1) = false := by rfl)
  (ht : eval (.Call (.Attribute o m apos) (e :: es) [] pos) X.env = (do
   let ov ← eval o X.env
   standAt apos.atName
   let (f,first) ← holding [ov] (getMethod ov m pl)
   callWith pos f first (backTo pos (starEach (e :: es) X.env)) (backToKw pos (keywordEach [] X.env))) := by rfl) :
  PE X (.Call (.Attribute o m apos) (e :: es) [] pos) (JeE C m sp dvs E ta t) := by
 intro pins s σ H Q I h
 refine PySem.W.methodCall_KW (pl := pl) (thn (he pins s σ H _ I h) fun u s1 ⟨x,H1,I1,rx,a,dx,fs,ex,ea,l,q⟩ => ?_) ht
 subst ex
 obtain rfl : u = Value.ref a := rx
 refine J75 I1 ea c hm l ?_
 refine PySem.W.callWith_K (first := [.ref a]) (h₀ := X.base) I.ok.mod.kin hm.kp (thn (ha pos pins s1 σ H1 _ I1 q) fun us s2 ⟨vs,H2,I2,r,q2⟩ => ⟨I2.kIn,?_⟩) hst hpl
 exact JaB (us := .ref a :: us) (vs := .ref a :: vs) F hr hb hd hx I2 (.cons rfl r) q2
structure Mk (K : PySem.W.Frag) (C f : Addr) : Prop where
 makes : PySem.W.makesIn K C = true
 init : PySem.W.findIn K (.ref C) "__init__" = some (some (.ref f))
 fn : PySem.W.isFn K (.ref f) = true
 kp : PySem.W.keepIn K (.ref C) = true
theorem Jdk {pins : List (Addr × Obj)} {σ : St} {H : Hp} {s : Shared} {Q : VK} {us : List Value} {vs : List V} (M : Mk X.K C f) (F : FnOk X.prog X.w X.K X.mg X.base CX k f fd ps sp) (hr : Room (k + 1) X.A) (hb : J4h X.K fd ps ds) (hd : Vals dvs ds)
  (hx : J72 CX X E) (I : Inv X pins σ H s) (r : Vals vs us)
  (h : ∀ x dx,H x = none → H dx = none → dx ≠ x → sp (.ref x :: (vs ++ dvs)) (upd (upd H dx (.own x)) x (.ins C dx [])) (fun v H2 => v = .non ∧ Q (.ref x) H2) E) :
  wpAny (model X.prog X.w) X.A (call (.ref C) us) (EP X pins σ Q) X.xe s := by
 have hq := h (s.heap.objs.size + 1) s.heap.objs.size (I.hok.fresh (Nat.le_succ _)) (I.hok.fresh (Nat.le_refl _)) (Nat.ne_of_lt (Nat.lt_succ_self _))
 have I2 := Inv.made (C := C) I
 have r2 : Vals (V.ref (s.heap.objs.size + 1) :: (vs ++ dvs)) (Value.ref (s.heap.objs.size + 1) :: (us ++ ds)) := .cons rfl (r.append hd)
 have hl : (Value.ref (s.heap.objs.size + 1) :: us ++ ds).length = ps.length := by
  have e := r2.length
  rw [F.len _ _ _ _ hq] at e
  exact e.symm
 refine wpAny_call (JcQ (f := f) I.kIn M.makes M.init (beq_iff_eq.mp M.fn) (codeAny_mono (F.run _ X.stack _ _ ⟨Value.ref (s.heap.objs.size + 1) :: us,[]⟩ (Value.ref (s.heap.objs.size + 1) :: (us ++ ds)) _ _ E (hr.make C us [])
  (I2.env0.make C us []) (hb _ (Value.ref (s.heap.objs.size + 1) :: us) I2.kIn hl) r2 hq) fun r s' hq' => ?_))
 cases r with
 | error e => exact hx pins σ _ _ e s' I2 hq'
 | ok fl =>
  cases fl with
  | ret u =>
   obtain ⟨v,H',I3,rv,ev,q3⟩ := I2.after hq'
   subst ev
   exact ⟨rv,⟨V.ref (s.heap.objs.size + 1),H',I3,rfl,q3⟩⟩
  | next => exact False.elim hq'
  | brk => exact False.elim hq'
  | cont => exact False.elim hq'
end
section
variable {X : Cx} {CX : CXT} {k : Nat} {f C : Addr} {fd : FuncData} {ps ks : List Str} {sp : Sp} {E : XK} {x m : Str} {p pos apos kpos : Pos} {e o : Expr} {es : List Expr} {kws : List Keyword} {te ta : TE} {t tk : TA} {nm : Option Str}
variable {g : List Value → List Value → List Value} {gV : List V → List V → List V}
end
structure Jr (N P : List Str) (sc : Scope) : Prop where
 kind : sc.kind = .function
 co : sc.isCoroutine = false
 gen : sc.isGenerator = false
 nd : N.Nodup
 pre : N.take P.length = P
 par : ∀ x ∈ P,sc.names.lookup x = some .local ∨ sc.names.lookup x = some .cell
 nofree : ∀ y ∈ sc.names,y.2 ≠ .free
theorem J7M {kindOf : Str → Option NameKind} {x : Str} : ∀ {binds : List (Str × Value)} {m : Str → Option Value},(∀ v,(x,v) ∉ binds) → bindL kindOf binds m x = m x
 | [],_,_ => rfl
 | (n,v) :: r,m,h => by
  unfold bindL
  rw [J7M fun w hw => h w (List.mem_cons_of_mem _ hw)]
  split
  ·have : x ≠ n := by rintro rfl; exact h v List.mem_cons_self
   simp [this]
  ·rfl
theorem J7D {kindOf : Str → Option NameKind} {x : Str} : ∀ {binds : List (Str × Value)} {m : Str → Option Value},(∀ v,(x,v) ∉ binds) → bindC kindOf binds m x = m x
 | [],_,_ => rfl
 | (n,v) :: r,m,h => by
  unfold bindC
  rw [J7D fun w hw => h w (List.mem_cons_of_mem _ hw)]
  split
  ·rfl
  ·have : x ≠ n := by rintro rfl; exact h v List.mem_cons_self
   simp [this]
theorem J7C {kindOf : Str → Option NameKind} {x : Str} {v : Value} : ∀ {P : List Str} {vs : List Value} {i : Nat} {m : Str → Option Value},P.Nodup → P[i]? = some x → vs[i]? = some v → kindOf x = some .local →
  bindL kindOf (P.zip vs) m x = some v
 | [],_,_,_,_,h,_,_ => by simp at h
 | _ :: _,[],_,_,_,_,h,_ => by simp at h
 | p :: P,w :: vs,0,m,nd,h1,h2,hk => by
  simp at h1 h2; subst h1; subst h2
  show bindL kindOf ((p,w) :: P.zip vs) m p = _
  unfold bindL
  rw [J7M fun v hv => (List.nodup_cons.mp nd).1 (List.of_mem_zip hv).1,if_pos hk]
  simp
 | p :: P,w :: vs,i + 1,m,nd,h1,h2,hk => by
  show bindL kindOf ((p,w) :: P.zip vs) m x = _
  unfold bindL
  exact J7C (i := i) (List.nodup_cons.mp nd).2 (by simpa using h1) (by simpa using h2) hk
theorem J7I {kindOf : Str → Option NameKind} {x : Str} {v : Value} : ∀ {P : List Str} {vs : List Value} {i : Nat} {m : Str → Option Value},P.Nodup → P[i]? = some x → vs[i]? = some v → kindOf x ≠ some .local →
  bindC kindOf (P.zip vs) m x = some v
 | [],_,_,_,_,h,_,_ => by simp at h
 | _ :: _,[],_,_,_,_,h,_ => by simp at h
 | p :: P,w :: vs,0,m,nd,h1,h2,hk => by
  simp at h1 h2; subst h1; subst h2
  show bindC kindOf ((p,w) :: P.zip vs) m p = _
  unfold bindC
  rw [J7D fun v hv => (List.nodup_cons.mp nd).1 (List.of_mem_zip hv).1,if_neg hk]
  simp
 | p :: P,w :: vs,i + 1,m,nd,h1,h2,hk => by
  show bindC kindOf ((p,w) :: P.zip vs) m x = _
  unfold bindC
  exact J7I (i := i) (List.nodup_cons.mp nd).2 (by simpa using h1) (by simpa using h2) hk
noncomputable def start (N : List Str) (vs : List V) : St := vs.map some ++ List.replicate (N.length - vs.length) none
noncomputable def cxOf (CX : CXT) (P : Program) (w : World) (K : PySem.W.Frag) (mg : Str → Option Value) (base : Heap) (N : List Str) (qual : Str) (scope : Scope) (f : Addr) (cd : Value) (A : Around) (outer : List Env) (s : Shared) (H : Hp) (E : XK) : Cx where
 prog := P
 w := w
 K := K
 mg := mg
 base := base
 A := A.deeper (envOfC qual scope s.heap.objs.size f cd)
 N := N
 s₀ := s
 H₀ := H
 env := envOfC qual scope s.heap.objs.size f cd
 outer := outer
 stack := envOfC qual scope s.heap.objs.size f cd :: outer
 ex := []
 calm := true
 fn := fun _ => true
 pn := []
 xe := fun e s' => wpAny (model P w) (A.deeper (envOfC qual scope s.heap.objs.size f cd)) (leaving (envOfC qual scope s.heap.objs.size f cd) e) (fun _ s'' => CX outer H s E e s'') (fun e' s'' => CX outer H s E e' s'') s'
theorem J9M {sc : Scope} {n : Nat} {x : Str} (h : sc.names.lookup x = some .cell) : ∃ c,(cellsFrom n sc.names []).lookup x = some c := by
 have q := PySem.W.cellsFrom_some sc.names n [] (.inl h)
 exact Option.isSome_iff_exists.mp q
theorem Jc0 {CX : CXT} {P : Program} {w : World} {K : PySem.W.Frag} {mg : Str → Option Value} {base : Heap} {N ps : List Str} {qual : Str} {scope : Scope} {f : Addr} {cd : Value} {A : Around} {outer : List Env} {s s1 : Shared} {H : Hp} {E : XK} {us : List Value} {vs : List V}
  (S : Jr N ps scope) (hd : A.handled = none) (e0 : Env0 P w K mg base A outer s H) (hl : vs.length = ps.length) (r : Vals vs us)
  (x : InCallC s s.heap.objs.size (bindL (envOfC qual scope s.heap.objs.size f cd).kindOf (ps.zip us) fun _ => none) (cellsFrom (s.heap.objs.size + 1) scope.names []) (bindC (envOfC qual scope s.heap.objs.size f cd).kindOf (ps.zip us) fun _ => none) s1) :
  Inv (cxOf CX P w K mg base N qual scope f cd A outer s H E) [] (start N vs) H s1 := by
 have hpl : ps.length ≤ N.length := by have := congrArg List.length S.pre; rw [List.length_take] at this; omega
 obtain ⟨h1,tk,rfl,hk⟩ := x.done
 have noA : ∀ b : Addr,b ∉ (cxOf CX P w K mg base N qual scope f cd A outer s H E).ex := fun b z => absurd (show b ∈ ([] : List Addr) from z) (by simp)
 refine ⟨⟨e0.mod,S.kind,rfl,rfl,Nat.le_refl _,fun y z c h1 h2 => ?_,fun y hy => ?_,fun y c _ h => ?_,fun _ => hd,Around.frames_deeper e0.frames,.inr ⟨rfl,rfl⟩,fun b z => absurd z (noA b),e0.bs,e0.bsz,fun b _ _ => noA b,fun b z => absurd z (noA b),e0.funs,e0.frf⟩,
  rfl,e0.bare,Un.kept hk,⟨_,x.toInCall.ns,fun i y v h1 h2 h3 => ?_⟩,fun y c h => ⟨_,x.cell y c h⟩,e0.hok.fresh (Nat.le_refl _),fun y c h => ?_,fun p hp => absurd (show p ∈ ([] : List (Addr × Obj)) from hp) (by simp),e0.hok.kept hk,?_⟩
 ·exact name_of_addr x.apart (PySem.mem_of_lookup h1) (PySem.mem_of_lookup h2)
 ·have hy : scope.names.lookup y = some .cell ∨ scope.names.lookup y = some .free := hy
  rcases hy with hy | hy
  ·exact J9M hy
  ·exact absurd rfl (S.nofree _ (PySem.mem_of_lookup hy))
 ·exact Nat.le_of_lt (x.above y c (PySem.mem_of_lookup h))
 ·have hi : i < vs.length := by
   unfold start at h2
   by_cases hi : i < vs.length
   ·exact hi
   ·rw [List.getElem?_append_right (by simpa using hi)] at h2
    rw [List.getElem?_replicate] at h2
    split at h2 <;> cases h2
  have ha : vs[i]? = some v := by
   unfold start at h2
   rw [List.getElem?_append_left (by simpa using hi),List.getElem?_map] at h2
   cases e : vs[i]? with
   | none => rw [e] at h2; cases h2
   | some a => rw [e] at h2; cases h2; rfl
  obtain ⟨u,hu,rv⟩ := r.get ha
  have hp : ps[i]? = some y := by
   rw [← S.pre,List.getElem?_take_of_lt (by omega)]; exact h1
  have ndP : ps.Nodup := by rw [← S.pre]; exact S.nd.sublist (List.take_sublist _ _)
  refine ⟨u,rv,?_⟩
  rcases S.par y (List.mem_of_getElem? hp) with k | k
  ·exact .inl ⟨k,J7C ndP hp hu k⟩
  ·obtain ⟨c,e⟩ := J9M (n := s.heap.objs.size + 1) k
   refine .inr ⟨.inl k,c,e,?_⟩
   have q := x.cell y c e
   rw [J7I ndP hp hu (by show scope.names.lookup y ≠ _; rw [k]; decide)] at q
   exact q
 ·exact e0.hok.fresh (Nat.le_of_lt (x.above y c (PySem.mem_of_lookup h)))
 ·unfold start
  show _ = N.length
  rw [List.length_append,List.length_map,List.length_replicate]
  omega
theorem Jg8 {CX : CXT} {P : Program} {w : World} {K : PySem.W.Frag} {mg : Str → Option Value} {base : Heap} {k : Nat} {f : Addr} {name qual : Str} {params : Arguments} {body : List Stmt} {scope : Scope} {dV kV doc pm cdv ct oc : Value} {an od : Option Addr}
  {osl : Array (Option Value)} {N ps : List Str} {sp : Sp} (lk : K.lookup f = some ⟨oc,od,.func (PySem.W.fnOf name qual params body scope dV kV doc pm an cdv ct),osl⟩) (hcd : PySem.W.codeIn K cdv qual = true) (S : Jr N ps scope)
  (len : ∀ vs H Q E,sp vs H Q E → vs.length = ps.length)
  (hbody : ∀ (A : Around) (outer : List Env) (s : Shared) (H : Hp) (vs : List V) (Q : VK) (E : XK),Room k (A.deeper (envOfC qual scope s.heap.objs.size f cdv)) → sp vs H Q E →
   ∃ t,PSs (cxOf CX P w K mg base N qual scope f cdv A outer s H E) body t ∧ t { nx := fun _ H' => Q .non H',rt := Q } (start N vs) H) :
  FnOk P w K mg base CX (k + 1) f (PySem.W.fnOf name qual params body scope dV kV doc pm an cdv ct) ps sp := by
 refine ⟨len,fun A outer s H args us vs Q E hr e0 hb r hsp => ?_⟩
 have hl := len _ _ _ _ hsp
 have KX : K.In s.heap := e0.mod.kin.keeps fun b o e => (e0.bs b o e).1
 have lim : s.heap.NoLimit := e0.mod.nolimit.keeps fun b o e => (e0.bs b o e).1
 have hkind : ∀ y ∈ ps.zip us,scope.names.lookup y.1 = some .local ∨ (scope.names.lookup y.1 = some .cell ∧ ((cellsFrom (s.heap.objs.size + 1) scope.names []).lookup y.1).isSome = true) := fun ⟨n,v⟩ hy => by
  rcases S.par n (List.of_mem_zip hy).1 with q | q
  ·exact .inl q
  ·exact .inr ⟨q,PySem.W.cellsFrom_some _ _ _ (.inl q)⟩
 refine codeAny_call_function hr.depth (KX _ _ lk) rfl S.co S.gen rfl (PySem.W.codeRec_of KX hcd) (hb _ _ _ _ ?_)
 refine wpAny_newFunctionEnv_cells S.kind hkind fun env he s1 x => ?_
 subst he
 refine ⟨lim.keeps x.toInCall.keep,codeAny_func ?_⟩
 obtain ⟨t,ht,hq⟩ := hbody A outer s H vs Q E (hr.deeper _) hsp
 have I : Inv (cxOf CX P w K mg base N qual scope f cdv A outer s H E) [] (start N vs) H s1 := Jc0 S hr.hd e0 hl r x
 refine wpAny_mono (ht [] s1 (start N vs) H _ I hq) (fun fl s' hs => ?_) fun e s' hs => hs
 have fin : ∀ {σ' : St} {H' : Hp} {v : V} {u : Value},Inv (cxOf CX P w K mg base N qual scope f cdv A outer s H E) [] σ' H' s' → RelV v u → Q v H' → CE outer P w H s Q u s' :=
  fun {σ' H' v u} J rv q => ⟨v,H',J.os,J.bare,J.base,J.hok,rv,q⟩
 cases fl with
 | ret u =>
  obtain ⟨v,σ',H',J,rv,q⟩ := hs
  exact fin J rv q
 | next =>
  obtain ⟨σ',H',J,q⟩ := hs
  exact fin (v := V.non) (u := Value.none) J rfl q
 | brk =>
  obtain ⟨_,_,_,q⟩ := hs
  exact False.elim q
 | cont =>
  obtain ⟨_,_,_,q⟩ := hs
  exact False.elim q
end L2
namespace L2
open PySem PySem.Spec PyProof.Rows
section
variable {X : Cx} {x : Str} {p pos : Pos} {e : Expr} {es : List Expr} {t : TA} {id T : String} {r : List V → Hp → VK → Prop}
noncomputable def tCB (r : List V → Hp → VK → Prop) (t : TA) : TE := fun σ H Q => t σ H fun vs H1 => r vs H1 Q
theorem Ju (hc : J1U X (.builtin id) r) (hg : Gl X x) (hm : X.mg x = none) (hv : bootBuiltins x = some (.builtin id)) (ha : PA X (e :: es) t) (hn : x ≠ "__name__" := by decide) (hdb : (x == ("__debug__" : Str)) = false := by decide)
  (he : starEach (e :: es) X.env = (false,eval e X.env) :: starEach es X.env := by rfl) (hpl : (backTo pos (starEach es X.env)).any (·.1) = false := by rfl) : PE X (.Call (.Name x p) (e :: es) [] pos) (tCB r t) := by
 intro pins s σ H Q I h
 refine wpAny_Call_Name_kw (J4q I hg hm hv ?_ hn hdb)
 exact PyProof.Rows.callWith_builtin1 (thn (ha pos pins s σ H _ I h) fun us s1 ⟨vs,H1,I1,r1,q1⟩ => hc pins s1 σ H1 vs us Q I1 r1 q1) he hpl
theorem J07 (hc : J1U X (.type T) r) (hg : Gl X x) (hm : X.mg x = none) (hv : bootBuiltins x = some (.type T)) (ha : PA X (e :: es) t) (hn : x ≠ "__name__" := by decide) (hdb : (x == ("__debug__" : Str)) = false := by decide)
  (he : starEach (e :: es) X.env = (false,eval e X.env) :: starEach es X.env := by rfl) (hpl : (backTo pos (starEach es X.env)).any (·.1) = false := by rfl) : PE X (.Call (.Name x p) (e :: es) [] pos) (tCB r t) := by
 intro pins s σ H Q I h
 refine wpAny_Call_Name_kw (J4q I hg hm hv ?_ hn hdb)
 exact PyProof.Rows.callWith_type1 (thn (ha pos pins s σ H _ I h) fun us s1 ⟨vs,H1,I1,r1,q1⟩ => hc pins s1 σ H1 vs us Q I1 r1 q1) he hpl
end
end L2
namespace HT
open PySem PyProof.Rows
section
open PySem.SeqAt
open PySem.AutoSeq1 (wpAny_loadPart')
open PySem.MeetsSeq PySem.MeetsSeq2 PySem.MeetsSeq3
end
section
variable {prog : Program} {w : World} {A : Around} {E : Value → Shared → Prop} {s : Shared}
noncomputable def sIx (n d : Nat) : Option Int → Nat
 | none => d
 | some v => if v < 0 then (v + (n : Int)).toNat else min v.toNat n
theorem sIx_none (n d : Nat) : sIx n d none = d := rfl
theorem sIx_le (n d : Nat) (hd : d ≤ n) (o : Option Int) : sIx n d o ≤ n := by
 cases o with
 | none => exact hd
 | some v =>
  show (if v < 0 then (v + (n : Int)).toNat else min v.toNat n) ≤ n
  by_cases hv : v < 0
  ·rw [if_pos hv]; omega
  ·rw [if_neg hv]; exact Nat.min_le_right _ _
theorem Jba (v : Int) (n d : Nat) : (if v < 0 then max (v + (n : Int)) 0 else min v (n : Int)) = ((sIx n d (some v) : Nat) : Int) := by
 show (if v < 0 then max (v + (n : Int)) 0 else min v (n : Int)) = (((if v < 0 then (v + (n : Int)).toNat else min v.toNat n) : Nat) : Int)
 by_cases hv : v < 0
 ·simp only [if_pos hv]; omega
 ·simp only [if_neg hv]; omega
theorem JaR (lo hi : Option Int) (n : Nat) : Builtin.Slice.sliceAdjust lo hi 1 (n : Int) = (((sIx n 0 lo : Nat) : Int),((sIx n n hi : Nat) : Int)) := by
 have h1 : ¬ ((1 : Int) < 0) := by omega
 unfold Builtin.Slice.sliceAdjust
 simp only [h1,if_false]
 refine Prod.ext ?_ ?_
 ·cases lo with
  | none => rfl
  | some v => exact Jba v n 0
 ·cases hi with
  | none => rfl
  | some v => exact Jba v n n
theorem Jax (i j : Nat) : Builtin.Slice.slicePlaces (i : Int) (j : Int) 1 = j - i := by
 unfold Builtin.Slice.slicePlaces
 have h1 : (1 : Int) > 0 := by omega
 simp only [h1,if_true,Int.ediv_one]
 split <;> omega
theorem J6Y {v : Value} {o : Option Int} {Q : Option Int → Shared → Prop} (p : IsPart v o) (h : Q o s) : wpAny (model prog w) A (Builtin.Slice.slicePartIndex v) Q E s := by
 cases p with
 | none => exact slicePart_none h
 | int i t => exact slicePart_int h
theorem J5u {sl : Addr} {vl vu : Value} {lo hi : Option Int} {n : Nat} {Q : Int × Int × Nat → Shared → Prop} (hs : s.heap.IsSliceOf sl vl vu .none) (pl : IsPart vl lo) (pu : IsPart vu hi)
  (h : Q (((sIx n 0 lo : Nat) : Int),1,sIx n n hi - sIx n 0 lo) s) : wpAny (model prog w) A (Builtin.Slice.sliceApplied (.ref sl) (pure (n : Int))) Q E s := by
 obtain ⟨os,hos,hcs,hds⟩ := id hs
 unfold Builtin.Slice.sliceApplied Builtin.Slice.sliceFields
 refine wpAny_bind (wpAny_bind (wpAny_field hos hds (x := vl) rfl (wpAny_bind (wpAny_field hos hds (x := vu) rfl (wpAny_bind (wpAny_field hos hds (x := .none) rfl (wpAny_pure ?_)))))))
 refine wpAny_bind (slicePart_none ?_)
 show wpAny _ _ (if ((1 : Int) == 0) = true then _ else _) _ _ s
 rw [if_neg (by decide)]
 refine wpAny_bind (J6Y pl (wpAny_bind (J6Y pu (wpAny_bind (wpAny_pure ?_)))))
 show wpAny _ _ (match Builtin.Slice.sliceAdjust lo hi 1 (n : Int) with | (lo,hi) => pure (lo,(1 : Int),Builtin.Slice.slicePlaces lo hi 1)) _ _ s
 rw [JaR lo hi n]
 show wpAny _ _ (pure (((sIx n 0 lo : Nat) : Int),(1 : Int),Builtin.Slice.slicePlaces ((sIx n 0 lo : Nat) : Int) ((sIx n n hi : Nat) : Int) 1)) _ _ s
 rw [Jax]
 exact wpAny_pure h
theorem JcH (xs : Array Value) (i k : Nat) : ((List.range k).filterMap fun (m : Nat) => xs[((i : Int) + (m : Int) * 1).toNat]?).toArray = ((xs.toList.drop i).take k).toArray := by
 have e : (fun (m : Nat) => xs[((i : Int) + (m : Int) * 1).toNat]?) = fun m => xs[i + m]? := by
  funext m
  have : ((i : Int) + (m : Int) * 1).toNat = i + m := by omega
  rw [this]
 rw [e]
 have := pick_run xs i k
 rw [List.filterMap_map] at this
 have e2 : ((fun x => xs[x]?) ∘ fun x => i + x) = fun m => xs[i + m]? := rfl
 rw [e2] at this
 rw [this]
theorem getItem_tuple_cut {t sl : Addr} {items : Array Value} {vl vu : Value} {lo hi : Option Int} {Q : Value → Shared → Prop} (ht : IsTup s.heap t items) (hs : s.heap.IsSliceOf sl vl vu .none) (pl : IsPart vl lo) (pu : IsPart vu hi)
  (hw : ¬ (sIx items.size 0 lo = 0 ∧ sIx items.size items.size hi = items.size))
  (h : Q (.ref s.heap.objs.size) { s with heap := s.heap.push { cls := .type "tuple",data := .seq ((items.toList.drop (sIx items.size 0 lo)).take (sIx items.size items.size hi - sIx items.size 0 lo)).toArray } })
  (hsz : items.size ≤ sizeLine) : wpAny (model prog w) A (getItem (.ref t) (.ref sl)) Q E s := by
 have htake : sizeOk (.seq ((items.toList.drop (sIx items.size 0 lo)).take (sIx items.size items.size hi - sIx items.size 0 lo)).toArray) := by
  show ((items.toList.drop (sIx items.size 0 lo)).take (sIx items.size items.size hi - sIx items.size 0 lo)).toArray.size ≤ sizeLine
  rw [List.size_toArray,List.length_take,List.length_drop,Array.length_toList]
  omega
 have hj : sIx items.size items.size hi ≤ items.size := sIx_le _ _ (Nat.le_refl _) hi
 obtain ⟨os,hos,hcs,hds⟩ := id hs
 have hTs : s.TypeIs (.ref sl) "slice" := ⟨os,hos,hcs⟩
 unfold getItem
 try with_reducible refine wpAny_holding ?_
 first | refine wpAny_bind (wpAny_pure ?_) | skip
 refine wpAny_bind (wpAny_sequenceKey ht.typeIs (by decide) ?_)
 refine wpAny_bind (wpAny_callSpecial?_slot (name := Str.ofString "__getitem__") ht.typeIs PyProof.Rows.slot_tuple_getitem
  (wpAny_call_entry PyProof.Rows.slot_tuple_getitem ht.typeIs entry_tuple_getitem ?_ (args_tuple_getitem _ _)))
 show wpAny _ _ (Builtin.Tuple.tupleItemsOf (.ref t) >>= _) _ _ s
 refine wpAny_bind (tupleItemsOf_ ht ?_)
 refine wpAny_bind (wpAny_typeOf hTs ?_)
 rw [if_pos (by decide)]
 refine wpAny_bind (J5u hs pl pu ?_)
 have hno : ¬ ((((sIx items.size 0 lo : Nat) : Int) == 0 && (1 : Int) == 1 && (sIx items.size items.size hi - sIx items.size 0 lo) == items.size) = true) := by
  intro q
  rw [Bool.and_eq_true,Bool.and_eq_true] at q
  have q1 : ((sIx items.size 0 lo : Nat) : Int) = 0 := eq_of_beq q.1.1
  have q2 : sIx items.size items.size hi - sIx items.size 0 lo = items.size := eq_of_beq q.2
  exact hw ⟨by omega,by omega⟩
 show wpAny _ _ (if (((sIx items.size 0 lo : Nat) : Int) == 0 && (1 : Int) == 1 && (sIx items.size items.size hi - sIx items.size 0 lo) == items.size) = true then _ else _) _ _ s
 rw [if_neg hno,JcH]
 first
  | exact wpAny_bind (m := Builtin.Tuple.tupleExact _) (wpAny_newObj_type (wpAny_pure ⟨_,rfl,wpAny_pure h⟩) htake)
  | exact wpAny_bind (m := Builtin.Tuple.tupleExact _) (wpAny_newObj_type (wpAny_bind (wpAny_pure (wpAny_pure ⟨_,rfl,wpAny_pure h⟩))) htake)
  | exact wpAny_bind (wpAny_bind (m := Builtin.Tuple.tupleExact _) (wpAny_newObj_type (wpAny_pure (wpAny_pure ⟨_,rfl,wpAny_pure h⟩)) htake))
  | exact wpAny_bind (wpAny_bind (m := Builtin.Tuple.tupleExact _) (wpAny_newObj_type (wpAny_pure ⟨_,rfl,wpAny_pure h⟩) htake))
end
end HT
namespace L2
open PySem PySem.Spec PyProof.Rows
noncomputable abbrev TO := St → Hp → (Option Int → Hp → Prop) → Prop
noncomputable def PO (X : Cx) (e : Option Expr) (t : TO) : Prop :=
 ∀ (pins : List (Addr × Obj)) (s : Shared) (σ : St) (H : Hp) (Q : Option Int → Hp → Prop),Inv X pins σ H s → t σ H Q →
  wpAny (model X.prog X.w) X.A (evalPart e X.env) (fun u s' => ∃ o H',Inv X pins σ H' s' ∧ IsPart u o ∧ Q o H') X.xe s
noncomputable def Jei : TO := fun _ H Q => Q none H
noncomputable def JfS (t : TE) : TO := fun σ H Q => t σ H fun x H1 => ∃ i,x = .int i ∧ Q (some i) H1
section
variable {X : Cx} {e : Expr} {te : TE} {lo hi : Option Expr} {tl th : TO} {pos p2 : Pos}
theorem J09 : PO X none Jei := by
 intro pins s σ H Q I h
 rw [evalPart_none]
 exact wpAny_pure ⟨none,H,I,.none,h⟩
theorem JT (h : PE X e te) : PO X (some e) (JfS te) := by
 intro pins s σ H Q I hw
 rw [evalPart_some]
 refine thn (h pins s σ H _ I hw) fun u s1 ⟨x,H1,I1,r1,q1⟩ => ?_
 obtain ⟨i,rfl,q⟩ := q1
 obtain ⟨t,rfl⟩ := r1
 exact ⟨some i,H1,I1,.int i t,q⟩
noncomputable def SlR (X : Cx) (r : V → Option Int → Option Int → Hp → VK → Prop) : Prop :=
 ∀ (pins : List (Addr × Obj)) (s : Shared) (σ : St) (H : Hp) (x : V) (v vl vu : Value) (lo hi : Option Int) (sl : Addr) (Q : VK),Inv X pins σ H s → RelV x v → s.heap.IsSliceOf sl vl vu .none → IsPart vl lo → IsPart vu hi → r x lo hi H Q →
  ∃ T id,typeLookup (.type T) "__getitem__" = pure (some (.builtin id)) ∧ s.TypeIs v T ∧ wpAny (model X.prog X.w) X.A (getItem v (.ref sl)) (EP X pins σ Q) X.xe s
noncomputable def tSl (r : V → Option Int → Option Int → Hp → VK → Prop) (te : TE) (tl th : TO) : TE := fun σ H Q => te σ H fun x H1 => tl σ H1 fun l H2 => th σ H2 fun u H3 => r x l u H3 Q
theorem JJ {r : V → Option Int → Option Int → Hp → VK → Prop} (hr : SlR X r) (he : PE X e te) (hl : PO X lo tl) (hu : PO X hi th) : PE X (.Subscript e (.Slice lo hi none p2) pos) (tSl r te tl th) := by
 intro pins s σ H Q I h
 refine Subscript_ (thn (he pins s σ H _ I h) fun v s1 ⟨x,H1,I1,r1,q1⟩ => ?_)
 refine wpAny_Slice (thn (hl pins s1 σ H1 _ I1 q1) fun vl s2 ⟨l,H2,I2,pl,q2⟩ => thn (hu pins s2 σ H2 _ I2 q2) fun vu s3 ⟨u,H3,I3,pu,q3⟩ => ?_)
 rw [evalPart_none]
 refine wpAny_pure ?_
 have I4 : Inv X pins σ H3 { s3 with heap := s3.heap.push { cls := .type "slice",data := .fields #[vl,vu,.none] } } := I3.kept (t' := s3.toks) fun b ob q => Heap.get?_push_of_some _ q
 obtain ⟨T,id,hT,ht,hg⟩ := hr pins { s3 with heap := s3.heap.push { cls := .type "slice",data := .fields #[vl,vu,.none] } } σ H3 x v vl vu l u s3.heap.objs.size Q I4 r1 (Heap.IsSliceOf.new ..) pl pu q3
 show wpAny (model X.prog X.w) X.A (subscriptTail e (.Slice lo hi none p2) v (.ref s3.heap.objs.size)) (EP X pins σ Q) X.xe { s3 with heap := s3.heap.push { cls := .type "slice",data := .fields #[vl,vu,.none] } }
 exact tail_any (ops := [.ref s3.heap.objs.size,v]) ht hT hg (by with_unfolding_all rfl)
noncomputable def cutV (xs : List V) (lo hi : Option Int) : List V := (xs.drop (HT.sIx xs.length 0 lo)).take (HT.sIx xs.length xs.length hi - HT.sIx xs.length 0 lo)
theorem J5U (xs : List V) (lo hi : Option Int) : (cutV xs lo hi).length ≤ xs.length := by
 unfold cutV
 rw [List.length_take,List.length_drop]
 omega
noncomputable def rSlT (K : PySem.W.Frag) : V → Option Int → Option Int → Hp → VK → Prop := fun x lo hi H Q => ∃ a xs,x = .ref a ∧ SqT K H a xs ∧
 ¬ (HT.sIx xs.length 0 lo = 0 ∧ HT.sIx xs.length xs.length hi = xs.length) ∧ ∀ p,H p = none → Q (.ref p) (upd H p (.tup (cutV xs lo hi)))
theorem J5G : SlR X (rSlT X.K) := by
 intro pins s σ H x v vl vu lo hi sl Q I rx hs pl pu h
 obtain ⟨a,xs,rfl,hx,hw,q⟩ := h
 cases rx
 obtain ⟨its,r,ht,hz⟩ := I.tuple hx
 have hlen : its.toArray.size = xs.length := by rw [List.size_toArray]; exact r.length.symm
 refine ⟨"tuple",_,PyProof.Rows.slot_tuple_getitem.lookup,ht.typeIs,?_⟩
 refine HT.getItem_tuple_cut ht hs pl pu (by rw [hlen]; exact hw) ?_ (by rw [hlen]; exact hz)
 rw [hlen]
 refine ⟨.ref s.heap.objs.size,_,I.laid (t' := s.toks) (o := .tup (cutV xs lo hi)) (fun b ob q => Heap.get?_push_of_some _ q) (Nat.le_refl _) ?_,rfl,q _ (I.hok.fresh (Nat.le_refl _))⟩
 exact ⟨Nat.le_trans (J5U xs lo hi) hz,_,(r.drop (HT.sIx xs.length 0 lo)).take (HT.sIx xs.length xs.length hi - HT.sIx xs.length 0 lo),IsTup.new _ _⟩
end
end L2
namespace L2
open PySem PySem.Spec PyProof.Rows
noncomputable def ixN (n : Nat) (i : Int) : Option Nat := if 0 ≤ i then (if i < n then some i.toNat else none) else if -(n : Int) ≤ i then some (i + n).toNat else none
noncomputable def atI {α : Type} (xs : List α) (i : Int) : Option α := (ixN xs.length i).bind fun j => xs[j]?
theorem Je2 {n : Nat} {i : Int} {j : Nat} (h : ixN n i = some j) : seqIndex? i n = some j ∧ j < n ∧ -(n : Int) ≤ i ∧ i < n := by
 unfold ixN at h
 by_cases h0 : 0 ≤ i
 ·rw [if_pos h0] at h
  by_cases h1 : i < n
  ·rw [if_pos h1] at h
   have e : i.toNat = j := Option.some.inj h
   exact ⟨by rw [seqIndex_of h0 h1,e],by omega,by omega,h1⟩
  ·rw [if_neg h1] at h; cases h
 ·rw [if_neg h0] at h
  by_cases h1 : -(n : Int) ≤ i
  ·rw [if_pos h1] at h
   have e : (i + n).toNat = j := Option.some.inj h
   exact ⟨by rw [seqIndex_neg (by omega) h1,e],by omega,h1,by omega⟩
  ·rw [if_neg h1] at h; cases h
theorem J8N {α : Type} {xs : List α} {i : Int} {v : α} (h : atI xs i = some v) : ∃ j,seqIndex? i xs.length = some j ∧ xs[j]? = some v ∧ j < xs.length ∧ -(xs.length : Int) ≤ i ∧ i < xs.length := by
 unfold atI at h
 cases e : ixN xs.length i with
 | none => rw [e] at h; cases h
 | some j =>
  rw [e] at h
  obtain ⟨h1,h2,h3,h4⟩ := Je2 e
  exact ⟨j,h1,h,h2,h3,h4⟩
theorem J15 {α : Type} {xs : List α} {j : Nat} {v : α} (h : xs[j]? = some v) : atI xs (j : Int) = some v := by
 have hj : j < xs.length := (List.getElem?_eq_some_iff.mp h).1
 have e : ixN xs.length (j : Int) = some j := by
  unfold ixN
  rw [if_pos (by omega),if_pos (by omega)]; simp
 unfold atI; rw [e]; exact h
noncomputable def Je6 (b : Expr) : Prop := ∀ o i,subscripted b false o i = operate [o,i] (getItem o i)
noncomputable def IxR (X : Cx) (r : R2) : Prop :=
 ∀ (value slice : Expr) (pins : List (Addr × Obj)) (s : Shared) (σ : St) (H : Hp) (x y : V) (v u : Value) (Q : VK),Inv X pins σ H s → RelV x v → RelV y u → r x y H Q →
  subscripted slice false v u = operate [v,u] (getItem v u) → wpAny (model X.prog X.w) X.A (subscriptTail value slice v u) (EP X pins σ Q) X.xe s
noncomputable def MtR (X : Cx) (id : String) (r : V → List V → Hp → VK → Prop) : Prop :=
 ∀ (pins : List (Addr × Obj)) (s : Shared) (σ : St) (H : Hp) (x : V) (xs : List V) (v : Value) (us : List Value) (Q : VK),Inv X pins σ H s → RelV x v → Vals xs us → r x xs H Q →
  wpAny (model X.prog X.w) X.A (call (.builtin id) (v :: us)) (EP X pins σ Q) X.xe s
section
variable {X : Cx} {a b : Expr} {ta tb : TE} {pos : Pos}
theorem Jv {r : R2} (hr : IxR X r) (ha : PE X a ta) (hb : PE X b tb) (hs : Je6 b) : PE X (.Subscript a b pos) (tOp r ta tb) := by
 intro pins s σ H Q I h
 exact Subscript_ (binT ha hb I h fun v u s2 x y H2 I2 rx ry q => hr a b pins s2 σ H2 x y v u Q I2 rx ry q (hs _ _))
noncomputable def rIxL (K : PySem.W.Frag) : R2 := fun x y H Q => ∃ p xs i v,x = .ref p ∧ y = .int i ∧ SqL K H p xs ∧ atI xs i = some v ∧ Q v H
noncomputable def rIxT (K : PySem.W.Frag) : R2 := fun x y H Q => ∃ p xs i v,x = .ref p ∧ y = .int i ∧ SqT K H p xs ∧ atI xs i = some v ∧ Q v H
noncomputable def rIxS : R2 := fun x y H Q => ∃ z i c,x = .str z ∧ y = .int i ∧ z.length ≤ sizeLine ∧ atI z.cps.toList i = some c ∧ Q (.str ⟨#[c]⟩) H
theorem Jem : IxR X (rIxL X.K) := by
 intro value slice pins s σ H x y v u Q I rx ry h hs
 obtain ⟨p,xs,i,z,rfl,rfl,hq,he,q⟩ := h
 cases rx
 obtain ⟨t,rfl⟩ := ry
 obtain ⟨its,r,pl,hz⟩ := I.list hq
 obtain ⟨j,h1,h2,h3,h4,h5⟩ := J8N he
 obtain ⟨w,ew,rw'⟩ := r.get h2
 have hl := r.length
 have hn := J73
 have fin : EP X pins σ Q w s := ⟨z,H,I,rw',q⟩
 by_cases h0 : 0 ≤ i
 ·have hj : i.toNat = j := by
   rw [seqIndex_of h0 h5] at h1
   exact Option.some.inj h1
  exact item_listR pl.isList h0 (by omega) (by rw [hj]; simpa using ew) fin hs
 ·have hj : (i + (its.toArray.size : Int)).toNat = j := by
   rw [seqIndex_neg (by omega) h4] at h1
   rw [List.size_toArray,← hl]
   exact Option.some.inj h1
  exact subscriptTail_builtinR (x := w) pl.isList.typeIs slot_list_getitem.lookup
   (wpAny_getItem_list_neg (Q := fun r s' => r = w ∧ EP X pins σ Q r s') pl.isList (by omega) (by rw [List.size_toArray] <;> omega) (by omega) (by rw [hj]; simpa using ew) ⟨rfl,fin⟩) hs
theorem Jfa : IxR X (rIxT X.K) := by
 intro value slice pins s σ H x y v u Q I rx ry h hs
 obtain ⟨p,xs,i,z,rfl,rfl,hq,he,q⟩ := h
 cases rx
 obtain ⟨t,rfl⟩ := ry
 obtain ⟨its,r,pl,hz⟩ := I.tuple hq
 obtain ⟨j,h1,h2,h3,h4,h5⟩ := J8N he
 obtain ⟨w,ew,rw'⟩ := r.get h2
 have hl := r.length
 have hn := J73
 have fin : EP X pins σ Q w s := ⟨z,H,I,rw',q⟩
 exact subscriptTail_builtinR (x := w) pl.typeIs slot_tuple_getitem.lookup
  (getItem_tuple (j := j) (Q := fun r s' => r = w ∧ EP X pins σ Q r s') pl (by omega) (by omega) (by rw [List.size_toArray,← hl]; exact h1) (by simpa using ew) ⟨rfl,fin⟩) hs
theorem JeZ : IxR X rIxS := by
 intro value slice pins s σ H x y v u Q I rx ry h hs
 obtain ⟨z,i,c,rfl,rfl,hz,he,q⟩ := h
 obtain ⟨t,rfl⟩ := rx
 obtain ⟨t',rfl⟩ := ry
 obtain ⟨j,h1,h2,h3,h4,h5⟩ := J8N he
 have hl : z.cps.toList.length = z.length := by simp [Str.length]
 rw [hl] at h1 h4 h5
 have hn := J73
 exact tail_any (typeIs_str s z t) slot_str_getitem.lookup (getItem_str (c := c) (by
  have e1 : decide (i < -(2 ^ 63 : Int)) = false := decide_eq_false (by omega)
  have e2 : decide (i ≥ 2 ^ 63) = false := decide_eq_false (by omega)
  rw [e1,e2,Bool.or_false]) (by rw [h1]; simpa using h2) ⟨.str ⟨#[c]⟩,H,I.tok _,⟨_,rfl⟩,q⟩) hs
theorem J8J (lo hi : Option Int) (n : Nat) : (sliceBounds lo hi none n).1 = ((HT.sIx n 0 lo : Nat) : Int) ∧ (sliceBounds lo hi none n).2.1 = ((HT.sIx n n hi : Nat) : Int) ∧ (sliceBounds lo hi none n).2.2 = 1 := by
 refine ⟨?_,?_,rfl⟩
 ·cases lo with
  | none => simp [sliceBounds,HT.sIx]
  | some i =>
   simp only [sliceBounds,HT.sIx,Option.getD_none,show (1 : Int) > 0 by decide,if_true]
   by_cases h : i < 0
   ·simp only [h,if_true] <;> omega
   ·simp only [h,if_false] <;> omega
 ·cases hi with
  | none => simp [sliceBounds,HT.sIx]
  | some i =>
   simp only [sliceBounds,HT.sIx,Option.getD_none,show (1 : Int) > 0 by decide,if_true]
   by_cases h : i < 0
   ·simp only [h,if_true] <;> omega
   ·simp only [h,if_false] <;> omega
theorem J7w (its : List Value) (lo hi : Option Int) : slicePick its.toArray lo hi none = ((its.drop (HT.sIx its.length 0 lo)).take (HT.sIx its.length its.length hi - HT.sIx its.length 0 lo)).toArray := by
 obtain ⟨h1,h2,h3⟩ := J8J lo hi its.toArray.size
 unfold slicePick
 rw [h1,h2,h3]
 simp only [sliceRange_one,pick_run,List.size_toArray] <;> rfl
noncomputable def rSlL (K : PySem.W.Frag) : V → Option Int → Option Int → Hp → VK → Prop := fun x lo hi H Q => ∃ a xs,x = .ref a ∧ SqL K H a xs ∧ ∀ p,H p = none → Q (.ref p) (upd H p (.lst (cutV xs lo hi)))
theorem Je3 : SlR X (rSlL X.K) := by
 intro pins s σ H x v vl vu lo hi sl Q I rx hs pl pu h
 obtain ⟨a,xs,rfl,hx,q⟩ := h
 cases rx
 obtain ⟨its,r,ht,hz⟩ := I.list hx
 have hlen := r.length
 refine ⟨"list",_,slot_list_getitem.lookup,ht.isList.typeIs,?_⟩
 refine wpAny_getItem_list_slice ht.isList hs pl pu .none (by simp) ?_ (by rw [List.size_toArray] <;> omega)
 rw [J7w,← hlen]
 refine ⟨.ref s.heap.objs.size,_,I.laid (t' := s.toks) (o := .lst (cutV xs lo hi)) (fun b ob q => Heap.get?_push_of_some _ q) (Nat.le_refl _) ?_,rfl,q _ (I.hok.fresh (Nat.le_refl _))⟩
 exact ⟨Nat.le_trans (J5U xs lo hi) hz,_,0,(r.drop (HT.sIx xs.length 0 lo)).take (HT.sIx xs.length xs.length hi - HT.sIx xs.length 0 lo),Heap.get?_push_size _ rfl⟩
noncomputable def J0l : V → Bool
 | .non => true
 | .bl _ => true
 | .int _ => true
 | .str _ => true
 | _ => false
noncomputable def eqV : V → V → Bool
 | .non,.non => true
 | .bl a,.bl b => a == b
 | .bl a,.int b => (if a then 1 else 0) == b
 | .int a,.bl b => a == (if b then 1 else 0)
 | .int a,.int b => a == b
 | .str a,.str b => a == b
 | _,_ => false
theorem Jdb {A : Around} {s : Shared} {y x : V} {u v : Value} (ry : RelV y u) (rx : RelV x v) (fy : J0l y = true) (fx : J0l x = true) : SeqAt.EqAt A s u v (eqV y x) := by
 cases y with
 | non =>
  cases ry
  cases x with
  | non => cases rx; exact SeqAt.EqAt.same _
  | bl b => cases rx; exact SeqAt.EqAt.none_bool b
  | int b => obtain ⟨t,rfl⟩ := rx; exact SeqAt.EqAt.none_int b t
  | str b => obtain ⟨t,rfl⟩ := rx; exact SeqAt.EqAt.none_str b t
  | _ => exact absurd (show false = true from fx) Bool.false_ne_true
 | bl a =>
  cases ry
  cases x with
  | non => cases rx; exact SeqAt.EqAt.bool_none a
  | bl b => cases rx; exact SeqAt.EqAt.bool_bool a b
  | int b => obtain ⟨t,rfl⟩ := rx; exact SeqAt.EqAt.bool_int a b t
  | str b => obtain ⟨t,rfl⟩ := rx; exact SeqAt.EqAt.bool_str a b t
  | _ => exact absurd (show false = true from fx) Bool.false_ne_true
 | int a =>
  obtain ⟨t',rfl⟩ := ry
  cases x with
  | non => cases rx; exact SeqAt.EqAt.int_none a t'
  | bl b => cases rx; exact SeqAt.EqAt.int_bool a t' b
  | int b => obtain ⟨t,rfl⟩ := rx; exact SeqAt.EqAt.int_int a t' b t
  | str b => obtain ⟨t,rfl⟩ := rx; exact SeqAt.EqAt.int_str a t' b t
  | _ => exact absurd (show false = true from fx) Bool.false_ne_true
 | str a =>
  obtain ⟨t',rfl⟩ := ry
  cases x with
  | non => cases rx; exact SeqAt.EqAt.str_none a t'
  | bl b => cases rx; exact SeqAt.EqAt.str_bool a t' b
  | int b => obtain ⟨t,rfl⟩ := rx; exact SeqAt.EqAt.str_int a t' b t
  | str b => obtain ⟨t,rfl⟩ := rx; exact SeqAt.EqAt.str_str a t' b t
  | _ => exact absurd (show false = true from fx) Bool.false_ne_true
 | _ => exact absurd (show false = true from fy) Bool.false_ne_true
noncomputable def eqU (x : V) (u : Value) : Bool := match u with
 | .none => eqV .non x
 | .bool b => eqV (.bl b) x
 | .int i _ => eqV (.int i) x
 | .str z _ => eqV (.str z) x
 | _ => false
theorem JaE {x y : V} {u : Value} (r : RelV y u) (f : J0l y = true) : eqU x u = eqV y x := by
 cases y with
 | non => cases r; rfl
 | bl b => cases r; rfl
 | int i => obtain ⟨t,rfl⟩ := r; rfl
 | str z => obtain ⟨t,rfl⟩ := r; rfl
 | _ => exact absurd (show false = true from f) Bool.false_ne_true
theorem J8w {x : V} : ∀ {xs : List V} {us : List Value},Vals xs us → xs.all J0l = true → us.any (eqU x) = xs.any fun y => eqV y x
 | _,_,.nil,_ => rfl
 | y :: xs,u :: us,.cons r t,f => by
  rw [List.all_cons,Bool.and_eq_true] at f
  rw [List.any_cons,List.any_cons,JaE r f.1,J8w t f.2]
theorem J4W {A : Around} {s : Shared} {x : V} {v : Value} (rx : RelV x v) (fx : J0l x = true) : ∀ {xs : List V} {us : List Value},Vals xs us → xs.all J0l = true → ∀ u ∈ us,SeqAt.EqAt A s u v (eqU x u)
 | _,_,.nil,_ => fun u hu => by cases hu
 | y :: xs,u :: us,.cons r t,f => fun u' hu => by
  rw [List.all_cons,Bool.and_eq_true] at f
  rcases List.mem_cons.mp hu with rfl | hu
  ·rw [JaE r f.1]; exact Jdb r rx f.1 fx
  ·exact J4W rx fx t f.2 u' hu
noncomputable def inV (x : V) (xs : List V) : Bool := xs.any fun y => eqV y x
noncomputable def rIn (K : PySem.W.Frag) (neg : Bool) : R2 := fun x y H Q => ∃ p xs,y = .ref p ∧ (SqL K H p xs ∨ SqT K H p xs) ∧ J0l x = true ∧ xs.all J0l = true ∧ Q (.bl (if neg then !inV x xs else inV x xs)) H
theorem Jch : OpR X (compareOp .In) (rIn X.K false) := by
 intro pins s σ H x y v u Q I rx ry h
 obtain ⟨p,xs,rfl,hq,fx,fs,q⟩ := h
 cases ry
 rcases hq with hq | hq
 ·obtain ⟨its,r,pl,hz⟩ := I.list hq
  refine SeqAt.in_listAt (eqU x) pl.isList (fun w hw => J4W rx fx r fs w (by simpa using hw)) ⟨.bl _,H,I,rfl,?_⟩
  rw [show its.toArray.any (eqU x) = its.any (eqU x) by simp,J8w r fs]
  exact q
 ·obtain ⟨its,r,pl,hz⟩ := I.tuple hq
  refine SeqAt.in_tupleAt (eqU x) pl (fun w hw => J4W rx fx r fs w (by simpa using hw)) ⟨.bl _,H,I,rfl,?_⟩
  rw [show its.toArray.any (eqU x) = its.any (eqU x) by simp,J8w r fs]
  exact q
theorem J8u : J1U X (.builtin "len") (fun xs H Q => ∃ p ys,xs = [.ref p] ∧ (SqL X.K H p ys ∨ SqT X.K H p ys) ∧ Q (.int ys.length) H) := by
 intro pins s σ H xs us Q I r h
 obtain ⟨p,ys,rfl,hq,q⟩ := h
 obtain ⟨u,rfl,rx⟩ := Jbd r
 cases rx
 have hn := J73
 rcases hq with hq | hq
 ·obtain ⟨its,r',pl,hz⟩ := I.list hq
  have hlen := r'.length
  exact Calls.call_len_list pl.isList (by simp only [List.size_toArray] <;> omega) ⟨.int ys.length,H,I.tok _,⟨s.toks + 1,by rw [List.size_toArray,hlen]⟩,q⟩
 ·obtain ⟨its,r',pl,hz⟩ := I.tuple hq
  have hlen := r'.length
  exact len_tuple pl (by simp only [List.size_toArray] <;> omega) ⟨.int ys.length,H,I.tok _,⟨s.toks + 1,by rw [List.size_toArray,hlen]⟩,q⟩
theorem J8D : J1U X (.builtin "len") (fun xs H Q => ∃ z,xs = [.str z] ∧ z.length ≤ sizeLine ∧ Q (.int z.length) H) := by
 intro pins s σ H xs us Q I r h
 obtain ⟨z,rfl,hz,q⟩ := h
 obtain ⟨u,rfl,t,rfl⟩ := Jbd r
 have hn := J73
 exact len_str (by omega) ⟨.int z.length,H,I.tok _,⟨_,rfl⟩,q⟩
theorem J0o : J1U X (.type "list") (fun xs H Q => ∃ p ys,xs = [.ref p] ∧ (SqL X.K H p ys ∨ SqT X.K H p ys) ∧ ∀ l,H l = none → Q (.ref l) (upd H l (.lst ys))) := by
 intro pins s σ H xs us Q I r h
 obtain ⟨p,ys,rfl,hq,q⟩ := h
 obtain ⟨u,rfl,rx⟩ := Jbd r
 cases rx
 have fin : ∀ (its : List Value),Vals ys its → ys.length ≤ sizeLine → ∀ (h' : Heap) (c' : Nat),(∀ b o',s.heap.get? b = some o' → h'.get? b = some o') →
   h'.get? s.heap.objs.size = some { cls := .type "list",dict := none,data := .seq its.toArray c',slots := #[] } → EP X pins σ Q (.ref s.heap.objs.size) { s with heap := h' } := fun its r' hz h' c' kp e =>
  ⟨.ref s.heap.objs.size,_,I.laid (t' := s.toks) kp (Nat.le_refl _) (show J2Z X.prog X.w _ h' _ (.lst ys) from ⟨hz,its,c',r',e⟩),rfl,q _ (I.hok.fresh (Nat.le_refl _))⟩
 rcases hq with hq | hq
 ·obtain ⟨its,r',pl,hz⟩ := I.list hq
  have hlen := r'.length
  obtain ⟨o,ho,hc,n,hd⟩ := pl.isList
  exact call_list_seq p (.inl rfl) ho hc hd (fun h' c' kp e => fin its r' hz h' c' kp e) (by simp only [List.size_toArray] <;> omega)
 ·obtain ⟨its,r',pl,hz⟩ := I.tuple hq
  have hlen := r'.length
  obtain ⟨o,ho,hc,n,hd⟩ := pl
  exact call_list_seq p (.inr rfl) ho hc hd (fun h' c' kp e => fin its r' hz h' c' kp e) (by simp only [List.size_toArray] <;> omega)
noncomputable def tyV (K : PySem.W.Frag) (T : String) (x : V) (H : Hp) : Prop := match x with
 | .str _ => T = "str"
 | .int _ => T = "int"
 | .ref p => (T = "list" ∧ ∃ xs,SqL K H p xs) ∨ (T = "tuple" ∧ ∃ o,K.lookup p = some o ∧ o.cls = .type "tuple" ∧ o.dict = none) ∨
   (T = "dict" ∧ ((∃ kvs,H p = some (.dK kvs)) ∨ ∃ kvs,H p = some (.dT kvs))) ∨ (T = "set" ∧ ∃ S n,H p = some (.set S n))
 | _ => False
theorem Jfp {pins : List (Addr × Obj)} {σ : St} {H : Hp} {s : Shared} {T : String} {x : V} {v : Value} (I : Inv X pins σ H s) (r : RelV x v) (ty : tyV X.K T x H) :
  s.TypeIs v T ∧ ∀ a,v = .ref a → ∃ ob,s.heap.get? a = some ob ∧ ob.dict = none := by
 cases x with
 | str z =>
  obtain ⟨t,rfl⟩ := r
  cases (show T = "str" from ty)
  exact ⟨typeIs_str s z t,fun _ e => nomatch e⟩
 | int i =>
  obtain ⟨t,rfl⟩ := r
  cases (show T = "int" from ty)
  exact ⟨typeIs_int s i t,fun _ e => nomatch e⟩
 | ref p =>
  cases r
  rcases ty with ⟨rfl,xs,hq⟩ | ⟨rfl,o,hk,hc,hd⟩ | ⟨rfl,hk⟩ | ⟨rfl,S,n,hk⟩
  ·obtain ⟨its,_,pl,_⟩ := I.list hq
   refine ⟨pl.isList.typeIs,fun a e => ?_⟩
   cases e
   obtain ⟨o,n,e,c,hd,_⟩ := pl
   exact ⟨o,e,hd⟩
  ·refine ⟨⟨o,I.kIn p o hk,hc⟩,fun a e => ?_⟩
   cases e
   exact ⟨o,I.kIn _ o hk,hd⟩
  ·have z : ∃ o,s.heap.get? p = some o ∧ o.ExactDict := by
    rcases hk with ⟨kvs,hk⟩ | ⟨kvs,hk⟩
    ·obtain ⟨_,_,_,_,o,_,_,e,ex,_⟩ := I.hok p _ hk
     exact ⟨o,e,ex⟩
    ·obtain ⟨_,_,_,_,o,_,_,e,ex,_⟩ := I.hok p _ hk
     exact ⟨o,e,ex⟩
   obtain ⟨o,e,ex⟩ := z
   refine ⟨⟨o,e,ex.1⟩,fun a e2 => ?_⟩
   cases e2
   exact ⟨o,e,ex.2.1⟩
  ·obtain ⟨o,_,_,_,e,ex,_⟩ := I.hok p _ hk
   refine ⟨⟨o,e,ex.1⟩,fun a e2 => ?_⟩
   cases e2
   exact ⟨o,e,ex.2.1⟩
 | _ => exact False.elim ty
noncomputable def tBM (K : PySem.W.Frag) (T : String) (r : V → List V → Hp → VK → Prop) (to : TE) (t : TA) : TE := fun σ H Q => to σ H fun x H1 => tyV K T x H1 ∧ t σ H1 fun xs H2 => r x xs H2 Q
variable {o e : Expr} {es : List Expr} {to : TE} {t : TA} {name : Str} {apos cpos : Pos} {T id : String} {r : V → List V → Hp → VK → Prop}
theorem J1O (pa : PlainAttrs T) (slot : Slot T name id) (hty : typeOf (.builtin id) = pure (.type "method_descriptor")) (hm : MtR X id r) (ho : PE X o to) (ha : PA X (e :: es) t)
  (hbase : attributeBase o name X.env (eval o X.env) = eval o X.env := by rfl)
  (hfew : ((backTo cpos (starEach (e :: es) X.env)).all (fun x => !x.1) && (backToKw cpos (keywordEach [] X.env)).all (fun x => x.1.isSome)
   && decide ((e :: es).length + ([] : List Keyword).length + (if ([] : List Keyword).isEmpty then 0 else 1) < 30)) = true := by rfl)
  (hline : (apos.endLine == cpos.line) = true := by rfl) (hs : starEach (e :: es) X.env = (false,eval e X.env) :: starEach es X.env := by rfl) (hplain : (backTo cpos (starEach es X.env)).any (·.1) = false := by rfl) :
  PE X (.Call (.Attribute o name apos) (e :: es) [] cpos) (tBM X.K T r to t) := by
 intro pins s σ H Q I h
 refine wpAny_Call_method_late hbase hfew hline rfl (thn (ho pins s σ H _ I h) fun v s1 ⟨x,H1,I1,r1,ty,q1⟩ => ?_)
 obtain ⟨h1,h2⟩ := Jfp I1 r1 ty
 refine ⟨T,id,pa,slot,hty,h1,h2,?_⟩
 have hA := ha cpos pins s1 σ H1 _ I1 q1
 rw [hs] at hA ⊢
 refine Calls.callWith_builtin (by show (false || (backTo cpos (starEach es X.env)).any (·.1)) = false; rw [hplain] <;> rfl) (Calls.evalArgs_plain ?_)
 exact thn hA fun us s2 ⟨vs,H2,I2,r2,q2⟩ => hm pins s2 σ H2 x vs v us Q I2 r1 r2 q2
end
end L2
namespace L2
open PySem PySem.Spec PyProof.Rows
noncomputable def MtM (X : Cx) (id : String) (r : V → List V → Hp → VK → Prop) : Prop :=
 ∀ (pins : List (Addr × Obj)) (s : Shared) (σ : St) (H : Hp) (x : V) (xs : List V) (v : Value) (us : List Value) (Q : VK),Inv X pins σ H s → RelV x v → Vals xs us → r x xs H Q →
  wpAny (model X.prog X.w) X.A (call (.builtin id) (v :: us)) (EP X pins σ Q) X.xe s
theorem Vals.one : ∀ {x : V} {us : List Value},Vals [x] us → ∃ u,us = [u] ∧ RelV x u
 | _,_,.cons r .nil => ⟨_,rfl,r⟩
theorem Vals.two : ∀ {x y : V} {us : List Value},Vals [x,y] us → ∃ u v,us = [u,v] ∧ RelV x u ∧ RelV y v
 | _,_,_,.cons r (.cons q .nil) => ⟨_,_,rfl,r,q⟩
section
variable {X : Cx} {pins : List (Addr × Obj)} {σ : St} {H : Hp} {s : Shared} {l b : Addr} {xs ys zs : List V}
theorem Inv.lset {its its' : List Value} {n : Nat} {f : Array Value → Array Value} {t' : Nat} (I : Inv X pins σ H s) (hH : H l = some (.lst xs))
  (e : s.heap.get? l = some { cls := .type "list",data := .seq its.toArray n }) (hf : f its.toArray = its'.toArray) (hv : Vals ys its') (hz : ys.length ≤ sizeLine) :
  Inv X pins σ (upd H l (.lst ys)) { s with heap := s.heap.update l (Obj.mapSeq f),toks := t' } := by
 have q := PySem.IsL.update e f
 rw [hf] at q
 refine I.write (x := l) (e := l) (by rw [hH]; exact trivial) (.inl rfl) (fun b' u hb hu => (Heap.get?_update_other s.heap (Obj.mapSeq f) (Ne.symm hb)).trans hu) ⟨_,q⟩ ?_
 exact ⟨hz,its',_,hv,q⟩
theorem Inv.lnew {its : List Value} {t' : Nat} (I : Inv X pins σ H s) (hv : Vals ys its) (hz : ys.length ≤ sizeLine) :
  Inv X pins σ (upd H s.heap.objs.size (.lst ys)) { s with heap := s.heap.push { cls := .type "list",data := .seq its.toArray },toks := t' } :=
 I.laid (fun _ _ q => Heap.get?_push_of_some _ q) (Nat.le_refl _) ⟨hz,its,0,hv,Heap.get?_push_size _ rfl⟩
theorem Inv.fresh (I : Inv X pins σ H s) : H s.heap.objs.size = none := I.hok.fresh (Nat.le_refl _)
theorem Inv.lstM (I : Inv X pins σ H s) (hH : H l = some (.lst xs)) : xs.length ≤ sizeLine ∧ ∃ (its : List Value) (n : Nat),Vals xs its ∧ xs.length = its.length ∧ s.heap.get? l = some { cls := .type "list",data := .seq its.toArray n } := by
 obtain ⟨z,its,n,r,e⟩ := I.hok l _ hH
 exact ⟨z,its,n,r,r.length,e⟩
theorem JdD {n : Nat} (h : n ≤ sizeLine) : Builtin.List.listTooLong n = false := by
 unfold Builtin.List.listTooLong
 exact decide_eq_false (by omega)
end
section
variable {X : Cx}
noncomputable def JdY : V → List V → Hp → VK → Prop := fun x vs H Q => ∃ l xs y,x = .ref l ∧ vs = [y] ∧ H l = some (.lst xs) ∧ xs.length < sizeLine ∧ Q .non (upd H l (.lst (xs ++ [y])))
theorem JW : MtM X "list.append" JdY := by
 intro pins s σ H x vs v us Q I rx rv h
 obtain ⟨l,xs,y,rfl,rfl,hH,hz,q⟩ := h
 cases rx
 obtain ⟨u,rfl,ru⟩ := rv.one
 obtain ⟨z,its,n,r,hl,e⟩ := I.lstM hH
 refine call_meets F.slot_list_append ⟨_,e,rfl⟩ F.entry_list_append (F.args_list_append_2 _ _) (PySem.list_append l its.toArray n u (by rw [List.size_toArray]; omega)) ⟨e,?_⟩
 refine ⟨.non,_,I.lset (its' := its ++ [u]) hH e (by simp) (r.append (.cons ru .nil)) ?_,rfl,q⟩
 rw [List.length_append,List.length_singleton]
 omega
noncomputable def rCat : R2 := fun x y H Q => ∃ l b xs zs,x = .ref l ∧ y = .ref b ∧ H l = some (.lst xs) ∧ H b = some (.lst zs) ∧ xs.length + zs.length ≤ sizeLine ∧ ∀ p,H p = none → Q (.ref p) (upd H p (.lst (xs ++ zs)))
theorem J3z : OpR X (binaryOp .Add) rCat := by
 intro pins s σ H x y v u Q I rx ry h
 obtain ⟨l,b,xs,zs,rfl,rfl,hH,hB,hz,q⟩ := h
 cases rx
 cases ry
 obtain ⟨z,its,n,r,hl,e⟩ := I.lstM hH
 obtain ⟨z2,its2,n2,r2,hl2,e2⟩ := I.lstM hB
 refine PySem.P.add_list e e2 ?_ (by rw [List.size_toArray,List.size_toArray]; omega)
 have ea : its.toArray ++ its2.toArray = (its ++ its2).toArray := by simp
 rw [ea]
 exact ⟨.ref _,_,I.lnew (t' := s.toks) (r.append r2) (by rw [List.length_append]; omega),rfl,q _ I.fresh⟩
end
section
variable {prog : Program} {w : World} {A : Around} {E : Value → Shared → Prop} {s : Shared}
end
section
variable {X : Cx}
end
end L2
namespace Att
open PySem PySem.W PySem.Calls PyProof.Rows
theorem J5Z {P : Params} {h : Heap} : ∀ (ns : List Int) (vs : List Value),WellAll P h vs (ns.map WData.int) → IntsAre vs ns := by
 intro ns
 induction ns with
 | nil =>
  intro vs w
  rw [List.map_nil] at w
  cases w
  exact .nil
 | cons n ns ih =>
  intro vs w
  rw [List.map_cons] at w
  cases w with
  | cons a b =>
   cases a
   exact .cons _ _ (ih _ b)
theorem JbT {l : OpenLaw} {n : Nat} (hn : l.most = some n) {P : Params} {h : Heap} {args : List WData} {vals : List Value}
  (hpre : l.row.toRowW.claim.pre args = true) (hwl : WellAll P h vals args) :
  ∃ a vs ns,vals = [Value.ref a] ∧ args = [WData.list (ns.map WData.int)] ∧ h.get? a = some { cls := .type "list",data := .seq vs.toArray } ∧ IntsAre vs ns ∧ ns.length ≤ n := by
 have hsh : WShape.hasAll [] args [.list .int] = true := (pre_splitW hpre).1
 have hc : l.pre.holds [] { args := args } = true := (pre_splitW hpre).2
 obtain ⟨d,r,rfl,h1,h2⟩ := hasAllW_cons hsh
 obtain rfl := hasAllW_nil h2
 obtain ⟨xs,rfl,h3⟩ := hasW_list h1
 obtain ⟨ns,rfl⟩ := items_int h3
 have hlen : ns.length ≤ n := by
  unfold OpenLaw.pre at hc
  have h4 : (WTm.not (.lt (.lit (.int (n : Int))) (.len (.arg 0)))).holds [] { args := [.list (ns.map .int)] } = true := by
   have h4 := (holds_andW hc).1
   rw [hn] at h4
   exact h4
  have h5 := condW_of h4 (w_not (w_lt w_lit (w_len_list (w_arg rfl))))
  rw [List.length_map] at h5
  refine Nat.le_of_not_lt fun q => ?_
  have q' : (n : Int) < ((ns.length : Nat) : Int) := by omega
  first
   | (rw [decide_eq_true q'] at h5; exact absurd h5 (by decide))
   | (simp at h5; omega)
 cases hwl with
 | cons w1 w2 =>
  cases w2
  cases w1 with
  | list ho hall => exact ⟨_,_,ns,rfl,rfl,ho,J5Z ns _ hall,hlen⟩
theorem JbM (l : OpenLaw) (args : List WData) : l.row.toRowW.claim.post args (.bool true) args = true :=
 postW_of (r := l.row.toRowW) (X := (true == true))
  (show WShape.has [] (.bool true) .bool = true by first | rfl | decide | simp [WShape.has,WShape.arms,WShape.armsAll])
  (show (WTm.eq .res (.lit (.bool true))).value [] { args := args,res := some (.bool true),after := args } = some (.bool (true == true)) from w_eq_bool (w_res rfl) w_lit) rfl
theorem attach_call {l : OpenLaw} {n : Nat} {q : Program} {loose : List Str} {XP : (Str → Option Value) → Heap → Prop} {YP : World → Heap → Prop} {d : DefRec}
  (hn : l.most = some n) (hdf : d.params.defaults = [])
  (call : ∀ (w : World) (s₀ s₁ : Shared) (mg mb : Str → Option Value) (fa : Addr) (o : Obj) (pm cd doc : Value) (a : Addr) (vs : List Value) (ns : List Int),
   Ground q loose [] XP w s₀ mg mb s₁.heap → YP w s₁.heap →
   s₁.heap.get? fa = some o → o.data = .func (docDef d.name d.params d.body d.scope pm cd doc) → s₁.heap.CodeRec cd d.name → mg d.name = some (.ref fa) →
   s₁.heap.get? a = some { cls := .type "list",data := .seq vs.toArray } → IntsAre vs ns → ns.length ≤ n → s₁.gens = #[] →
   codeAny (model l.prog w) callerA (.call (.ref fa) ⟨[.ref a],[]⟩) (fun r s' => r = .ok (.ret (.bool true)) ∧ OldK s₁.heap s'.heap ∧ s'.os = s₁.os ∧ AllBare s'.gens) s₁) :
  WalkO q loose XP YP l.row.toRowW d [] (fun f vs => PySem.call f vs) := by
 intro w s₀ s₁ mg mb G Y fa o pm cd doc dV kV ho hd hcd hD hmg hg args vals as hpre hlay hrd hwl hlo
 obtain rfl : dV = .none := Dflts.none hD hdf
 obtain rfl : kV = .none := Dflts.noKw hD
 obtain ⟨a,vs,ns,rfl,rfl,hobj,hints,hlen⟩ := JbT hn hpre hwl
 refine enter_call (codeAny_mono (call w s₀ s₁ mg mb fa o pm cd doc a vs ns G Y ho (fd_plain hd) hcd hmg hobj hints hlen hg) fun r s' hq => ?_)
 obtain ⟨rfl,h2,h3,h4⟩ := hq
 exact ⟨.inl ⟨.bool true,.bool true,[],rfl,fun _ => rfl,.bool true,JbM l _,fun _ => ⟨List.Pairwise.nil,fun _ hm => (nomatch hm)⟩⟩,h2,h3,h4⟩
section
variable {prog : Program} {w : World} {A : Around} {E : Value → Shared → Prop} {s : Shared} {K : Frag}
end
end Att
namespace L2
open PySem PySem.Spec PyProof.Rows
theorem J7L : ∀ {vs : List Value} {ns : List Int},IntsAre vs ns → Vals (ns.map V.int) vs
 | _,_,.nil => .nil
 | _,_,.cons n t h => .cons ⟨t,rfl⟩ (J7L h)
noncomputable def Only (H : Hp) : Prop := ∀ b,H b = none ∨ ∃ o xs,H b = some (.frz o (.lst xs))
theorem JdE {P : Program} {w : World} {K : PySem.W.Frag} {mg mb : Str → Option Value} {CX : CXT} {k : Nat} {fa a : Addr} {fd : FuncData} {x : Str} {sp : Sp} {s₁ : Shared} {vs : List Value} {ns : List Int}
  (KX : K.In s₁.heap) (hns : s₁.heap.Ns mainGlobals mg) (hb : s₁.heap.Ns builtinsNs mb) (hbb : ∀ x : Str,x ≠ "__name__" → mb x = bootBuiltins x) (hlim : s₁.heap.NoLimit) (hg : s₁.gens = #[])
  (ha : s₁.heap.get? a = some { cls := .type "list",data := .seq vs.toArray }) (hi : IntsAre vs ns) (hl : ns.length ≤ sizeLine) (hr : Room k callerA)
  (F : ∀ base : Heap,K.In base → base.Ns mainGlobals mg → FnOk P w K mg base CX k fa fd [x] sp) (hbind : ∀ (s : Shared) (u : Value),BindsTo s fd ⟨[u],[]⟩ [(x,u)])
  (hsp : ∀ H : Hp,Only H → SqL K H a (ns.map V.int) → sp [.ref a] H (fun v _ => v = .bl true) fun _ _ _ => False)
  (hCX : ∀ H e s',CX [] H s₁ (fun _ _ _ => False) e s' → False) :
  codeAny (model P w) callerA (.call (.ref fa) ⟨[.ref a],[]⟩) (fun r s' => r = .ok (.ret (.bool true)) ∧ OldK s₁.heap s'.heap ∧ s'.os = s₁.os ∧ AllBare s'.gens) s₁ := by
 have rv := J7L hi
 have lenV := hi.length
 have core : ∀ H : Hp,Only H → SqL K H a (ns.map V.int) → HOk P w H s₁.heap → (∀ b,H b ≠ none → b = a) → (H a ≠ none → K.lookup a = none) →
   codeAny (model P w) callerA (.call (.ref fa) ⟨[.ref a],[]⟩) (fun r s' => r = .ok (.ret (.bool true)) ∧ OldK s₁.heap s'.heap ∧ s'.os = s₁.os ∧ AllBare s'.gens) s₁ := by
  intro H hO hS hok hA hK
  have base_of : ∀ {b : Addr} {o : Obj},s₁.heap.get? b = some o → H b = none → (hidT s₁.heap H).get? b = some o := fun e n => JcW e n
  have noA : ∀ {b : Addr} {o : Obj} {es : Array DictEntry} {ep : Nat},s₁.heap.get? b = some o → o.data = .dict es ep → H b = none := fun {b o es ep} e d => by
   cases q : H b with
   | none => rfl
   | some u =>
    have e' : b = a := hA b (by rw [q]; simp)
    subst e'
    rw [ha] at e; cases e
    have d' : Data.seq vs.toArray _ = Data.dict es ep := d
    cases d'
  have nsK : ∀ {b : Addr} {m : Str → Option Value},s₁.heap.Ns b m → (hidT s₁.heap H).Ns b m := fun {b m} ⟨o,es,ep,e,d,r⟩ => ⟨o,es,ep,base_of e (noA e d),d,r⟩
  have hKb : K.In (hidT s₁.heap H) := fun b o e => base_of (KX b o e) (by
   cases q : H b with
   | none => rfl
   | some u =>
    have e' : b = a := hA b (by rw [q]; simp)
    subst e'
    rw [hK (by rw [q]; simp)] at e; cases e)
  have hM : Mod K mg (hidT s₁.heap H) := ⟨hKb,nsK hns,⟨mb,nsK hb,hbb⟩,let ⟨mc,h1,h2⟩ := hlim; ⟨mc,nsK h1,h2⟩⟩
  have e0 : Env0 P w K mg (hidT s₁.heap H) callerA [] s₁ H := ⟨rfl,hM,fun b o e => Jec e,Nat.le_of_eq (Jcj _ _),trivial,fun b hb => absurd (show b ∈ ([] : List Addr) from hb) (by simp),hok,.of_eq hg⟩
  refine codeAny_mono ((F _ hKb (nsK hns)).run callerA [] s₁ H ⟨[.ref a],[]⟩ [.ref a] [.ref a] _ _ hr e0 (hbind s₁ (.ref a)) (.cons rfl .nil) (hsp H hO hS)) fun r s' h => ?_
  cases r with
  | error e => exact (hCX H e s' h).elim
  | ok fl =>
   cases fl with
   | next => exact False.elim h
   | brk => exact False.elim h
   | cont => exact False.elim h
   | ret u =>
    obtain ⟨v,H',os,bare,un,hok',r',q⟩ := h
    have q' : v = .bl true := q
    subst q'
    obtain rfl : u = Value.bool true := r'
    refine ⟨rfl,OldK.of_keep fun b o e => ?_,os,bare⟩
    cases q : H b with
    | none => exact un.keep b o e q (by intro z; exact absurd (show b ∈ ([] : List Addr) from z) (by simp)) (by simp)
    | some u =>
     rcases hO b with z | ⟨ob,xs,z⟩
     ·rw [q] at z; cases z
     ·have z2 := un.frzs b ob _ z
      obtain ⟨e1,_⟩ := hok b _ z
      obtain ⟨e2,_⟩ := hok' b _ z2
      rw [e] at e1; cases e1
      exact e2
 cases hk : K.lookup a with
 | some o =>
  have e := KX a o hk
  rw [ha] at e
  cases e
  refine core (fun _ => none) (fun _ => .inl rfl) (.inr ⟨_,vs.toArray,_,hk,rfl,rfl,rfl,by rw [List.size_toArray,lenV]; exact hl,by simpa using rv⟩) (fun b u z => by have z' : (none : Option HO) = some u := z; cases z') (fun b z => absurd rfl z) fun z => absurd rfl z
 | none =>
  refine core (fun b => if b = a then some (.frz { cls := .type "list",data := .seq vs.toArray } (.lst (ns.map V.int))) else none) (fun b => ?_) (.inl (.inr ⟨{ cls := .type "list",data := .seq vs.toArray },if_pos rfl⟩)) (fun b u z => ?_) (fun b z => ?_) fun _ => hk
  ·by_cases hb : b = a
   ·exact .inr ⟨_,_,if_pos hb⟩
   ·exact .inl (if_neg hb)
  ·by_cases hb : b = a
   ·have z' := (if_pos hb).symm.trans z
    cases z'
    subst hb
    exact ⟨ha,by rw [List.length_map]; exact hl,vs,_,rv,ha⟩
   ·have z' := (if_neg hb).symm.trans z
    cases z'
  ·by_cases hb : b = a
   ·exact hb
   ·exact absurd (if_neg hb) z
end L2
namespace L2
open PySem PySem.Spec PyProof.Rows
theorem walk_of {l : PySem.W.OpenLaw} {n k : Nat} {q : Program} {loose : List Str} {XP : (Str → Option Value) → Heap → Prop} {YP : World → Heap → Prop} {d : DefRec} {K : Params → PySem.W.Frag} {CX : World → CXT} {sp : World → Sp} {x : Str}
  (hn : l.most = some n) (hn2 : n ≤ sizeLine) (hdf : d.params.defaults = []) (hr : Room k callerA)
  (hY : ∀ (w : World) (h : Heap),YP w h → (K w.params).In h)
  (F : ∀ (w : World) (mg : Str → Option Value) (fa : Addr) (h : Heap),(K w.params).In h → h.Ns mainGlobals mg → mg d.name = some (.ref fa) →
   ∃ fd : FuncData,(∀ (s : Shared) (u : Value),BindsTo s fd ⟨[u],[]⟩ [(x,u)]) ∧
    ∀ base : Heap,(K w.params).In base → base.Ns mainGlobals mg → FnOk l.prog w (K w.params) mg base (CX w) k fa fd [x] (sp w))
  (hsp : ∀ (w : World) (H : Hp) (a : Addr) (ns : List Int),ns.length ≤ n → Only H → SqL (K w.params) H a (ns.map V.int) → sp w [.ref a] H (fun v _ => v = .bl true) fun _ _ _ => False)
  (hCX : ∀ (w : World) (H : Hp) (s : Shared) (e : Value) (s' : Shared),CX w [] H s (fun _ _ _ => False) e s' → False) :
  PySem.W.WalkO q loose XP YP l.row.toRowW d [] (fun f vs => PySem.call f vs) := by
 refine Att.attach_call hn hdf fun w s₀ s₁ mg mb fa o pm cd doc a vs ns G Y ho hd hcd hmg hobj hints hlen hg => ?_
 have KX := hY w _ Y
 obtain ⟨fd,hb,hF⟩ := F w mg fa _ KX G.T.g hmg
 exact JdE KX G.T.g G.T.b G.T.builtins G.T.nolimit hg hobj hints (Nat.le_trans hlen hn2) hr hF hb (fun H hO hS => hsp w H a ns hlen hO hS) fun H e s' => hCX w H s₁ e s'
end L2
namespace L2
open PySem PySem.Spec PyProof.Rows
noncomputable def J0K (s : Stmt) (j : Nat) : Stmt := match s with
 | .ClassDef _ _ _ body _ _ _ _ _ _ _ => body.getD j (.Pass ⟨0,0,0,0⟩)
 | _ => .Pass ⟨0,0,0,0⟩
noncomputable def Jp (s : Stmt) : Arguments := match s with
 | .FunctionDef _ a _ _ _ _ _ _ _ _ => a
 | _ => { posonlyargs := [],args := [],vararg := none,kwonlyargs := [],kw_defaults := [],kwarg := none,defaults := [] }
noncomputable def Jo (s : Stmt) : List Stmt := match s with
 | .FunctionDef _ _ b _ _ _ _ _ _ _ => b
 | _ => []
noncomputable def J4 (s : Stmt) : Scope := match s with
 | .FunctionDef _ _ _ _ _ _ sc _ _ _ => sc
 | _ => { kind := .function,names := [],isGenerator := false,isCoroutine := false }
noncomputable abbrev CX0 : CXT := fun _ _ _ _ _ _ => False
noncomputable abbrev E0 : XK := fun _ _ _ => False
theorem Jbm {X : Cx} : J72 CX0 X E0 := fun _ _ _ _ _ _ _ h => h.elim
structure Fun (K : PySem.W.Frag) (x qual : Str) (st : Stmt) (f : Addr) (fd : FuncData) : Prop where
 ex : ∃ (oc : Value) (od : Option Addr) (kV doc pm : Value) (an : Option Addr) (cdv ct : Value) (osl : Array (Option Value)),
  fd = PySem.W.fnOf x qual (Jp st) (Jo st) (J4 st) .none kV doc pm an cdv ct ∧ K.lookup f = some ⟨oc,od,.func fd,osl⟩ ∧ PySem.W.codeIn K cdv qual = true
 kp : PySem.W.keepIn K (.ref f) = true
section
variable {P : Program} {w : World} {K : PySem.W.Frag} {mg : Str → Option Value} {base : Heap}
theorem Fun.ok {x qual : Str} {st : Stmt} {f : Addr} {fd : FuncData} {N ps : List Str} {k : Nat} {sp : Sp} (F : Fun K x qual st f fd) (S : Jr N ps (J4 st)) (len : ∀ vs H Q E,sp vs H Q E → vs.length = ps.length)
  (hbody : ∀ (cdv : Value) (A : Around) (outer : List Env) (s : Shared) (H : Hp) (vs : List V) (Q : VK) (E : XK),Room k (A.deeper (envOfC qual (J4 st) s.heap.objs.size f cdv)) → sp vs H Q E →
   ∃ t,PSs (cxOf CX0 P w K mg base N qual (J4 st) f cdv A outer s H E).nox (Jo st) t ∧ t { nx := fun _ H' => Q .non H',rt := Q } (start N vs) H) : FnOk P w K mg base CX0 (k + 1) f fd ps sp := by
 obtain ⟨oc,od,kV,doc,pm,an,cdv,ct,osl,rfl,lk,hcd⟩ := F.ex
 refine Jg8 lk hcd S len fun A outer s H vs Q E hr hsp => ?_
 obtain ⟨t,h,q⟩ := hbody cdv A outer s H vs Q E hr hsp
 exact ⟨t,h.nox,q⟩
theorem Fun.binds {x qual : Str} {st : Stmt} {f : Addr} {fd : FuncData} {ps : List Str} (F : Fun K x qual st f fd)
  (h : ∀ (kV doc pm : Value) (an : Option Addr) (cdv ct : Value) (us : List Value),us.length = ps.length → bindArgs (PySem.W.fnOf x qual (Jp st) (Jo st) (J4 st) .none kV doc pm an cdv ct) ⟨us,[]⟩ = pure (ps.zip us)) : J4h K fd ps [] := by
 obtain ⟨oc,od,kV,doc,pm,an,cdv,ct,osl,rfl,lk,hcd⟩ := F.ex
 exact .all (h kV doc pm an cdv ct)
theorem Jy {x qual : Str} {st : Stmt} {f : Addr} {oc : Value} {od an : Option Addr} {osl : Array (Option Value)} {kV doc pm cdv ct : Value} (l : K.lookup f = some ⟨oc,od,.func (PySem.W.fnOf x qual (Jp st) (Jo st) (J4 st) .none kV doc pm an cdv ct),osl⟩)
  (c : PySem.W.codeIn K cdv qual = true) (k : PySem.W.keepIn K (.ref f) = true) : Fun K x qual st f (PySem.W.fnOf x qual (Jp st) (Jo st) (J4 st) .none kV doc pm an cdv ct) := ⟨⟨oc,od,kV,doc,pm,an,cdv,ct,osl,rfl,l,c⟩,k⟩
end
theorem JeG {A : Around} {k : Nat} (hr : Room k A) : A.units + 1 < cLine := Nat.lt_of_le_of_lt (Nat.add_le_add_left (by decide : 1 ≤ 64) _) hr.units
section
variable {X : Cx}
theorem pv (i : Nat) {x : Str} {pos : Pos} (hN : X.N[i]? = some x := by rfl) (hv : Vis X.env.scope x := by first | exact Or.inl rfl | exact Or.inr (Or.inl rfl) | exact Or.inr (Or.inr rfl)) (hd : (x == ("__debug__" : Str)) = false := by decide)
  (hcd : (x == ("__classdict__" : Str)) = false := by decide) : PE X (.Name x pos) (tVar i) := Jfr hN hv hd hcd
end
theorem iteF {A B : Prop} (h : B) : if false = true then A else B := by
 rw [if_neg Bool.false_ne_true]
 exact h
theorem iteT {A B : Prop} (h : A) : if true = true then A else B := by
 rw [if_pos rfl]
 exact h
theorem ite2 {c A B : Prop} [Decidable c] (h1 : c → A) (h2 : ¬ c → B) : if c then A else B := by
 by_cases h : c
 ·rw [if_pos h]
  exact h1 h
 ·rw [if_neg h]
  exact h2 h
theorem JfW {c A B : Prop} [Decidable c] (hc : c) (h : B) : if (!decide c) = true then A else B := by
 rw [decide_eq_true hc]
 exact iteF h
noncomputable def Same (H H' : Hp) : Prop := ∀ b o,H b = some o → H' b = some o
theorem Same.refl (H : Hp) : Same H H := fun _ _ h => h
theorem Same.trans {H H1 H2 : Hp} (a : Same H H1) (b : Same H1 H2) : Same H H2 := fun c o h => b c o (a c o h)
theorem Same.free {H H' : Hp} (e : Same H H') {l : Addr} (h : H' l = Option.none) : H l = Option.none := by
 cases q : H l with
 | none => rfl
 | some o =>
  rw [e l o q] at h
  cases h
theorem Same.seq {K : PySem.W.Frag} {H H' : Hp} {a : Addr} {xs : List V} (e : Same H H') (h : SqL K H a xs) : SqL K H' a xs := by
 rcases h with (h | ⟨o,h⟩) | h
 ·exact .inl (.inl (e _ _ h))
 ·exact .inl (.inr ⟨o,e _ _ h⟩)
 ·exact .inr h
end L2
set_option linter.all false
set_option maxRecDepth 100000
set_option maxHeartbeats 4000000
namespace L2
open PySem PySem.Spec PyProof.Rows
theorem J4f {scope : Scope} {env : Env} (h : ∀ y ∈ scope.names,y.2 = .free → ∃ c,env.cells.lookup y.1 = some c) :
  ∃ cl,closureFor scope env = pure cl ∧ (∀ y ∈ scope.names,y.2 = NameKind.free → cl.lookup y.1 = env.cells.lookup y.1) ∧ (∀ x c,cl.lookup x = some c → env.cells.lookup x = some c) := by
 have key : ∀ (names : List (Str × NameKind)) (acc : List (Str × Addr)) (f : Str × NameKind → List (Str × Addr) → Sem (ForInStep (List (Str × Addr)))),
   (∀ x cs,f x cs = if (x.2 == NameKind.free) = true then (cellOf env x.1 >>= fun a => pure (ForInStep.yield ((x.1,a) :: cs))) else pure (ForInStep.yield cs)) →
   (∀ y ∈ names,y.2 = .free → ∃ c,env.cells.lookup y.1 = some c) → (∀ x c,acc.lookup x = some c → env.cells.lookup x = some c) →
   ∃ cl,forIn names acc f = pure cl ∧ (∀ x c,acc.lookup x = some c → cl.lookup x = env.cells.lookup x) ∧ (∀ y ∈ names,y.2 = NameKind.free → cl.lookup y.1 = env.cells.lookup y.1) ∧ (∀ x c,cl.lookup x = some c → env.cells.lookup x = some c) := by
  intro names
  induction names with
  | nil =>
   intro acc f _ _ ha
   exact ⟨acc,rfl,fun x c e => by rw [e,ha x c e],fun _ h => (nomatch h),ha⟩
  | cons y r ih =>
   intro acc f hf hn ha
   obtain ⟨n,k⟩ := y
   rw [List.forIn_cons,hf]
   by_cases hk : k = .free
   ·subst hk
    obtain ⟨c,hc⟩ := hn (n,.free) List.mem_cons_self rfl
    have hc' : cellOf env n = pure c := by unfold cellOf; rw [hc]
    have ha' : ∀ x d,((n,c) :: acc).lookup x = some d → env.cells.lookup x = some d := fun x d e => by
     rw [List.lookup_cons] at e
     cases hx : x == n with
     | true =>
      rw [hx] at e
      have e' : c = d := Option.some.inj e
      have hx' : x = n := by simpa using hx
      rw [hx',hc,e']
     | false =>
      rw [hx] at e
      exact ha x d e
    obtain ⟨cl,e,h1,h2,h3⟩ := ih ((n,c) :: acc) f hf (fun y hy => hn y (List.mem_cons_of_mem _ hy)) ha'
    refine ⟨cl,?_,fun x d ex => ?_,fun y hy hyf => ?_,h3⟩
    ·rw [if_pos (by rfl)]
     show ((cellOf env n >>= fun a => pure (ForInStep.yield ((n,a) :: acc))) >>= _) = pure cl
     rw [hc',pure_bind,pure_bind]
     exact e
    ·by_cases hxn : x = n
     ·subst hxn
      exact h1 x c (by rw [List.lookup_cons,beq_self_eq_true])
     ·refine h1 x d ?_
      rw [List.lookup_cons,beq_eq_false_iff_ne.mpr hxn]
      exact ex
    ·rcases List.mem_cons.mp hy with rfl | hy
     ·exact h1 _ c (by rw [List.lookup_cons,beq_self_eq_true])
     ·exact h2 y hy hyf
   ·have hb : (k == NameKind.free) = false := by simpa using hk
    obtain ⟨cl,e,h1,h2,h3⟩ := ih acc f hf (fun y hy => hn y (List.mem_cons_of_mem _ hy)) ha
    refine ⟨cl,?_,h1,fun y hy hyf => ?_,h3⟩
    ·show ((if (k == NameKind.free) = true then _ else pure (ForInStep.yield acc)) >>= _) = pure cl
     rw [if_neg (by rw [hb]; exact Bool.false_ne_true),pure_bind]
     exact e
    ·rcases List.mem_cons.mp hy with rfl | hy
     ·exact absurd hyf hk
     ·exact h2 y hy hyf
 have z := key scope.names [] (fun x cs => if (x.2 == NameKind.free) = true then (cellOf env x.1 >>= fun a => pure (ForInStep.yield ((x.1,a) :: cs))) else pure (ForInStep.yield cs)) (fun _ _ => rfl) h (fun _ _ e => (nomatch e))
 obtain ⟨cl,e,_,h2,h3⟩ := z
 refine ⟨cl,?_,h2,h3⟩
 show (forIn scope.names [] _ >>= pure) = pure cl
 exact (congrArg (· >>= pure) e).trans (pure_bind _ _)
noncomputable abbrev J1l (X : Cx) (scope : Scope) (N : List Str) (s₀ : Shared) (H₀ : Hp) (cl : List (Str × Addr)) (C : Addr) (ex : List Addr) : Cx :=
 {prog := X.prog,w := X.w,K := X.K,mg := X.mg,base := X.base,A := X.A,N := N,s₀ := s₀,H₀ := H₀,env := compEnvC scope cl C X.env,
  outer := X.stack,stack := X.stack,ex := ex,fn := fun _ => false,calm := X.calm,pn := [],xe := fun _ _ => False }
theorem J4R {prog : Program} {w : World} {A : Around} {R : Result → Shared → Prop} {s : Shared} {elt target iter : Expr} {ifs : List Expr} {scope : Scope} {pos : Pos} {it acc : Value} {env : Env} (I : Nat → Shared → Prop)
  (turn : ∀ n s,I n s → wpAny (model prog w) A (pyNext it) (fun r s₁ => match r with
   | none => R (.ok .next) s₁
   | some v => wpAny (model prog w) A (letOwnedTupleGo target it v) (fun _ s₁' => wpAny (model prog w) A (assign target env v) (fun _ s₂ =>
     wpAny (model prog w) A (forIn ifs true fun c r => if r = true then do let ok ← isTrue c env (eval c env); pure (ForInStep.yield ok) else pure (ForInStep.yield r)) (fun ok s₃ =>
      if ok = true then wpAny (model prog w) A (eval elt env) (fun x s₄ =>
       wpAny (model prog w) A (call (.builtin "list.append") [acc,x]) (fun _ s₅ => ∃ m,m < n ∧ I m s₅) (fun _ _ => False) s₄) (fun _ _ => False) s₃
      else ∃ m,m < n ∧ I m s₃) (fun _ _ => False) s₂) (fun _ _ => False) s₁') (fun _ _ => False) s₁) (fun _ _ => False) s)
  (n : Nat) (h : I n s) :
  codeAny (model prog w) A (.compLoop (.ListComp elt [⟨target,iter,ifs,0⟩] scope pos) 0 it acc env) R s := by
 refine codeAny_loop rfl I (fun n s hI => ?_) n h
 show wpAny _ A ((compTurn (.ListComp elt [⟨target,iter,ifs,0⟩] scope pos) 0 it acc env).onRaise (fun x => do noteFrame x env; theTreesLotGoes x)) _ _ s
 refine wpAny_noted ?_
 rw [compTurn_list]
 refine wpAny_bind (wpAny_standAt (wpAny_bind (wpAny_mono (turn n s hI) (fun r s₁ h₁ => ?_) fun _ _ z => z.elim)))
 cases r with
 | none => exact wpAny_pure h₁
 | some v =>
  refine wpAny_bind (wpAny_mono h₁ (fun _ s₁' h₁' => ?_) fun _ _ z => z.elim)
  refine wpAny_bind (wpAny_mono h₁' (fun _ s₂ h₂ => wpAny_bind (wpAny_mono h₂ (fun ok s₃ h₃ => ?_) fun _ _ z => z.elim)) fun _ _ z => z.elim)
  cases ok with
  | false => exact wpAny_pure ⟨rfl,h₃⟩
  | true =>
   exact wpAny_bind (wpAny_bind (wpAny_mono h₃ (fun x s₄ h₄ => wpAny_bind (wpAny_mono h₄ (fun _ s₅ h₅ => wpAny_pure (wpAny_pure ⟨rfl,h₅⟩)) fun _ _ z => z.elim)) fun _ _ z => z.elim))
noncomputable def PIfs (X : Cx) (ifs : List Expr) (t : TT) : Prop :=
 ∀ (pins : List (Addr × Obj)) (s : Shared) (σ : St) (H : Hp) (Q : Bool → Hp → Prop),Inv X pins σ H s → t σ H Q →
  wpAny (model X.prog X.w) X.A (forIn ifs true fun c r => if r = true then do let ok ← isTrue c X.env (eval c X.env); pure (ForInStep.yield ok) else pure (ForInStep.yield r)) (TP X pins σ Q) X.xe s
noncomputable def tYes : TT := fun _ H Q => Q true H
theorem J0A {X : Cx} : PIfs X [] tYes := fun _ _ _ H _ I h => wpAny_tests_nil ⟨H,I,h⟩
theorem J17 {X : Cx} {c : Expr} {t : TT} (hc : PT X c t) : PIfs X [c] t := fun pins s σ H Q I h => wpAny_tests_one (hc pins s σ H Q I h)
noncomputable def J4e (J : It) (H1 : Hp) (σ0 : St) (g : TG) (tc : TT) (te : TE) (Q : VK) : Prop := ∀ D,H1 D = none →
  ∃ W : Nat → Nat → St → List V → Hp → Prop,(∃ m,W 0 m σ0 [] (upd H1 D (.lst []))) ∧ ∀ i m σ1 ys H,W i m σ1 ys H →
    (J.stop i H ∧ Q (.ref D) H) ∨ (J.go i H ∧ ∀ x H',J.yld i H x H' → g x σ1 H' fun σ2 H2 => tc σ2 H2 fun b H3 =>
       if b = true then te σ2 H3 fun y H4 => H4 D = some (.lst ys) ∧ ys.length < sizeLine ∧ ∃ m',m' < m ∧ W (i + 1) m' σ2 (ys ++ [y]) (upd H4 D (.lst (ys ++ [y])))
       else ∃ m',m' < m ∧ W (i + 1) m' σ2 ys H3)
noncomputable def Jdt (wi : TI) (sub : St → St) (g : TG) (tc : TT) (te : TE) : TE := fun σ H Q => wi σ H fun J H1 => J4e J H1 (sub σ) g tc te Q
noncomputable def subσ (js : List (Option Nat)) (σ : St) : St := js.map fun o => o.bind fun j => (σ[j]?).join
theorem J1P {env : Env} : ∀ {names : List (Str × NameKind)} {x : Str},names.lookup x = some .free →
  (names.map fun (n,k) => if (k == NameKind.free && env.scope.kind == .function && env.kindOf n == some .cell) then (n,NameKind.cell) else (n,k)).lookup x = some .cell ∨
  (names.map fun (n,k) => if (k == NameKind.free && env.scope.kind == .function && env.kindOf n == some .cell) then (n,NameKind.cell) else (n,k)).lookup x = some .free
 | [],_,h => by simp at h
 | (n,k) :: r,x,h => by
  have ih := @J1P env r x
  show List.lookup x ((if (k == NameKind.free && env.scope.kind == .function && env.kindOf n == some .cell) = true then (n,NameKind.cell) else (n,k)) :: _) = _ ∨ List.lookup x ((if (k == NameKind.free && env.scope.kind == .function && env.kindOf n == some .cell) = true then (n,NameKind.cell) else (n,k)) :: _) = _
  cases hx : x == n with
  | true =>
   simp only [List.lookup_cons,hx] at h
   cases h
   by_cases hc : (NameKind.free == NameKind.free && env.scope.kind == .function && env.kindOf n == some .cell) = true
   ·rw [if_pos hc]; left; simp only [List.lookup_cons,hx]
   ·rw [if_neg hc]; right; simp only [List.lookup_cons,hx]
  | false =>
   simp only [List.lookup_cons,hx] at h
   by_cases hc : (k == NameKind.free && env.scope.kind == .function && env.kindOf n == some .cell) = true
   ·rw [if_pos hc]; simp only [List.lookup_cons,hx]; exact ih h
   ·rw [if_neg hc]; simp only [List.lookup_cons,hx]; exact ih h
theorem J3x {env : Env} : ∀ {names : List (Str × NameKind)} {x : Str},(∀ y ∈ names,y.2 ≠ NameKind.cell) →
  ((names.map fun (n,k) => if (k == NameKind.free && env.scope.kind == .function && env.kindOf n == some .cell) then (n,NameKind.cell) else (n,k)).lookup x = some .cell ∨
  (names.map fun (n,k) => if (k == NameKind.free && env.scope.kind == .function && env.kindOf n == some .cell) then (n,NameKind.cell) else (n,k)).lookup x = some .free) → (x,NameKind.free) ∈ names
 | [],_,_,h => by simp at h
 | (n,k) :: r,x,hn,h => by
  have ih := @J3x env r x fun y hy => hn y (List.mem_cons_of_mem _ hy)
  have hk : k ≠ .cell := hn (n,k) List.mem_cons_self
  change List.lookup x ((if (k == NameKind.free && env.scope.kind == .function && env.kindOf n == some .cell) = true then (n,NameKind.cell) else (n,k)) :: _) = _ ∨ List.lookup x ((if (k == NameKind.free && env.scope.kind == .function && env.kindOf n == some .cell) = true then (n,NameKind.cell) else (n,k)) :: _) = _ at h
  cases hx : x == n with
  | true =>
   have hx' : x = n := by simpa using hx
   subst hx'
   by_cases hc : (k == NameKind.free && env.scope.kind == .function && env.kindOf x == some .cell) = true
   ·have : k = .free := by
     have := (Bool.and_eq_true _ _).mp ((Bool.and_eq_true _ _).mp hc).1
     simpa using this.1
    subst this
    exact List.mem_cons_self
   ·rw [if_neg hc] at h
    simp only [List.lookup_cons,beq_self_eq_true] at h
    rcases h with h | h
    ·exact absurd (Option.some.inj h) hk
    ·have := Option.some.inj h
     subst this
     exact List.mem_cons_self
  | false =>
   by_cases hc : (k == NameKind.free && env.scope.kind == .function && env.kindOf n == some .cell) = true
   ·rw [if_pos hc] at h; simp only [List.lookup_cons,hx] at h; exact List.mem_cons_of_mem _ (ih h)
   ·rw [if_neg hc] at h; simp only [List.lookup_cons,hx] at h; exact List.mem_cons_of_mem _ (ih h)
section
variable {X : Cx} {elt tg iter : Expr} {ifs : List Expr} {scope : Scope} {pos : Pos} {N : List Str} {js : List (Option Nat)} {wi : TI} {g : TG} {tc : TT} {te : TE}
structure J40 (osc : Scope) (ON : List Str) (scope : Scope) (N : List Str) (js : List (Option Nat)) : Prop where
 kind : scope.kind = .function
 cell : ∀ y ∈ scope.names,y.2 ≠ .cell
 names : ∀ y ∈ scope.names,y.2 = .local → scope.names.lookup y.1 = some .local
 free : ∀ y ∈ scope.names,y.2 = .free → osc.names.lookup y.1 = some .cell ∨ osc.names.lookup y.1 = some .free
 len : js.length = N.length
 slots : (js.zip N).all (fun p => match p.1 with | none => true | some j => decide (ON[j]? = some p.2) && decide (scope.names.lookup p.2 = some .free)) = true
theorem J40.sub {osc : Scope} {ON : List Str} {scope : Scope} {N : List Str} {js : List (Option Nat)} (cs : J40 osc ON scope N js) : ∀ (i j : Nat),js[i]? = some (some j) → ∃ x,N[i]? = some x ∧ ON[j]? = some x ∧ scope.names.lookup x = some .free := by
 intro i j h
 have hi : i < js.length := (List.getElem?_eq_some_iff.mp h).1
 have hN : N[i]? = some (N[i]'(by rw [← cs.len]; exact hi)) := List.getElem?_eq_getElem _
 have hz : (js.zip N)[i]? = some (some j,N[i]'(by rw [← cs.len]; exact hi)) := by
  rw [List.getElem?_zip_eq_some]
  exact ⟨h,hN⟩
 have hm := List.all_eq_true.mp cs.slots _ (List.mem_of_getElem? hz)
 have hm2 := (Bool.and_eq_true _ _).mp hm
 exact ⟨_,hN,of_decide_eq_true hm2.1,of_decide_eq_true hm2.2⟩
theorem mem_of_lookup {α : Type} : ∀ {l : List (Str × α)} {x : Str} {k : α},l.lookup x = some k → (x,k) ∈ l
 | [],_,_,h => by simp at h
 | (n,v) :: r,x,k,h => by
  rw [List.lookup_cons] at h
  cases hx : x == n with
  | true =>
   rw [hx] at h
   have hx' : x = n := by simpa using hx
   have : v = k := Option.some.inj h
   subst hx' this
   exact List.mem_cons_self
  | false =>
   rw [hx] at h
   exact List.mem_cons_of_mem _ (mem_of_lookup h)
theorem J0p {osc : Scope} {ON : List Str} (cs : J40 osc ON scope N js) (ho : X.env.scope = osc) (hON : X.N = ON) (hc : X.calm = true) (hi : PI X tg iter wi)
    (hg : ∀ s₀ H₀ cl C ex,PG (J1l X scope N s₀ H₀ cl C ex) tg g) (hif : ∀ s₀ H₀ cl C ex,PIfs (J1l X scope N s₀ H₀ cl C ex) ifs tc) (he : ∀ s₀ H₀ cl C ex,PE (J1l X scope N s₀ H₀ cl C ex) elt te)
    (hs : ∀ x,foldedSetIterable iter X.env x = pure x := by intro _; rfl) : PE X (.ListComp elt [⟨tg,iter,ifs,0⟩] scope pos) (Jdt wi (subσ js) g tc te) := by
  intro pins s σ H Q I h
  subst ho hON
  obtain ⟨cl,hcl,cl1,cl2⟩ := J4f (scope := scope) (env := X.env) fun y hy hf => I.ok.has y.1 (cs.free y hy hf)
  rw [eval_ListComp]
  refine wpAny_comprehension_free (use := none) rfl hs hcl cs.kind cs.names ?_
  refine thn (hi pins s σ H _ I h) fun v s1 h1 => thn h1 fun itv s2 h2 => ?_
  obtain ⟨it,fp,tn,J,H2,e,I2,T,st2,f2,hW⟩ := h2
  subst e
  have hD0 : H2 s2.heap.objs.size = none := I2.hok.fresh (Nat.le_refl _)
  obtain ⟨W,⟨m0,w0⟩,turn⟩ := hW s2.heap.objs.size hD0
  have I3 := I2.lnew (t' := s2.toks) (ys := []) (its := []) .nil (Nat.zero_le _)
  refine wpAny_newObj_type (wpAny_newFunctionEnv cs.cell (by intro y hy; simp at hy) (fun h₁ hns₁ hsb₁ => ?_) cs.kind)
  dsimp only at hns₁ hsb₁ ⊢
  obtain ⟨s3,hs3⟩ : ∃ s3 : Shared,s3 = { s2 with heap := s2.heap.push { cls := .type "list",data := .seq ([] : List Value).toArray },toks := s2.toks } := ⟨_,rfl⟩
  rw [← hs3] at I3
  have e3 : s3.heap = s2.heap.push { cls := .type "list",dict := none,data := .seq ([] : List Value).toArray } := by rw [hs3]
  have e3o : s3.os = s2.os := by rw [hs3]
  have e3g : s3.gens = s2.gens := by rw [hs3]
  rw [← e3] at hns₁ hsb₁ ⊢
  obtain ⟨H3,hH3⟩ : ∃ H3 : Hp,H3 = upd H2 s2.heap.objs.size (.lst []) := ⟨_,rfl⟩
  rw [← hH3] at I3 w0
  have up1 : ∀ b o,s2.heap.get? b = some o → s3.heap.get? b = some o := fun b o q => by rw [e3]; exact Heap.get?_push_of_some _ q
  have up2 : ∀ b o,s3.heap.get? b = some o → h₁.get? b = some o := fun b o q => hsb₁.extBut b o (Nat.ne_of_lt (Heap.lt_size q)) (Heap.get?_push_of_some _ q)
  have fpo : ∀ b ∈ fp,∃ o,s3.heap.get? b = some o := fun b hb => by
    obtain ⟨o,ho,_⟩ := T.obj 0 _ st2 b hb
    exact ⟨o,up1 b o ho⟩
  have fr3 : ∀ b ∈ fp,H3 b = none := fun b hb => by
    obtain ⟨o,ho,_⟩ := T.obj 0 _ st2 b hb
    rw [hH3,Jg (Nat.ne_of_lt (Heap.lt_size ho))]
    exact (f2 b hb).1
  have fpC : ∀ b ∈ fp,b ≠ s3.heap.objs.size := fun b hb => by
    obtain ⟨o,ho⟩ := fpo b hb
    exact Nat.ne_of_lt (Heap.lt_size ho)
  have fpS : ∀ b ∈ fp,b ∉ frs X.stack := fun b hb hs' => by
    rcases List.mem_cons.mp (I2.stkSub b hs') with z | z
    · exact (f2 b hb).2.1 z
    · exact (f2 b hb).2.2.1 z
  have ok' : (J1l X scope N s3 H3 cl s3.heap.objs.size fp).Ok := by
    refine ⟨I.ok.mod,cs.kind,I.ok.glob,I.ok.blt,Nat.le_refl _,fun x y c e1 e2 => I.ok.inj x y c (cl2 x c e1) (cl2 y c e2),fun x hx => ?_,fun x c hf => (nomatch hf),I.ok.hd,I.ok.frames,.inl rfl,fun b hb => ⟨fpC b hb,fun x c e => (f2 b hb).2.2.2.2.1 x c (cl2 x c e)⟩,
      I3.bs,Nat.le_trans I.ok.bsz I3.sz,fun b o e hb => ?_,fun b hb => fpS b hb,I3.stack,I3.stkFree⟩
    · have hm : (x,NameKind.free) ∈ scope.names := J3x cs.cell hx
      obtain ⟨c,hc⟩ := I.ok.has x (cs.free _ hm rfl)
      exact ⟨c,(cl1 _ hm rfl).trans hc⟩
    · rcases (f2 b hb).2.2.2.1 with z | z
      · exact I.ok.noex b o e z
      · exact absurd (Nat.lt_of_lt_of_le (Heap.lt_size e) (Nat.le_trans I.ok.bsz z)) (Nat.lt_irrefl _)
  have cellK : ∀ c v,s3.heap.IsCell c v → h₁.IsCell c v := fun c v ⟨o,ho,hd⟩ => ⟨o,up2 c o ho,hd⟩
  have I4 : ∀ t : Nat,Inv (J1l X scope N s3 H3 cl s3.heap.objs.size fp) [] (subσ js σ) H3 { s2 with heap := h₁,toks := t } := fun t => by
    refine ⟨ok',e3o.symm,I2.bare,Un.kept up2,⟨_,hns₁,fun i x v hi hv hx => ?_⟩,fun x c e => ?_,I3.hok.fresh (Nat.le_refl _),fun x c e => I3.freeC x c (cl2 x c e),fun p hp => (nomatch hp),I3.hok.kept up2,?_⟩
    ·
      have hv' : ∃ j,js[i]? = some (some j) ∧ σ[j]? = some (some v) := by
        unfold subσ at hv
        rw [List.getElem?_map] at hv
        cases hj : js[i]? with
        | none => rw [hj] at hv; cases hv
        | some o =>
          rw [hj] at hv
          cases o with
          | none => cases hv
          | some j =>
            refine ⟨j,rfl,?_⟩
            have hv2 : (σ[j]?).join = some v := Option.some.inj hv
            cases hs2 : σ[j]? with
            | none => rw [hs2] at hv2; cases hv2
            | some u => rw [hs2] at hv2; exact congrArg some hv2
      obtain ⟨j,hj,hσ⟩ := hv'
      obtain ⟨x',h1',h2',h3'⟩ := cs.sub i j hj
      have hxx : x = x' := Option.some.inj (hi.symm.trans h1')
      subst hxx
      have hm : (x,NameKind.free) ∈ scope.names := mem_of_lookup h3'
      have hk := cs.free _ hm rfl
      obtain ⟨m,hn,hl⟩ := id I3.loc
      obtain ⟨u,ru,lk⟩ := hl j x v h2' hσ (by rcases hk with z | z; exact .inr (.inl z); exact .inr (.inr z))
      refine ⟨u,ru,?_⟩
      rcases lk with ⟨k1,_⟩ | ⟨k1,c,e1,z⟩
      · rcases hk with z | z <;> (rw [show X.env.kindOf x = _ from z] at k1; cases k1)
      · exact .inr ⟨J1P h3',c,(cl1 _ hm rfl).trans e1,cellK c _ z⟩
    · obtain ⟨v,z⟩ := I3.cell x c (cl2 x c e)
      exact ⟨v,cellK c v z⟩
    · unfold subσ
      rw [List.length_map]
      exact cs.len
  have hst₁ : tn 0 h₁ := T.keep 0 _ _ st2 fun b hb o q => up2 b o (up1 b o q)
  have stat : ∀ {H' : Hp},(∀ b ∈ fp,H' b = none) → ∀ b ∈ fp,FpOk (J1l X scope N s3 H3 cl s3.heap.objs.size fp) [] H' b := fun hn b hb =>
    ⟨hn b hb,fpC b hb,fpS b hb,.inl hb,fun x c e => (f2 b hb).2.2.2.2.1 x c (cl2 x c e),fun p hp => (nomatch hp)⟩
  have loop : ∀ s4 : Shared,(∃ t,s4 = { s2 with heap := h₁,toks := t }) →
      codeAny (model X.prog X.w) X.A (.compLoop (.ListComp elt [⟨tg,iter,ifs,0⟩] scope pos) 0 (.ref it) (.ref s2.heap.objs.size) (compEnvC scope cl s3.heap.objs.size X.env))
        (compPost (model X.prog X.w) X.A X.xe none (EP X pins σ Q) (.ref s2.heap.objs.size) s3.heap.objs.size) s4 := by
    rintro s4 ⟨t,rfl⟩
    refine J4R (fun n s' => ∃ i σ' ys H',Inv (J1l X scope N s3 H3 cl s3.heap.objs.size fp) [] σ' H' s' ∧ tn i s'.heap ∧ (∀ b ∈ fp,H' b = none) ∧ W i n σ' ys H') ?_ m0 ⟨0,_,[],H3,I4 t,hst₁,fr3,w0⟩
    rintro n s5 ⟨i,σ5,ys,H5,I5,st5,fr5,w5⟩
    rcases turn i n σ5 ys H5 w5 with ⟨stop,qn⟩ | ⟨go,step⟩
    · refine thn (T.done (J1l X scope N s3 H3 cl s3.heap.objs.size fp) rfl rfl rfl hc i [] s5 σ5 H5 _ I5 (stat fr5) st5 stop) fun r s6 ⟨hr,I6⟩ => ?_
      subst hr
      obtain ⟨m,hn,_⟩ := id I6.loc
      refine ⟨m,hn,fun h' hs' => ⟨.ref s2.heap.objs.size,H5,?_,rfl,qn⟩⟩
      have neC : ∀ b o,s3.heap.get? b = some o → b ≠ s3.heap.objs.size := fun b o q => Nat.ne_of_lt (Heap.lt_size q)
      have un : Un (frs X.stack) fp H3 H5 s3.heap h' :=
        ⟨fun b o q n1 hb hx => (hs'.2 b (neC b o q)).trans (I6.base.keep b o q n1 hb hx),
         fun b o q n1 hb hx => by
           obtain ⟨sl,e⟩ := I6.base.slot b o q n1 hb hx
           exact ⟨sl,(hs'.2 b (neC b o q)).trans e⟩,
         fun b o q n1 hx => I6.base.free b o q n1 hx,
         fun b o q hx => by
           obtain ⟨o',e⟩ := I6.base.there b o q hx
           exact ⟨o',(hs'.2 b (neC b o q)).trans e⟩,
         I6.base.tups,I6.base.frzs,I6.base.tbls⟩
      refine I3.call' (ch := fp) (s' := { s6 with heap := h' }) I6.os un (fun b ob e => ?_) I6.bare (fun b hb => ⟨(f2 b hb).2.2.2.1,(f2 b hb).2.1,(f2 b hb).2.2.2.2.1,(f2 b hb).2.2.2.2.2⟩)
      refine (I6.hok b ob e).stay (fun c w' hc' q => (hs'.2 c ?_).trans q) (fun _ q => q) fun _ _ q => q
      rintro rfl
      have fC : H5 s3.heap.objs.size = none := I6.free
      rcases hc' with z | z
      · rw [← z,fC] at e; cases e
      · rw [fC] at z; cases z
    · refine thn (T.item (J1l X scope N s3 H3 cl s3.heap.objs.size fp) rfl rfl rfl hc i [] s5 σ5 H5 _ I5 (stat fr5) st5 go) fun r s6 ⟨u,hr,h6⟩ => ?_
      subst hr
      refine thn h6 fun _ s7 ⟨x,H7,I7,r7,y7,st7,fr7⟩ => ?_
      have I7' := I7.pinned (stat fr7) (T.obj _ _ st7)
      refine thn (hg _ _ _ _ _ _ s7 σ5 H7 x u _ I7' r7 (step x H7 y7)) fun _ s8 ⟨σ8,H8,I8,q8⟩ => ?_
      refine thn (hif _ _ _ _ _ _ s8 σ8 H8 _ I8 q8) fun ok s9 ⟨H9,I9,q9⟩ => ?_
      have again : ∀ {σ' : St} {H' : Hp} {s' : Shared},Inv (J1l X scope N s3 H3 cl s3.heap.objs.size fp) ([] ++ J5D fp s7.heap) σ' H' s' →
          Inv (J1l X scope N s3 H3 cl s3.heap.objs.size fp) [] σ' H' s' ∧ tn (i + 1) s'.heap ∧ ∀ b ∈ fp,H' b = none := fun {σ' H' s'} I' => by
        refine ⟨I'.unpinned,T.keep _ _ _ st7 fun b hb o e => (I'.pin (b,o) (List.mem_append_right _ (List.mem_append_right _ (J23 hb e)))).1,fun b hb => ?_⟩
        obtain ⟨o,e,d⟩ := T.obj _ _ st7 b hb
        exact (I'.pin (b,o) (List.mem_append_right _ (List.mem_append_right _ (J23 hb e)))).2.1
      cases ok with
      | false =>
        rw [if_neg Bool.false_ne_true] at q9 ⊢
        obtain ⟨m',hm,w9⟩ := q9
        obtain ⟨a1,a2,a3⟩ := again I9
        exact ⟨m',hm,i + 1,σ8,ys,H9,a1,a2,a3,w9⟩
      | true =>
        rw [if_pos rfl] at q9 ⊢
        refine thn (he _ _ _ _ _ _ s9 σ8 H9 _ I9 q9) fun yv s10 ⟨y,H10,I10,r10,q10⟩ => ?_
        obtain ⟨hD,hz,m',hm,w10⟩ := q10
        refine thn (JW (X := J1l X scope N s3 H3 cl s3.heap.objs.size fp) _ s10 σ8 H10 (.ref s2.heap.objs.size) [y] (.ref s2.heap.objs.size) [yv] (fun v H' => H' = upd H10 s2.heap.objs.size (.lst (ys ++ [y]))) I10 rfl (.cons r10 .nil)
          ⟨s2.heap.objs.size,ys,y,rfl,rfl,hD,hz,rfl⟩) fun _ s11 ⟨v11,H11,I11,_,e11⟩ => ?_
        have e11' : H11 = upd H10 s2.heap.objs.size (.lst (ys ++ [y])) := e11
        subst e11'
        obtain ⟨a1,a2,a3⟩ := again I11
        exact ⟨m',hm,i + 1,σ8,ys ++ [y],_,a1,a2,a3,w10⟩
  exact codeAny_compStart_list (loop _ ⟨_,rfl⟩) (T.self X.A 0 _ _ _ hst₁ (loop _ ⟨_,rfl⟩))
end
structure J58 (J : It) (H0 : Hp) (xs : List V) : Prop where
 go : ∀ i H,Same H0 H → i < xs.length → J.go i H
 yld : ∀ i H x H',Same H0 H → i < xs.length → J.yld i H x H' → H' = H ∧ xs[i]? = some x
 stop : ∀ H,Same H0 H → J.stop xs.length H
theorem J16 {K : PySem.W.Frag} {a : Addr} {H : Hp} {xs : List V} (h : SqL K H a xs) : J58 (Itl K a) H xs where
 go := fun i H' s hi => ⟨xs,xs[i],s.seq h,by simp [hi]⟩
 yld := fun i H' x H'' s hi y => ⟨y.1,y.2 xs (s.seq h)⟩
 stop := fun H' s => ⟨xs,s.seq h,Nat.le_refl _⟩
theorem J0L {H : Hp} (lo : Int) (n : Nat) : J58 (Itr lo n) H ((List.range n).map fun i => .int (lo + (i : Nat))) where
 go := fun i H' s hi => by rw [List.length_map,List.length_range] at hi; exact hi
 yld := fun i H' x H'' s hi y => by
  rw [List.length_map,List.length_range] at hi
  refine ⟨y.1,?_⟩
  rw [List.getElem?_map,List.getElem?_range hi]
  exact congrArg some y.2.symm
 stop := fun H' s => by rw [List.length_map,List.length_range]; exact Nat.le_refl _
theorem Ji {H : Hp} {p : Addr} (h : H p = none) (o : HO) : Same H (upd H p o) := fun b u q => by rw [Jg (Jc q h)]; exact q
theorem Same.upd {H H' : Hp} {p : Addr} {o : HO} (s : Same H H') (h : H p = none) : Same H (upd H' p o) := fun b u q => by rw [Jg (Jc q h)]; exact s b u q
theorem J52 {J : It} {H : Hp} {xs : List V} {σ0 : St} {k : Nat} {tc : TT} {te : TE} {Q : VK} (p : V → Bool) (f : V → V) (hJ : J58 J H xs) (hx : xs.length ≤ 1000000)
  (hc : ∀ x ∈ xs,∀ H',Same H H' → ∀ R : Bool → Hp → Prop,(∀ H'',Same H' H'' → R (p x) H'') → tc (σ0.set k (some x)) H' R)
  (he : ∀ x ∈ xs,p x = true → ∀ H',Same H H' → ∀ R : VK,(∀ H'',Same H' H'' → R (f x) H'') → te (σ0.set k (some x)) H' R)
  (hQ : ∀ D H',H D = none → Same H H' → H' D = some (.lst ((xs.filter p).map f)) → Q (.ref D) H') :
  J4e J H σ0 (J3e k) tc te Q := by
 intro D hD
 refine ⟨fun i m σ1 ys H' => m = xs.length - i ∧ i ≤ xs.length ∧ (σ1 = σ0 ∨ ∃ v,σ1 = σ0.set k v) ∧ ys = ((xs.take i).filter p).map f ∧ H' D = some (.lst ys) ∧ Same H H',⟨xs.length,by simp,Nat.zero_le _,.inl rfl,rfl,J7,Ji hD _⟩,?_⟩
 rintro i m σ1 ys H' ⟨rfl,hi,hσ,rfl,hDD,hs⟩
 by_cases hlt : i < xs.length
 ·refine .inr ⟨hJ.go i H' hs hlt,fun x H'' hy => ?_⟩
  obtain ⟨e1,hx1⟩ := hJ.yld i H' x H'' hs hlt hy
  subst e1
  have hm : x ∈ xs := List.mem_of_getElem? hx1
  have hset : σ1.set k (some x) = σ0.set k (some x) := by
   rcases hσ with rfl | ⟨v,rfl⟩
   ·rfl
   ·rw [List.set_set]
  show tc (σ1.set k (some x)) H'' _
  rw [hset]
  have tk : ((xs.take (i + 1)).filter p).map f = ((xs.take i).filter p).map f ++ (if p x = true then [f x] else []) := by
   rw [List.take_add_one,hx1,List.filter_append,List.map_append]
   cases hp : p x <;> simp [hp]
  refine hc x hm H'' hs _ fun H3 s3 => ?_
  have s03 : Same H H3 := hs.trans s3
  have lenk : (((xs.take i).filter p).map f).length < sizeLine := by
   have h1 := List.length_filter_le p (xs.take i)
   rw [List.length_take] at h1
   rw [List.length_map]
   have : (1000001 : Nat) ≤ sizeLine := by decide
   omega
  refine ite2 (fun hp => ?_) (fun hp => ?_)
  ·refine he x hm hp H3 s03 _ fun H4 s4 => ⟨s4 _ _ (s3 _ _ hDD),lenk,xs.length - (i + 1),by omega,rfl,hlt,.inr ⟨_,rfl⟩,?_,?_,?_⟩
   ·rw [tk,if_pos hp]
   ·exact J7
   ·exact (s03.trans s4).upd hD
  ·refine ⟨xs.length - (i + 1),by omega,rfl,hlt,.inr ⟨_,rfl⟩,?_,s3 _ _ hDD,s03⟩
   rw [tk,if_neg hp,List.append_nil]
 ·have e : i = xs.length := by omega
  subst e
  refine .inl ⟨hJ.stop H' hs,hQ D H' hD hs ?_⟩
  rw [hDD,List.take_length]
theorem J4X {J : It} {H : Hp} {xs : List V} {σ0 : St} {k : Nat} {te : TE} {Q : VK} (f : V → V) (hJ : J58 J H xs) (hx : xs.length ≤ 1000000)
  (he : ∀ x ∈ xs,∀ H',Same H H' → ∀ R : VK,(∀ H'',Same H' H'' → R (f x) H'') → te (σ0.set k (some x)) H' R)
  (hQ : ∀ D H',H D = none → Same H H' → H' D = some (.lst (xs.map f)) → Q (.ref D) H') :
  J4e J H σ0 (J3e k) tYes te Q :=
 J52 (fun _ => true) f hJ hx (fun x _ H' _ R hR => hR H' (Same.refl _)) (fun x hm _ => he x hm) (fun D H' h1 h2 h3 => hQ D H' h1 h2 (by rw [h3,List.filter_eq_self.mpr fun _ _ => rfl]))
end L2
set_option linter.all false
set_option maxRecDepth 100000
set_option maxHeartbeats 4000000
namespace L2
open PySem PySem.Spec PyProof.Rows
noncomputable abbrev T (l : List Nat) : V := .str ⟨l.toArray⟩
theorem J1V {a b : List Nat} (h : T a = T b) : a = b := by
 have h1 : (⟨a.toArray⟩ : Str) = ⟨b.toArray⟩ := V.str.inj h
 have h2 : a.toArray = b.toArray := congrArg Str.cps h1
 simpa using h2
theorem T_eq (a b : List Nat) : decide (T a = T b) = decide (a = b) := by
 by_cases h : a = b
 ·subst h; simp
 ·rw [decide_eq_false h,decide_eq_false fun q => h (J1V q)]
theorem J3F (l : List Nat) : (⟨l.toArray⟩ : Str).length = l.length := by simp [Str.length]
theorem JcI (a b : List Nat) : (⟨a.toArray⟩ : Str) ++ ⟨b.toArray⟩ = ⟨(a ++ b).toArray⟩ := by
 show (⟨a.toArray ++ b.toArray⟩ : Str) = _
 simp
section
variable {X : Cx}
theorem Js {x : Str} {l : List Nat} {j pos} (h : x = ⟨l.toArray⟩) : PE X (.Constant (.str x) j pos) (tC (T l)) := by subst h; exact JeV
noncomputable def JfO : R2 := fun x y H Q => ∃ a b,x = T a ∧ y = T b ∧ a.length + b.length ≤ sizeLine ∧ Q (T (a ++ b)) H
theorem JE : OpR X (binaryOp .Add) JfO := by
 intro pins s σ H x y v u Q I rx ry h
 obtain ⟨a,b,rfl,rfl,hz,q⟩ := h
 exact Jay pins s σ H _ _ v u Q I rx ry ⟨_,_,rfl,rfl,by rw [J3F,J3F]; exact hz,by rw [JcI]; exact q⟩
noncomputable def Jg9 : R2 := fun x y H Q => ∃ l i c,x = T l ∧ y = .int i ∧ l.length ≤ sizeLine ∧ atI l i = some c ∧ Q (T [c]) H
theorem J0B : IxR X Jg9 := by
 intro value slice pins s σ H x y v u Q I rx ry h hs
 obtain ⟨l,i,c,rfl,rfl,hz,he,q⟩ := h
 exact JeZ value slice pins s σ H _ _ v u Q I rx ry ⟨_,i,c,rfl,rfl,by rw [J3F]; exact hz,by simpa using he,q⟩ hs
theorem JcV : OpR X (compareOp .In) (fun x y H Q => ∃ c m,x = T [c] ∧ y = T m ∧ Q (.bl (decide (c ∈ m))) H) := by
 intro pins s σ H x y v u Q I rx ry h
 obtain ⟨c,m,rfl,rfl,q⟩ := h
 refine JbS pins s σ H _ _ v u Q I rx ry ⟨_,_,rfl,rfl,?_⟩
 have e := StrLaws.found_one ⟨m.toArray⟩ c
 rw [show (!(Builtin.Str.occurrences ⟨m.toArray⟩ ⟨[c].toArray⟩ 0 (⟨m.toArray⟩ : Str).length 1).isEmpty) = decide (c ∈ m) from by simpa using e]
 exact q
theorem J7E : OpR X (compareOp .NotIn) (fun x y H Q => ∃ c m,x = T [c] ∧ y = T m ∧ Q (.bl (!decide (c ∈ m))) H) := by
 intro pins s σ H x y v u Q I rx ry h
 obtain ⟨c,m,rfl,rfl,q⟩ := h
 refine J8v pins s σ H _ _ v u Q I rx ry ⟨_,_,rfl,rfl,?_⟩
 have e := StrLaws.found_one ⟨m.toArray⟩ c
 rw [show (!(Builtin.Str.occurrences ⟨m.toArray⟩ ⟨[c].toArray⟩ 0 (⟨m.toArray⟩ : Str).length 1).isEmpty) = decide (c ∈ m) from by simpa using e]
 exact q
theorem JX : J1U X (.builtin "len") (fun xs H Q => ∃ l,xs = [T l] ∧ l.length ≤ sizeLine ∧ Q (.int l.length) H) := by
 intro pins s σ H xs us Q I r h
 obtain ⟨l,rfl,hz,q⟩ := h
 exact J8D pins s σ H _ us Q I r ⟨_,rfl,by rw [J3F]; exact hz,by rw [J3F]; exact q⟩
end
noncomputable def cutN {α : Type} (xs : List α) (lo hi : Option Int) : List α := (xs.drop (HT.sIx xs.length 0 lo)).take (HT.sIx xs.length xs.length hi - HT.sIx xs.length 0 lo)
noncomputable def Jd9 (n : Nat) (d : Int) : Option Int → Int
 | none => d
 | some i => max 0 (min (if i < 0 then i + (n : Int) else i) (n : Int))
theorem J9t (n d : Nat) (o : Option Int) : Jd9 n (d : Int) o = ((HT.sIx n d o : Nat) : Int) := by
 cases o with
 | none => rfl
 | some i =>
  show max 0 (min (if i < 0 then i + (n : Int) else i) (n : Int)) = (((if i < 0 then (i + (n : Int)).toNat else min i.toNat n) : Nat) : Int)
  by_cases hi : i < 0
  ·rw [if_pos hi,if_pos hi]; omega
  ·rw [if_neg hi,if_neg hi]; omega
theorem Jf8 (a b : Nat) : sliceRange (a : Int) (b : Int) 1 = (List.range (b - a)).map fun k => a + k := by
 unfold sliceRange
 simp only [show (1 : Int) > 0 by decide,if_true]
 have e1 : (if (a : Int) < (b : Int) then ((b : Int) - (a : Int) + 1 - 1) / 1 else 0).toNat = b - a := by
  split <;> simp <;> omega
 rw [e1]
 refine List.map_congr_left fun k _ => ?_
 omega
theorem J8I (lo hi : Option Int) (n : Nat) : Builtin.Str.strSliceIndices lo hi 1 n = (List.range (HT.sIx n n hi - HT.sIx n 0 lo)).map fun k => HT.sIx n 0 lo + k := by
 have e : Builtin.Str.strSliceIndices lo hi 1 n = sliceRange (Jd9 n ((0 : Nat) : Int) lo) (Jd9 n ((n : Nat) : Int) hi) 1 := by
  cases lo <;> cases hi <;> rfl
 rw [e,J9t,J9t,Jf8]
theorem JfQ (l : List Nat) (i k : Nat) : ((List.range k).map fun m => i + m).filterMap (fun j => l.toArray[j]?) = (l.drop i).take k := by
 induction k generalizing i with
 | zero => simp
 | succ k ih =>
  rw [List.range_succ_eq_map,List.map_cons,List.filterMap_cons,List.map_map]
  have e : ((fun m => i + m) ∘ Nat.succ) = fun m => (i + 1) + m := by funext m; simp; omega
  rw [e,ih (i + 1)]
  by_cases h : i < l.length
  ·have : l.toArray[i + 0]? = some l[i] := by simp [h]
   rw [this,List.drop_eq_getElem_cons h,List.take_succ_cons]
  ·have : l.toArray[i + 0]? = none := by simp; omega
   rw [this,List.drop_eq_nil_of_le (by omega),List.drop_eq_nil_of_le (by omega)]
   simp
theorem JbZ {α : Type} {l : List α} {lo hi : Option Int} (h : (cutN l lo hi).length = l.length) : cutN l lo hi = l := by
 unfold cutN at h ⊢
 rw [List.length_take,List.length_drop] at h
 have h2 := HT.sIx_le l.length l.length (Nat.le_refl _) hi
 by_cases h0 : l.length = 0
 ·have : l = [] := List.length_eq_zero_iff.mp h0
  subst this; simp
 ·have e0 : HT.sIx l.length 0 lo = 0 := by omega
  rw [e0,List.drop_zero]
  exact List.take_of_length_le (by omega)
theorem JbL (l : List Nat) (lo hi : Option Int) : Txt.slice ⟨l.toArray⟩ lo hi = ⟨(cutN l lo hi).toArray⟩ := by
 unfold Txt.slice
 rw [J3F,J8I]
 have e := JfQ l (HT.sIx l.length 0 lo) (HT.sIx l.length l.length hi - HT.sIx l.length 0 lo)
 have e2 : ((List.range (HT.sIx l.length l.length hi - HT.sIx l.length 0 lo)).map fun k => HT.sIx l.length 0 lo + k).filterMap (fun x => (⟨l.toArray⟩ : Str).cps[x]?) = cutN l lo hi := e
 by_cases h : ((1 : Int) == 1 && ((List.range (HT.sIx l.length l.length hi - HT.sIx l.length 0 lo)).map fun k => HT.sIx l.length 0 lo + k).length == l.length) = true
 ·rw [if_pos h]
  have h' : HT.sIx l.length l.length hi - HT.sIx l.length 0 lo = l.length := by
   have := ((Bool.and_eq_true _ _).mp h).2
   simpa using this
  have : (cutN l lo hi).length = l.length := by
   unfold cutN
   rw [List.length_take,List.length_drop]
   have := HT.sIx_le l.length l.length (Nat.le_refl _) hi
   omega
  rw [JbZ this]
 ·rw [if_neg h,e2]
section
variable {X : Cx}
noncomputable def rSlS : V → Option Int → Option Int → Hp → VK → Prop := fun x lo hi H Q => ∃ l,x = T l ∧ l.length ≤ sizeLine ∧ Q (T (cutN l lo hi)) H
theorem J3T : SlR X rSlS := by
 intro pins s σ H x v vl vu lo hi sl Q I rx hs pl pu h
 obtain ⟨l,rfl,hz,q⟩ := h
 obtain ⟨t,rfl⟩ := rx
 refine ⟨"str",_,F.slot_str_getitem.lookup,typeIs_str _ _ _,?_⟩
 have fin : ∀ t' k,EP X pins σ Q (.str (Txt.slice ⟨l.toArray⟩ lo hi) t') { s with toks := k } := fun t' k => ⟨T (cutN l lo hi),H,I.tok _,⟨t',by rw [JbL]⟩,q⟩
 have hlen : (Txt.slice ⟨l.toArray⟩ lo hi).length ≤ sizeLine := Nat.le_trans (Txt.slice_le _ _ _) (by rw [J3F]; exact hz)
 cases pl with
 | none =>
  cases pu with
  | none => exact wpAny_getItem_str_slice (l := none) (u := none) (st := none) hs rfl (post_val_or_str ⟨hlen,fin⟩)
  | int j uj => exact wpAny_getItem_str_slice (l := none) (u := some (j,uj)) (st := none) hs rfl (post_val_or_str ⟨hlen,fin⟩)
 | int i ui =>
  cases pu with
  | none => exact wpAny_getItem_str_slice (l := some (i,ui)) (u := none) (st := none) hs rfl (post_val_or_str ⟨hlen,fin⟩)
  | int j uj => exact wpAny_getItem_str_slice (l := some (i,ui)) (u := some (j,uj)) (st := none) hs rfl (post_val_or_str ⟨hlen,fin⟩)
end
theorem Je7 (l : List Nat) (u : Tok) : Txt.sliceBy ⟨l.toArray⟩ none none (-1,u) = ⟨l.reverse.toArray⟩ := by
 have h := step_rev_list ⟨l.toArray⟩ u
 have e : ((List.range (⟨l.toArray⟩ : Str).length).map fun k => (⟨l.toArray⟩ : Str).cps.getD ((⟨l.toArray⟩ : Str).length - 1 - k) 0) = l.reverse := by
  rw [J3F]
  refine List.ext_getElem? fun i => ?_
  rw [List.getElem?_map]
  by_cases hi : i < l.length
  ·rw [List.getElem?_range hi,List.getElem?_reverse hi]
   have hj : l.length - 1 - i < l.length := by omega
   rw [List.getElem?_eq_getElem hj]
   simp [hj]
  ·rw [List.getElem?_eq_none (by simpa using hi),List.getElem?_eq_none (by simpa using hi)]
   rfl
 rw [e] at h
 generalize Txt.sliceBy ⟨l.toArray⟩ none none (-1,u) = z at h
 obtain ⟨⟨zl⟩⟩ := z
 have h' : zl = l.reverse := h
 rw [h']
noncomputable def tRev (te t3 : TE) : TE := fun σ H Q => te σ H fun x H1 => t3 σ H1 fun y H2 => y = .int (-1) ∧ ∃ l,x = T l ∧ l.length ≤ sizeLine ∧ Q (T l.reverse) H2
theorem Jfd {X : Cx} {e e3 : Expr} {te t3 : TE} {pos p2 : Pos} (he : PE X e te) (h3 : PE X e3 t3) : PE X (.Subscript e (.Slice none none (some e3) p2) pos) (tRev te t3) := by
 intro pins s σ H Q I h
 refine Subscript_ (thn (he pins s σ H _ I h) fun v s1 ⟨x,H1,I1,r1,q1⟩ => ?_)
 refine wpAny_Slice ?_
 rw [evalPart_none]
 refine wpAny_pure ?_
 refine wpAny_pure ?_
 rw [evalPart_some]
 refine thn (h3 pins s1 σ H1 _ I1 q1) fun vs s2 ⟨y,H2,I2,r2,hy,l,hx,hz,q⟩ => ?_
 subst hy hx
 obtain ⟨t,rfl⟩ := r1
 obtain ⟨uk,rfl⟩ := r2
 have I4 : Inv X pins σ H2 { s2 with heap := s2.heap.push { cls := .type "slice",data := .fields #[.none,.none,.int (-1) uk] } } := I2.kept (t' := s2.toks) fun b ob q => Heap.get?_push_of_some _ q
 have fin : ∀ t' k,EP X pins σ Q (.str (Txt.sliceBy ⟨l.toArray⟩ none none (-1,uk)) t') { s2 with heap := s2.heap.push { cls := .type "slice",data := .fields #[.none,.none,.int (-1) uk] },toks := k } := fun t' k => ⟨T l.reverse,H2,I4.tok _,⟨t',by rw [Je7]⟩,q⟩
 have hlen : (Txt.sliceBy ⟨l.toArray⟩ none none (-1,uk)).length ≤ sizeLine := Nat.le_trans (Txt.sliceBy_le _ _ _ _ (show (-1 : Int) ≠ 0 by decide)) (by rw [J3F]; exact hz)
 show wpAny (model X.prog X.w) X.A (subscriptTail e (.Slice none none (some e3) p2) (.str ⟨l.toArray⟩ t) (.ref s2.heap.objs.size)) (EP X pins σ Q) X.xe { s2 with heap := s2.heap.push { cls := .type "slice",data := .fields #[.none,.none,.int (-1) uk] } }
 refine tail_any (ops := [.ref s2.heap.objs.size,.str ⟨l.toArray⟩ t]) (typeIs_str _ _ _) F.slot_str_getitem.lookup ?_ (by with_unfolding_all rfl)
 exact wpAny_getItem_str_slice (l := none) (u := none) (st := some (-1,uk)) ⟨_,Heap.get?_push_size _ rfl,rfl,rfl⟩ (by rfl) (post_val_or_str ⟨hlen,fin⟩)
noncomputable def Its (l : List Nat) : It := ⟨fun i _ => i < l.length,fun i H x H' => H' = H ∧ ∃ c,l[i]? = some c ∧ x = T [c],fun i _ => l.length ≤ i⟩
theorem Jde {P : Program} {w : World} {K : PySem.W.Frag} {tg : Expr} {it : Addr} {l : List Nat} {t : Tok} {nm : String} (hn : nm = "str_ascii_iterator" ∨ nm = "str_iterator") :
  Turn P w K tg (Its l) [it] it (fun i h => h.IsStrIter it nm ⟨l.toArray⟩ t i) where
 mem := by simp
 obj := fun i h st b hb => by
  have e : b = it := by simpa using hb
  subst e
  obtain ⟨o,e,c,d⟩ := st
  exact ⟨o,e,fun v z => by rw [d] at z; cases z⟩
 keep := fun i h h' st k => by
  obtain ⟨o,e,r⟩ := st
  exact ⟨o,k it (by simp) o e,r⟩
 item := by
  intro X hP hw hK hc i pins s σ H E I hf st hg
  subst hP hw hK
  obtain ⟨f0,f1,f2,f3,f4,f5⟩ := hf it (by simp)
  have hi : i < l.length := hg
  have hx : (⟨l.toArray⟩ : Str).cps[i]? = some l[i] := by simp [hi]
  have fin : ∀ h',h'.IsStrIter it nm ⟨l.toArray⟩ t (i + 1) → Heap.SameBut it s.heap h' → ∃ u,(some (Value.str ⟨#[l[i]]⟩ s.toks) : Option Value) = some u ∧
    wpAny (model X.prog X.w) X.A (letOwnedTupleGo tg (.ref it) u) (fun _ s2 => ∃ x H',Inv X pins σ H' s2 ∧ RelV x u ∧ (Its l).yld i H x H' ∧ s2.heap.IsStrIter it nm ⟨l.toArray⟩ t (i + 1) ∧ ∀ b ∈ [it],H' b = none) E { s with heap := h',toks := s.toks + 1 } := fun h' st' sb => by
   have I1 : Inv X pins σ H { s with heap := h',toks := s.toks + 1 } := I.turned (t' := s.toks + 1) (fun b o hb e => (sb.2 b hb).trans e) f0 f1 f3 f4 f5
   obtain ⟨o,e,c,d⟩ := id st'
   refine ⟨_,rfl,Jbn (s := { s with heap := h',toks := s.toks + 1 }) e c d (by rcases hn with rfl | rfl <;> decide) ⟨T [l[i]],H,I1,⟨_,rfl⟩,⟨rfl,l[i],by simp [hi],rfl⟩,st',fun b hb => (hf b hb).1⟩⟩
  rcases hn with rfl | rfl
  ·exact wpAny_pyNext_ascii_item st hx fin
  ·exact wpAny_pyNext_wide_item st hx fin
 done := by
  intro X hP hw hK hc i pins s σ H E I hf st hg
  subst hP hw hK
  obtain ⟨f0,f1,f2,f3,f4,f5⟩ := hf it (by simp)
  have hi : l.length ≤ i := hg
  have hx : (⟨l.toArray⟩ : Str).cps[i]? = none := by simp; exact hi
  have fin : ∀ h',Heap.ExtBut it s.heap h' → (none : Option Value) = none ∧ Inv X pins σ H { s with heap := h' } := fun h' eb => ⟨rfl,I.turned (t' := s.toks) (fun b o hb e => eb b o hb e) f0 f1 f3 f4 f5⟩
  rcases hn with rfl | rfl
  ·exact wpAny_pyNext_ascii_end (I.ok.hd hc) st hx fin
  ·exact wpAny_pyNext_wide_end (I.ok.hd hc) st hx fin
 self := fun _ _ _ _ _ st h => by
  rcases hn with rfl | rfl
  ·exact wpAny_pyIter_striter_ascii st h
  ·exact wpAny_pyIter_striter_wide st h
section
variable {X : Cx} {tg : Expr}
noncomputable def iTxt (tl : TE) : TI := fun σ H R => tl σ H fun x H1 => ∃ l,x = T l ∧ R (Its l) H1
theorem J4x {e : Expr} {tl : TE} (hl : PE X e tl) : PI X tg e (iTxt tl) := by
 intro pins s σ H R I h
 refine thn (hl pins s σ H _ I h) fun v s1 ⟨x,H1,I1,r1,q1⟩ => ?_
 obtain ⟨l,e,q⟩ := q1
 subst e
 obtain ⟨t,rfl⟩ := r1
 have fin : ∀ nm : String,(nm = "str_ascii_iterator" ∨ nm = "str_iterator") → PIE X pins σ tg R (.ref s1.heap.objs.size) { s1 with heap := s1.heap.push { cls := .type nm,data := .fields #[.str ⟨l.toArray⟩ t,.int 0 0] } } := fun nm hn => by
  refine ⟨s1.heap.objs.size,[s1.heap.objs.size],_,_,H1,rfl,I1.kept (t' := s1.toks) fun b o e => Heap.get?_push_of_some _ e,Jde (t := t) hn,⟨_,Heap.get?_push_size _ rfl,rfl,rfl⟩,fun b hb => ?_,q⟩
  have e : b = s1.heap.objs.size := by simpa using hb
  subst e
  exact I1.fpOk (Nat.le_refl _) (I1.hok.fresh (Nat.le_refl _))
 cases ha : (⟨l.toArray⟩ : Str).cps.all (· < 128) with
 | true => exact wpAny_pyIter_ascii ha (fin _ (.inl rfl))
 | false => exact wpAny_pyIter_wide ha (fin _ (.inr rfl))
end
theorem J3o {H : Hp} (l : List Nat) : J58 (Its l) H (l.map fun c => T [c]) where
 go := fun i H' s hi => by rw [List.length_map] at hi; exact hi
 yld := fun i H' x H'' s hi y => by
  obtain ⟨e,c,hc,rfl⟩ := y
  exact ⟨e,by rw [List.getElem?_map,hc]; rfl⟩
 stop := fun H' s => by rw [List.length_map]; exact Nat.le_refl _
theorem Jbu {l : List Nat} {g : TG} {tb : TS} {D : Ends} {σ : St} {H : Hp} (Pv : Nat → St → Hp → Prop) (h0 : Pv 0 σ H)
  (hs : ∀ i c σ H,l[i]? = some c → Pv i σ H → g (T [c]) σ H fun σ2 H2 => tb { D with nx := Pv (i + 1),ct := Pv (i + 1),bk := D.nx } σ2 H2) (hd : ∀ σ H,Pv l.length σ H → D.nx σ H) :
  ∃ W : Nat → Nat → St → Hp → Prop,(∃ m,W 0 m σ H) ∧ ∀ i m σ H,W i m σ H →
   ((Its l).stop i H ∧ D.nx σ H) ∨ ((Its l).go i H ∧ ∃ N : St → Hp → Prop,(∀ σ' H',N σ' H' → ∃ m',m' < m ∧ W (i + 1) m' σ' H') ∧ ∀ x H',(Its l).yld i H x H' → g x σ H' fun σ2 H2 => tb { D with nx := N,ct := N,bk := D.nx } σ2 H2) := by
 refine ⟨fun i m σ H => m = l.length - i ∧ i ≤ l.length ∧ Pv i σ H,⟨l.length,by simp,Nat.zero_le _,h0⟩,?_⟩
 rintro i m σ H ⟨rfl,hi,p⟩
 by_cases hlt : i < l.length
 ·refine .inr ⟨hlt,Pv (i + 1),fun σ' H' p' => ⟨l.length - (i + 1),by omega,rfl,hlt,p'⟩,fun x H' y => ?_⟩
  obtain ⟨e,c,hc,rfl⟩ := y
  subst e
  exact hs i c σ _ hc p
 ·have e : i = l.length := by omega
  subst e
  exact .inl ⟨Nat.le_refl _,hd σ H p⟩
theorem J7H : ∀ {ts : List (List Nat)} {us : List Value},Vals (ts.map T) us → PyProof.Rows.StrsAre us (ts.map fun l => ⟨l.toArray⟩)
 | [],_,h => by cases h; exact .nil
 | l :: r,_,h => by
  cases h with
  | cons r1 r2 =>
   obtain ⟨t,rfl⟩ := r1
   exact .cons _ t (J7H r2)
noncomputable def J6N (sep : List Nat) : List (List Nat) → List Nat
 | [] => []
 | [x] => x
 | x :: y :: r => x ++ sep ++ J6N sep (y :: r)
theorem J9P (sep : List Nat) : ∀ ts : List (List Nat),Str.join ⟨sep.toArray⟩ (ts.map fun l => ⟨l.toArray⟩) = ⟨(J6N sep ts).toArray⟩
 | [] => rfl
 | [x] => rfl
 | x :: y :: r => by
  show (⟨x.toArray⟩ : Str) ++ ⟨sep.toArray⟩ ++ Str.join ⟨sep.toArray⟩ ((y :: r).map fun l => ⟨l.toArray⟩) = _
  rw [J9P sep (y :: r),JcI,JcI]
  rfl
theorem J2S : ∀ ts : List (List Nat),J6N [] ts = ts.flatten
 | [] => rfl
 | [x] => by simp [J6N]
 | x :: y :: r => by
  show x ++ [] ++ J6N [] (y :: r) = _
  rw [J2S (y :: r),List.append_nil]
  rfl
theorem J3h : ∀ cs : List Nat,(((cs.map fun c => [c]).map List.length).sum) = cs.length
 | [] => rfl
 | c :: r => by
  rw [List.map_cons,List.map_cons,List.sum_cons,J3h r]
  simp
  omega
theorem J2R : ∀ cs : List Nat,(cs.map fun c => [c]).flatten = cs
 | [] => rfl
 | c :: r => by
  rw [List.map_cons,List.flatten_cons,J2R r]
  rfl
section
variable {X : Cx}
noncomputable def Jdd (K : PySem.W.Frag) : V → List V → Hp → VK → Prop := fun x vs H Q => ∃ sep ts D,x = T sep ∧ vs = [.ref D] ∧ SqL K H D (ts.map T) ∧ (ts.map List.length).sum + ts.length * sep.length ≤ 16777216 ∧ Q (T (J6N sep ts)) H
theorem Jeb : MtR X "str.join" (Jdd X.K) := by
 intro pins s σ H x vs v us Q I rx rv h
 obtain ⟨sep,ts,D,rfl,rfl,hq,hz,q⟩ := h
 obtain ⟨t,rfl⟩ := rx
 obtain ⟨u,rfl,ru⟩ := rv.one
 cases ru
 obtain ⟨its,r,pl,_⟩ := I.list hq
 refine join_list (ys := ts.map fun l => ⟨l.toArray⟩) pl.isList (by simpa using J7H r) ?_ fun t' k => ⟨T (J6N sep ts),H,I.tok _,⟨t',?_⟩,q⟩
 ·rw [List.map_map,List.length_map,J3F]
  have e : ((fun x => x.length) ∘ fun l : List Nat => (⟨l.toArray⟩ : Str)) = List.length := by funext l; exact J3F l
  rw [e]
  exact hz
 ·rw [← J9P]
  show Value.str (Builtin.Str.glued _ _) t' = _
  rw [StrLaws.glued_eq_join]
end
theorem Je0 {X : Cx} {o e : Expr} {to : TE} {t : TA} {apos cpos : Pos} (ho : PE X o to) (ha : PA X [e] t)
  (hbase : attributeBase o "join" X.env (eval o X.env) = eval o X.env := by rfl)
  (hfew : ((backTo cpos (starEach [e] X.env)).all (fun x => !x.1) && (backToKw cpos (keywordEach [] X.env)).all (fun x => x.1.isSome)
   && decide ([e].length + ([] : List Keyword).length + (if ([] : List Keyword).isEmpty then 0 else 1) < 30)) = true := by rfl)
  (hline : (apos.endLine == cpos.line) = true := by rfl) (hs : starEach [e] X.env = (false,eval e X.env) :: starEach [] X.env := by rfl) (hplain : (backTo cpos (starEach [] X.env)).any (·.1) = false := by rfl) :
  PE X (.Call (.Attribute o "join" apos) [e] [] cpos) (tBM X.K "str" (Jdd X.K) to t) :=
 J1O F.plainAttrs_str F.slot_str_join F.type_str_join Jeb ho ha hbase hfew hline hs hplain
theorem J9D {bs : List Bool} {us : List Value} (h : Vals (bs.map V.bl) us) : us = bs.map Value.bool := by
 induction bs generalizing us with
 | nil => cases h; rfl
 | cons b r ih =>
  cases h with
  | cons r1 r2 =>
   cases r1
   rw [ih r2]; rfl
theorem Jc5 (bs : List Bool) : (List.range bs.length).all (fun i => bs.getD i false) = bs.all id := by
 rw [Bool.eq_iff_iff,List.all_eq_true,List.all_eq_true]
 constructor
 ·intro h b hb
  obtain ⟨i,hi,rfl⟩ := List.mem_iff_getElem.mp hb
  have := h i (List.mem_range.mpr hi)
  simpa [List.getD_eq_getElem?_getD,hi] using this
 ·intro h i hi
  have hi := List.mem_range.mp hi
  have := h bs[i] (List.getElem_mem hi)
  simpa [List.getD_eq_getElem?_getD,hi] using this
theorem Jcf (bs : List Bool) : (List.range bs.length).any (fun i => bs.getD i false) = bs.any id := by
 rw [Bool.eq_iff_iff,List.any_eq_true,List.any_eq_true]
 constructor
 ·rintro ⟨i,hi,h⟩
  have hi := List.mem_range.mp hi
  refine ⟨bs[i],List.getElem_mem hi,?_⟩
  simpa [List.getD_eq_getElem?_getD,hi] using h
 ·rintro ⟨b,hb,h⟩
  obtain ⟨i,hi,rfl⟩ := List.mem_iff_getElem.mp hb
  refine ⟨i,List.mem_range.mpr hi,?_⟩
  simpa [List.getD_eq_getElem?_getD,hi] using h
section
variable {X : Cx}
theorem J7K (bs : List Bool) {A : Around} : TruthOf X.prog X.w A (fun i v => (bs.map Value.bool).toArray[i]? = some v) (fun i => bs.getD i false) := fun i v s Q E hP hQ => by
 have : ∃ b,bs[i]? = some b ∧ v = .bool b := by
  have hP' : (bs.map Value.bool).toArray[i]? = some v := hP
  rw [List.getElem?_toArray,List.getElem?_map] at hP'
  cases hb : bs[i]? with
  | none => rw [hb] at hP'; cases hP'
  | some b => rw [hb] at hP'; exact ⟨b,rfl,(Option.some.inj hP').symm⟩
 obtain ⟨b,hb,rfl⟩ := this
 refine wpAny_truthy_bool ?_
 simpa [List.getD_eq_getElem?_getD,hb] using hQ
theorem Jc1 (hc : X.calm = true) : J1U X (.builtin "all") (fun xs H Q => ∃ (D : Addr) (bs : List Bool),xs = [.ref D] ∧ SqL X.K H D (bs.map V.bl) ∧ Q (.bl (bs.all id)) H) := by
 intro pins s σ H xs us Q I r h
 obtain ⟨D,bs,rfl,hq,q⟩ := h
 obtain ⟨u,rfl,ru⟩ := r.one
 cases ru
 obtain ⟨its,rv,pl,_⟩ := I.list hq
 obtain rfl := J9D rv
 have hD : D < s.heap.objs.size := by obtain ⟨o,n,e,_⟩ := pl; exact Heap.lt_size e
 refine call_all_walk (wpAny_pyIter_list pl.isList ⟨s.heap.objs.size,_,_,_,_,_,fun i => bs.getD i false,rfl,Walks.list (A := X.A.in1) (I.ok.hd hc) _ D (Nat.ne_of_lt hD) (bs.map Value.bool).toArray,
  ⟨⟨_,Heap.get?_push_size _ rfl,rfl,rfl⟩,pl.isList.push _⟩,J7K bs,fun h' tk hk => ?_⟩)
 rw [List.size_toArray,List.length_map,Jc5]
 exact ⟨.bl (bs.all id),H,I.kept fun b o e => hk b o (by simpa using Nat.ne_of_lt (Heap.lt_size e)) (Heap.get?_push_of_some _ e),rfl,q⟩
theorem Jc3 (hc : X.calm = true) : J1U X (.builtin "any") (fun xs H Q => ∃ (D : Addr) (bs : List Bool),xs = [.ref D] ∧ SqL X.K H D (bs.map V.bl) ∧ Q (.bl (bs.any id)) H) := by
 intro pins s σ H xs us Q I r h
 obtain ⟨D,bs,rfl,hq,q⟩ := h
 obtain ⟨u,rfl,ru⟩ := r.one
 cases ru
 obtain ⟨its,rv,pl,_⟩ := I.list hq
 obtain rfl := J9D rv
 have hD : D < s.heap.objs.size := by obtain ⟨o,n,e,_⟩ := pl; exact Heap.lt_size e
 refine call_any_walk (wpAny_pyIter_list pl.isList ⟨s.heap.objs.size,_,_,_,_,_,fun i => bs.getD i false,rfl,Walks.list (A := X.A.in1) (I.ok.hd hc) _ D (Nat.ne_of_lt hD) (bs.map Value.bool).toArray,
  ⟨⟨_,Heap.get?_push_size _ rfl,rfl,rfl⟩,pl.isList.push _⟩,J7K bs,fun h' tk hk => ?_⟩)
 rw [List.size_toArray,List.length_map,Jcf]
 exact ⟨.bl (bs.any id),H,I.kept fun b o e => hk b o (by simpa using Nat.ne_of_lt (Heap.lt_size e)) (Heap.get?_push_of_some _ e),rfl,q⟩
theorem JbJ : J1U X (.builtin "isinstance") (fun xs H Q => (∃ b,xs = [.bl b,.ty "bool"] ∧ Q (.bl true) H) ∨ (∃ i,xs = [.int i,.ty "bool"] ∧ Q (.bl false) H) ∨ (∃ i,xs = [.int i,.ty "int"] ∧ Q (.bl true) H) ∨ (∃ x,xs = [.str x,.ty "str"] ∧ Q (.bl true) H) ∨
  (∃ p ys,xs = [.ref p,.ty "list"] ∧ H p = some (.lst ys) ∧ Q (.bl true) H)) := by
 intro pins s σ H xs us Q I r h
 rcases h with ⟨b,rfl,q⟩ | ⟨i,rfl,q⟩ | ⟨i,rfl,q⟩ | ⟨x,rfl,q⟩ | ⟨p,ys,rfl,hp,q⟩
 ·obtain ⟨u,v,rfl,r1,r2⟩ := r.two
  cases r1; cases r2
  exact PySem.W.kia_one PySem.W.kitx_bool I.kIn True.intro (by rfl) (fun z => nomatch z) fun tk => ⟨.bl true,H,I.tok _,rfl,q⟩
 ·obtain ⟨u,v,rfl,r1,r2⟩ := r.two
  obtain ⟨t,rfl⟩ := r1; cases r2
  exact PySem.W.kia_one PySem.W.kitx_int I.kIn True.intro (by rfl) (fun z => nomatch z) fun tk => ⟨.bl false,H,I.tok _,rfl,q⟩
 ·obtain ⟨u,v,rfl,r1,r2⟩ := r.two
  obtain ⟨t,rfl⟩ := r1; cases r2
  exact PySem.W.kia_one PySem.W.kitx_int I.kIn True.intro (by rfl) (fun z => nomatch z) fun tk => ⟨.bl true,H,I.tok _,rfl,q⟩
 ·obtain ⟨u,v,rfl,r1,r2⟩ := r.two
  obtain ⟨t,rfl⟩ := r1; cases r2
  exact PySem.W.kia_one PySem.W.kitx_str I.kIn True.intro (by rfl) (fun z => nomatch z) fun tk => ⟨.bl true,H,I.tok _,rfl,q⟩
 ·obtain ⟨u,v,rfl,r1,r2⟩ := r.two
  cases r1; cases r2
  obtain ⟨_,its,n,_,h1⟩ := I.hok p _ hp
  exact PySem.W.kia_one PySem.W.kitx_list I.kIn ⟨_,h1,rfl⟩ (by rfl) (fun z => nomatch z) fun tk => ⟨.bl true,H,I.tok _,rfl,q⟩
end
end L2
set_option linter.all false
set_option maxRecDepth 100000
set_option maxHeartbeats 4000000
namespace L2
open PySem PySem.Spec PyProof.Rows
open Builtin Builtin.Str
section
variable {prog : Program} {w : World} {A : Around} {E : Value → Shared → Prop} {s : Shared}
structure J3U (z TI TO i1 i2 : Addr) : Prop where
 TIz : TI ≠ z
 TOz : TO ≠ z
 i1z : i1 ≠ z
 i2z : i2 ≠ z
 TITO : TI ≠ TO
 TIi1 : TI ≠ i1
 TIi2 : TI ≠ i2
 TOi1 : TO ≠ i1
 TOi2 : TO ≠ i2
 i12 : i1 ≠ i2
theorem J70 (n : Nat) : J3U (n + 4) (n + 2) (n + 3) n (n + 1) :=
 ⟨Nat.ne_of_lt (by omega),Nat.ne_of_lt (by omega),Nat.ne_of_lt (by omega),Nat.ne_of_lt (by omega),Nat.ne_of_lt (by omega),Nat.ne_of_gt (by omega),Nat.ne_of_gt (by omega),Nat.ne_of_gt (by omega),Nat.ne_of_gt (by omega),Nat.ne_of_lt (by omega)⟩
theorem Jc8 {z TI TO i1 i2 : Addr} {k n1 n2 : Nat} {P1 P2 : Nat → Value → Prop} {St1 St2 : Nat → Heap → Prop} {a b : Value} {Q : Value → Shared → Prop} (F : J3U z TI TO i1 i2)
  (D1 : Draws prog w A i1 [i1] n1 P1 St1) (D2 : Draws prog w A i2 [i2] n2 P2 St2)
  (hz : IsZip s.heap z TI TO .none) (hTI : IsPair s.heap TI (.ref i1) (.ref i2)) (hTO : IsPair s.heap TO a b)
  (h1 : St1 k s.heap) (h2 : St2 k s.heap) (hk1 : k < n1) (hk2 : k < n2)
  (hQ : ∀ x y h' tk,P1 k x → P2 k y → IsZip h' z TI TO (rawInt s.heap.objs.size) → IsPair h' TO x y → St1 (k + 1) h' → St2 (k + 1) h' → IsPair h' s.heap.objs.size x y → h'.objs.size = s.heap.objs.size + 1 →
   (∀ c o,c ≠ z → c ≠ TO → c ≠ i1 → c ≠ i2 → s.heap.get? c = some o → h'.get? c = some o) → Q (.ref s.heap.objs.size) { s with heap := h',toks := tk }) :
  wpAny (model prog w) A (Builtin.«zip.__next__» ⟨[.ref z],[]⟩) (fun fin s' => ∃ v,fin = .done (.ret v) ∧ Q v s') E s := by
 have fr1 : ∀ i h h',St1 i h → (∀ o,h.get? i1 = some o → h'.get? i1 = some o) → St1 i h' := fun i h h' st hk => D1.frame i h h' st fun b hb o e => by
  have : b = i1 := by simpa using hb
  subst this; exact hk o e
 have fr2 : ∀ i h h',St2 i h → (∀ o,h.get? i2 = some o → h'.get? i2 = some o) → St2 i h' := fun i h h' st hk => D2.frame i h h' st fun b hb o e => by
  have : b = i2 := by simpa using hb
  subst this; exact hk o e
 show wpAny _ _ (field (.ref z) 2 >>= _) _ _ _
 refine wpAny_bind (wpAny_field hz rfl (x := .bool false) rfl ?_)
 show wpAny _ _ (field (.ref z) 3 >>= _) _ _ _
 refine wpAny_bind (wpAny_field hz rfl (x := .ref TI) rfl ?_)
 refine wpAny_bind (wpAny_seqItems hTI rfl ?_)
 show wpAny _ _ (Builtin.SmallTypes.ownedTupleIsFree (.ref z) >>= _) _ _ _
 refine wpAny_bind ?_
 unfold Builtin.SmallTypes.ownedTupleIsFree
 refine wpAny_bind (wpAny_field hz rfl (x := .none) rfl (wpAny_pure ?_))
 simp only [if_true]
 refine wpAny_bind (wpAny_rule ?_)
 refine wpAny_bind (wpAny_field hz rfl (x := .ref TO) rfl ?_)
 refine wpAny_bind (wpAny_setField_rec hz (by simp) fun h₁ hz₁ hs₁ => ?_)
 replace hz₁ : IsZip h₁ z TI TO .ellipsis := hz₁
 refine wpAny_bind ?_
 simp only [List.zipIdx_cons,List.zipIdx_nil,List.forIn_cons,List.forIn_nil]
 refine wpAny_bind (wpAny_bind (wpAny_onRaise ?_))
 show wpAny _ _ (Builtin.SmallTypes.nextOf (.ref i1) >>= _) _ _ _
 refine wpAny_bind (D1.item k _ _ _ hk1 (fr1 _ _ _ h1 fun o e => hs₁.extBut _ _ F.i1z e) fun x h₂ tk₂ hx h1₂ hs₂ => wpAny_pure ?_)
 replace hs₂ : Heap.SameBut i1 h₁ h₂ := hs₂
 have hTO₂ : IsPair h₂ TO a b := hs₂.extBut _ _ F.TOi1 (hs₁.extBut _ _ F.TOz hTO)
 refine wpAny_bind (wpAny_seqItems hTO₂ rfl ?_)
 refine wpAny_bind (wpAny_updateSeq_pair hTO₂ fun h₃ hTO₃ hs₃ => ?_)
 replace hTO₃ : IsPair h₃ TO x b := hTO₃
 replace hs₃ : Heap.SameBut TO h₂ h₃ := hs₃
 refine wpAny_bind (wpAny_letGo (wpAny_pure ?_))
 refine wpAny_bind (wpAny_bind (wpAny_onRaise ?_))
 show wpAny _ _ (Builtin.SmallTypes.nextOf (.ref i2) >>= _) _ _ _
 refine wpAny_bind (D2.item k _ _ _ hk2 (fr2 _ _ _ h2 fun o e => hs₃.extBut _ _ F.TOi2.symm (hs₂.extBut _ _ F.i12.symm (hs₁.extBut _ _ F.i2z e))) fun y h₄ tk₄ hy h2₄ hs₄ => wpAny_pure ?_)
 replace hs₄ : Heap.SameBut i2 h₃ h₄ := hs₄
 have hTO₄ : IsPair h₄ TO x b := hs₄.extBut _ _ F.TOi2 hTO₃
 refine wpAny_bind (wpAny_seqItems hTO₄ rfl ?_)
 refine wpAny_bind (wpAny_updateSeq_pair hTO₄ fun h₅ hTO₅ hs₅ => ?_)
 replace hTO₅ : IsPair h₅ TO x y := hTO₅
 replace hs₅ : Heap.SameBut TO h₄ h₅ := hs₅
 refine wpAny_bind (wpAny_letGo (wpAny_pure (wpAny_pure ?_)))
 refine wpAny_bind (wpAny_seqItems hTO₅ rfl ?_)
 refine wpAny_bind (wpAny_newTuple ?_)
 have hsz : h₅.objs.size = s.heap.objs.size := by rw [hs₅.1,hs₄.1,hs₃.1,hs₂.1,hs₁.1]
 have hz₅ : IsZip h₅ z TI TO .ellipsis := hs₅.extBut _ _ F.TOz.symm (hs₄.extBut _ _ F.i2z.symm (hs₃.extBut _ _ F.TOz.symm (hs₂.extBut _ _ F.i1z.symm hz₁)))
 have hk₅ : ∀ c o,c ≠ z → c ≠ TO → c ≠ i1 → c ≠ i2 → s.heap.get? c = some o → h₅.get? c = some o := fun c o c1 c2 c3 c4 e =>
  hs₅.extBut _ _ c2 (hs₄.extBut _ _ c4 (hs₃.extBut _ _ c2 (hs₂.extBut _ _ c3 (hs₁.extBut _ _ c1 e))))
 have h1₅ : St1 (k + 1) h₅ := fr1 _ _ _ h1₂ fun o e => hs₅.extBut _ _ F.TOi1.symm (hs₄.extBut _ _ F.i12 (hs₃.extBut _ _ F.TOi1.symm e))
 have h2₅ : St2 (k + 1) h₅ := fr2 _ _ _ h2₄ fun o e => hs₅.extBut _ _ F.TOi2.symm e
 have hzlt : z < h₅.objs.size := Heap.lt_size hz₅
 show wpAny _ _ (Builtin.SmallTypes.ownedTupleHandOut (.ref z) (.ref h₅.objs.size) >>= _) _ _ _
 refine wpAny_bind ?_
 unfold Builtin.SmallTypes.ownedTupleHandOut
 have hz₆ : IsZip (h₅.push { cls := .type "tuple",data := .seq #[x,y] }) z TI TO .ellipsis := Heap.get?_push_of_some _ hz₅
 refine wpAny_bind (wpAny_setField_rec hz₆ (by simp) fun h₇ hz₇ hs₇ => ?_)
 replace hz₇ : IsZip h₇ z TI TO (rawInt h₅.objs.size) := hz₇
 replace hs₇ : Heap.SameBut z (h₅.push { cls := .type "tuple",data := .seq #[x,y] }) h₇ := hs₇
 refine wpAny_setField_rec hz₇ (by simp) fun h₈ hz₈ hs₈ => ?_
 replace hz₈ : IsZip h₈ z TI TO (rawInt h₅.objs.size) := hz₈
 replace hs₈ : Heap.SameBut z h₇ h₈ := hs₈
 have up : ∀ c o,c ≠ z → h₅.get? c = some o → h₈.get? c = some o := fun c o c1 e => hs₈.extBut _ _ c1 (hs₇.extBut _ _ c1 (Heap.get?_push_of_some _ e))
 have hT₈ : IsPair h₈ h₅.objs.size x y := hs₈.extBut _ _ (Nat.ne_of_gt hzlt) (hs₇.extBut _ _ (Nat.ne_of_gt hzlt) (Heap.get?_push_size _ rfl))
 have hz8 : h₈.objs.size = h₅.objs.size + 1 := by rw [hs₈.1,hs₇.1,Heap.size_push]
 rw [hsz] at hz₈ hT₈ hz8
 refine wpAny_pure ⟨_,rfl,?_⟩
 show Q (.ref h₅.objs.size) _
 rw [hsz]
 exact hQ x y h₈ tk₄ hx hy hz₈ (up _ _ F.TOz hTO₅) (fr1 _ _ _ h1₅ fun o e => up _ o F.i1z e) (fr2 _ _ _ h2₅ fun o e => up _ o F.i2z e) hT₈ hz8 fun c o c1 c2 c3 c4 e => up c o c1 (hk₅ c o c1 c2 c3 c4 e)
theorem Jdm {z TI TO i1 i2 : Addr} {k n1 n2 : Nat} {P1 P2 : Nat → Value → Prop} {St1 St2 : Nat → Heap → Prop} {a b : Value} {Q : Fin → Shared → Prop} (F : J3U z TI TO i1 i2)
  (D1 : Draws prog w A i1 [i1] n1 P1 St1) (D2 : Draws prog w A i2 [i2] n2 P2 St2)
  (hz : IsZip s.heap z TI TO .none) (hTI : IsPair s.heap TI (.ref i1) (.ref i2)) (hTO : IsPair s.heap TO a b)
  (h1 : St1 k s.heap) (h2 : St2 k s.heap) (hend : k = n1 ∨ (k < n1 ∧ k = n2))
  (hE : ∀ h' tk e,(∀ c o,c ≠ z → c ≠ TO → c ≠ i1 → c ≠ i2 → s.heap.get? c = some o → h'.get? c = some o) → (∃ o,h'.get? e = some o ∧ o.cls = .type "StopIteration") → E (.ref e) { s with heap := h',toks := tk }) :
  wpAny (model prog w) A (Builtin.«zip.__next__» ⟨[.ref z],[]⟩) Q E s := by
 have fr1 : ∀ i h h',St1 i h → (∀ o,h.get? i1 = some o → h'.get? i1 = some o) → St1 i h' := fun i h h' st hk => D1.frame i h h' st fun b hb o e => by
  have : b = i1 := by simpa using hb
  subst this; exact hk o e
 have fr2 : ∀ i h h',St2 i h → (∀ o,h.get? i2 = some o → h'.get? i2 = some o) → St2 i h' := fun i h h' st hk => D2.frame i h h' st fun b hb o e => by
  have : b = i2 := by simpa using hb
  subst this; exact hk o e
 show wpAny _ _ (field (.ref z) 2 >>= _) _ _ _
 refine wpAny_bind (wpAny_field hz rfl (x := .bool false) rfl ?_)
 show wpAny _ _ (field (.ref z) 3 >>= _) _ _ _
 refine wpAny_bind (wpAny_field hz rfl (x := .ref TI) rfl ?_)
 refine wpAny_bind (wpAny_seqItems hTI rfl ?_)
 show wpAny _ _ (Builtin.SmallTypes.ownedTupleIsFree (.ref z) >>= _) _ _ _
 refine wpAny_bind ?_
 unfold Builtin.SmallTypes.ownedTupleIsFree
 refine wpAny_bind (wpAny_field hz rfl (x := .none) rfl (wpAny_pure ?_))
 simp only [if_true]
 refine wpAny_bind (wpAny_rule ?_)
 refine wpAny_bind (wpAny_field hz rfl (x := .ref TO) rfl ?_)
 refine wpAny_bind (wpAny_setField_rec hz (by simp) fun h₁ hz₁ hs₁ => ?_)
 replace hz₁ : IsZip h₁ z TI TO .ellipsis := hz₁
 refine wpAny_bind ?_
 simp only [List.zipIdx_cons,List.zipIdx_nil,List.forIn_cons,List.forIn_nil]
 refine wpAny_bind (wpAny_bind (wpAny_onRaise ?_))
 show wpAny _ _ (Builtin.SmallTypes.nextOf (.ref i1) >>= _) _ _ _
 rcases hend with hk | ⟨hk1,hk⟩
 ·subst hk
  refine wpAny_bind (D1.done _ _ _ (fr1 _ _ _ h1 fun o e => hs₁.extBut _ _ F.i1z e) fun h₂ e hs₂ he => ?_)
  obtain ⟨oe,hoe,hce⟩ := he
  replace hs₂ : Heap.ExtBut i1 h₁ h₂ := hs₂
  have hz₂ : IsZip h₂ z TI TO .ellipsis := hs₂ _ _ F.i1z.symm hz₁
  have hez : e ≠ z := fun x => by subst x; rw [hz₂] at hoe; cases hoe; simp at hce
  exact wpAny_setField_rec hz₂ (by simp) fun h₃ _ hs₃ => hE h₃ _ e (fun c o c1 _ c3 _ x => hs₃.extBut _ _ c1 (hs₂ _ _ c3 (hs₁.extBut _ _ c1 x))) ⟨oe,hs₃.extBut _ _ hez hoe,hce⟩
 ·subst hk
  refine wpAny_bind (D1.item k _ _ _ hk1 (fr1 _ _ _ h1 fun o e => hs₁.extBut _ _ F.i1z e) fun x h₂ tk₂ hx h1₂ hs₂ => wpAny_pure ?_)
  replace hs₂ : Heap.SameBut i1 h₁ h₂ := hs₂
  have hTO₂ : IsPair h₂ TO a b := hs₂.extBut _ _ F.TOi1 (hs₁.extBut _ _ F.TOz hTO)
  refine wpAny_bind (wpAny_seqItems hTO₂ rfl ?_)
  refine wpAny_bind (wpAny_updateSeq_pair hTO₂ fun h₃ hTO₃ hs₃ => ?_)
  replace hs₃ : Heap.SameBut TO h₂ h₃ := hs₃
  refine wpAny_bind (wpAny_letGo (wpAny_pure ?_))
  refine wpAny_bind (wpAny_bind (wpAny_onRaise ?_))
  show wpAny _ _ (Builtin.SmallTypes.nextOf (.ref i2) >>= _) _ _ _
  refine wpAny_bind (D2.done _ _ _ (fr2 _ _ _ h2 fun o e => hs₃.extBut _ _ F.TOi2.symm (hs₂.extBut _ _ F.i12.symm (hs₁.extBut _ _ F.i2z e))) fun h₄ e hs₄ he => ?_)
  obtain ⟨oe,hoe,hce⟩ := he
  replace hs₄ : Heap.ExtBut i2 h₃ h₄ := hs₄
  have hz₄ : IsZip h₄ z TI TO .ellipsis := hs₄ _ _ F.i2z.symm (hs₃.extBut _ _ F.TOz.symm (hs₂.extBut _ _ F.i1z.symm hz₁))
  have hez : e ≠ z := fun x => by subst x; rw [hz₄] at hoe; cases hoe; simp at hce
  exact wpAny_setField_rec hz₄ (by simp) fun h₅ _ hs₅ => hE h₅ _ e (fun c o c1 c2 c3 c4 x => hs₅.extBut _ _ c1 (hs₄ _ _ c4 (hs₃.extBut _ _ c2 (hs₂.extBut _ _ c3 (hs₁.extBut _ _ c1 x))))) ⟨oe,hs₅.extBut _ _ hez hoe,hce⟩
theorem J53 {it : Addr} {l : List Nat} {t : Tok} {nm : String} (hh : A.handled = none) (hn : nm = "str_ascii_iterator" ∨ nm = "str_iterator") :
  Draws prog w A it [it] l.length (fun i v => ∃ c u,l[i]? = some c ∧ v = .str ⟨#[c]⟩ u) (fun i h => h.IsStrIter it nm ⟨l.toArray⟩ t i) := by
 rcases hn with rfl | rfl
 ·have D := Draws.strAscii (prog := prog) (w := w) hh it ⟨l.toArray⟩ t
  simpa using D
 ·have D := Draws.strWide (prog := prog) (w := w) hh it ⟨l.toArray⟩ t
  simpa using D
end
theorem Inv.turnedN {X : Cx} {pins : List (Addr × Obj)} {σ : St} {H : Hp} {s : Shared} {h' : Heap} {t' : Nat} {ch : List Addr} (I : Inv X pins σ H s) (k : ∀ b o,b ∉ ch → s.heap.get? b = some o → h'.get? b = some o) (hf : ∀ b ∈ ch,FpOk X pins H b) :
  Inv X pins σ H { s with heap := h',toks := t' } := by
 have nch : ∀ b u,H b = some u → b ∉ ch := fun b u e z => by rw [(hf b z).1] at e; cases e
 refine I.step (g' := s.gens) (d' := s.drawn) (ch := ch) (fun b hb => ?_) (fun b o _ _ hc e _ => k b o hc e) (fun b o _ _ hc e _ => ⟨o.slots,k b o hc e⟩) (fun _ _ _ _ n => n)
  (fun b o hc e => ⟨o,k b o hc e⟩) (fun _ _ e => e) (fun _ _ _ e => e) (fun b ps e => ⟨#[],by rw [e]; simp⟩) (fun m hm => ?_) (fun b u e => ?_) I.bare
 ·obtain ⟨f0,f1,f2,f3,f4,f5⟩ := hf b hb
  exact ⟨f3,f1,f4,f5⟩
 ·obtain ⟨o,es,ep,ho,r⟩ := hm
  exact ⟨o,es,ep,k _ o (fun z => (hf _ z).2.1 rfl) ho,r⟩
 ·refine (I.hok b u e).stay (fun c v hc q => k c v ?_ q) (fun _ q => q) fun _ _ q => q
  rcases hc with z | z
  ·rw [z]; exact nch b u e
  ·exact nch c _ z
noncomputable def Itz (l1 l2 : List Nat) : It :=
 ⟨fun i _ => i < l1.length ∧ i < l2.length,fun i H x H' => ∃ p c d,H p = none ∧ l1[i]? = some c ∧ l2[i]? = some d ∧ x = .ref p ∧ H' = upd H p (.tup [T [c],T [d]]),fun i _ => i = l1.length ∨ (i < l1.length ∧ i = l2.length)⟩
theorem Jc6 {P : Program} {w : World} {K : PySem.W.Frag} {es : List Expr} {k : Nat} {pos : Pos} {z TI TO i1 i2 : Addr} {l1 l2 : List Nat} {t1 t2 : Tok} {n1 n2 : String} (F : J3U z TI TO i1 i2)
  (hn1 : n1 = "str_ascii_iterator" ∨ n1 = "str_iterator") (hn2 : n2 = "str_ascii_iterator" ∨ n2 = "str_iterator") :
  Turn P w K (.Tuple es k pos) (Itz l1 l2) [z,TI,TO,i1,i2] z (fun i h => IsZip h z TI TO .none ∧ IsPair h TI (.ref i1) (.ref i2) ∧ (∃ a b,IsPair h TO a b) ∧ h.IsStrIter i1 n1 ⟨l1.toArray⟩ t1 i ∧ h.IsStrIter i2 n2 ⟨l2.toArray⟩ t2 i) where
 mem := by simp
 obj := fun i h st b hb => by
  obtain ⟨hz,hTI,⟨a,b',hTO⟩,⟨o1,e1,c1,d1⟩,o2,e2,c2,d2⟩ := st
  simp only [List.mem_cons,List.not_mem_nil,or_false] at hb
  rcases hb with rfl | rfl | rfl | rfl | rfl
  ·exact ⟨_,hz,fun v q => by cases q⟩
  ·exact ⟨_,hTI,fun v q => by cases q⟩
  ·exact ⟨_,hTO,fun v q => by cases q⟩
  ·exact ⟨o1,e1,fun v q => by rw [d1] at q; cases q⟩
  ·exact ⟨o2,e2,fun v q => by rw [d2] at q; cases q⟩
 keep := fun i h h' st kk => by
  obtain ⟨hz,hTI,⟨a,b',hTO⟩,⟨o1,e1,r1⟩,o2,e2,r2⟩ := st
  exact ⟨kk z (by simp) _ hz,kk TI (by simp) _ hTI,⟨a,b',kk TO (by simp) _ hTO⟩,⟨o1,kk i1 (by simp) _ e1,r1⟩,o2,kk i2 (by simp) _ e2,r2⟩
 item := by
  intro X hP hw hK hc i pins s σ H E I hf st hg
  subst hP hw hK
  obtain ⟨hz,hTI,⟨a,b,hTO⟩,h1,h2⟩ := st
  have hh : X.A.in1.handled = none := I.ok.hd hc
  have hT : s.TypeIs (.ref z) "zip" := ⟨_,hz,rfl⟩
  have D1 := J53 (prog := X.prog) (w := X.w) (it := i1) (l := l1) (t := t1) hh hn1
  have D2 := J53 (prog := X.prog) (w := X.w) (it := i2) (l := l2) (t := t2) hh hn2
  unfold pyNext
  refine wpAny_bind (wpAny_attempt (wpAny_callSpecial?_slot (name := Str.ofString "__next__") hT PySem.F.slot_zip_next (wpAny_call_entry PySem.F.slot_zip_next hT PySem.F.entry_zip_next
   (Jc8 F D1 D2 hz hTI hTO h1 h2 hg.1 hg.2 fun x y h' tk hx hy a1 a2 a3 a4 a5 a6 kp => wpAny_pure ?_) (PySem.F.args_zip_next_1 _))))
  obtain ⟨c,u,hc1,rfl⟩ := hx
  obtain ⟨d,v,hd1,rfl⟩ := hy
  refine ⟨_,rfl,?_⟩
  refine wpAny_letOwnedTupleGo_zip (s := { s with heap := h',toks := tk }) a1 fun h2' hz' hs' => ?_
  replace hs' : Heap.SameBut z h' h2' := hs'
  have zlt : z < s.heap.objs.size := Heap.lt_size hz
  have far : ∀ q ∈ [z,TI,TO,i1,i2],q < s.heap.objs.size := by
   intro q hq
   obtain ⟨o1,e1,_⟩ := h1
   obtain ⟨o2,e2,_⟩ := h2
   simp only [List.mem_cons,List.not_mem_nil,or_false] at hq
   rcases hq with rfl | rfl | rfl | rfl | rfl
   ·exact zlt
   ·exact Heap.lt_size hTI
   ·exact Heap.lt_size hTO
   ·exact Heap.lt_size e1
   ·exact Heap.lt_size e2
  have fz := hf z (by simp)
  have fTO := hf TO (by simp)
  have f1 := hf i1 (by simp)
  have f2 := hf i2 (by simp)
  have I1 : Inv X pins σ H { s with heap := s.heap.push { cls := .type "tuple",data := .seq #[.str ⟨#[c]⟩ u,.str ⟨#[d]⟩ v] },toks := tk } := I.kept fun b o e => Heap.get?_push_of_some _ e
  have keepAll : ∀ b o,b ≠ z → b ≠ TO → b ≠ i1 → b ≠ i2 → s.heap.get? b = some o → h2'.get? b = some o := fun b o b1 b2 b3 b4 e => hs'.extBut _ _ b1 (kp b o b1 b2 b3 b4 e)
  have hnew : H s.heap.objs.size = none := I.hok.fresh (Nat.le_refl _)
  have Tz : s.heap.objs.size ≠ z := Nat.ne_of_gt zlt
  have ht2 : h2'.get? s.heap.objs.size = some { cls := .type "tuple",data := .seq #[.str ⟨#[c]⟩ u,.str ⟨#[d]⟩ v] } := hs'.extBut _ _ Tz a5
  have I2 : Inv X pins σ (upd H s.heap.objs.size (.tup [T [c],T [d]])) { s with heap := h2',toks := tk } := by
   have there : ∀ q ∈ [z,TO,i1,i2],∃ o',h2'.get? q = some o' := by
    intro q hq
    obtain ⟨o1,e1,_⟩ := a3
    obtain ⟨o2,e2,_⟩ := a4
    simp only [List.mem_cons,List.not_mem_nil,or_false] at hq
    rcases hq with rfl | rfl | rfl | rfl
    ·exact ⟨_,hz'⟩
    ·exact ⟨_,hs'.extBut _ _ F.TOz a2⟩
    ·exact ⟨_,hs'.extBut _ _ F.i1z e1⟩
    ·exact ⟨_,hs'.extBut _ _ F.i2z e2⟩
   have nch : ∀ b,b ∉ [z,TO,i1,i2] → b ≠ z ∧ b ≠ TO ∧ b ≠ i1 ∧ b ≠ i2 := fun b hb => by
    simp only [List.mem_cons,List.not_mem_nil,or_false,not_or] at hb
    exact hb
   have trk : ∀ b u',H b = some u' → b ≠ z ∧ b ≠ TO ∧ b ≠ i1 ∧ b ≠ i2 := fun b u' e =>
    ⟨fun q => (by rw [q,fz.1] at e; cases e),fun q => (by rw [q,fTO.1] at e; cases e),fun q => (by rw [q,f1.1] at e; cases e),fun q => (by rw [q,f2.1] at e; cases e)⟩
   have okH : HOk X.prog X.w (upd H s.heap.objs.size (.tup [T [c],T [d]])) h2' := fun b u' e => by
    by_cases hb : b = s.heap.objs.size
    ·subst hb
     rw [J7] at e
     cases e
     exact ⟨(show 2 ≤ sizeLine by decide),[.str ⟨#[c]⟩ u,.str ⟨#[d]⟩ v],.cons ⟨u,rfl⟩ (.cons ⟨v,rfl⟩ .nil),⟨_,ht2,rfl,_,rfl⟩⟩
    ·rw [Jg hb] at e
     have hx := I.hok b u' e
     refine hx.stay (fun q o hq e2 => ?_) (fun q e2 => ?_) (fun q xs e2 => ?_)
     ·rcases hq with rfl | hq
      ·obtain ⟨b1,b2,b3,b4⟩ := trk q _ e
       exact keepAll q o b1 b2 b3 b4 e2
      ·obtain ⟨b1,b2,b3,b4⟩ := trk q _ hq
       exact keepAll q o b1 b2 b3 b4 e2
     ·rw [Jg (Jc e2 hnew)]; exact e2
     ·rw [Jg (Jc e2 hnew)]; exact e2
   refine I.step (g' := s.gens) (d' := s.drawn) (ch := [z,TO,i1,i2]) (fun b hb => ?_) (fun b o _ _ hcb e n => ?_) (fun b o _ _ hcb e n => ?_) (fun b o hcb e n => ?_) (fun b o hcb e => ?_) (fun b xs e => ?_) (fun b o u' e => ?_) (fun b ps e => ?_) (fun m hm => ?_) okH I.bare
   ·simp only [List.mem_cons,List.not_mem_nil,or_false] at hb
    rcases hb with rfl | rfl | rfl | rfl
    ·exact ⟨fz.2.2.2.1,fz.2.1,fz.2.2.2.2.1,fz.2.2.2.2.2⟩
    ·exact ⟨fTO.2.2.2.1,fTO.2.1,fTO.2.2.2.2.1,fTO.2.2.2.2.2⟩
    ·exact ⟨f1.2.2.2.1,f1.2.1,f1.2.2.2.2.1,f1.2.2.2.2.2⟩
    ·exact ⟨f2.2.2.2.1,f2.2.1,f2.2.2.2.2.1,f2.2.2.2.2.2⟩
   ·obtain ⟨b1,b2,b3,b4⟩ := nch b hcb
    exact keepAll b o b1 b2 b3 b4 e
   ·obtain ⟨b1,b2,b3,b4⟩ := nch b hcb
    exact ⟨o.slots,keepAll b o b1 b2 b3 b4 e⟩
   ·rw [Jg (Nat.ne_of_lt (Heap.lt_size e))]; exact n
   ·obtain ⟨b1,b2,b3,b4⟩ := nch b hcb
    exact ⟨o,keepAll b o b1 b2 b3 b4 e⟩
   ·rw [Jg (Jc e hnew)]; exact e
   ·rw [Jg (Jc e hnew)]; exact e
   ·exact ⟨#[],by rw [Jg (Jc e hnew),e]; simp⟩
   ·obtain ⟨o,es',ep,ho,r⟩ := hm
    exact ⟨o,es',ep,keepAll _ o fz.2.1.symm fTO.2.1.symm f1.2.1.symm f2.2.1.symm ho,r⟩
  refine ⟨.ref s.heap.objs.size,_,I2,rfl,⟨_,c,d,hnew,hc1,hd1,rfl,rfl⟩,⟨hz',hs'.extBut _ _ F.TIz (kp _ _ F.TIz F.TITO F.TIi1 F.TIi2 hTI),⟨_,_,hs'.extBut _ _ F.TOz a2⟩,?_,?_⟩,fun b hb => ?_⟩
  ·obtain ⟨o,e,r⟩ := a3; exact ⟨o,hs'.extBut _ _ F.i1z e,r⟩
  ·obtain ⟨o,e,r⟩ := a4; exact ⟨o,hs'.extBut _ _ F.i2z e,r⟩
  ·rw [Jg (Nat.ne_of_lt (far b hb))]; exact (hf b hb).1
 done := by
  intro X hP hw hK hc i pins s σ H E I hf st hg
  subst hP hw hK
  obtain ⟨hz,hTI,⟨a,b,hTO⟩,h1,h2⟩ := st
  have hh : X.A.in1.handled = none := I.ok.hd hc
  have hT : s.TypeIs (.ref z) "zip" := ⟨_,hz,rfl⟩
  have D1 := J53 (prog := X.prog) (w := X.w) (it := i1) (l := l1) (t := t1) hh hn1
  have D2 := J53 (prog := X.prog) (w := X.w) (it := i2) (l := l2) (t := t2) hh hn2
  unfold pyNext
  refine wpAny_bind (wpAny_attempt (wpAny_callSpecial?_slot (name := Str.ofString "__next__") hT PySem.F.slot_zip_next (wpAny_call_entry PySem.F.slot_zip_next hT PySem.F.entry_zip_next
   (Jdm F D1 D2 hz hTI hTO h1 h2 hg fun h' tk e kp he => ?_) (PySem.F.args_zip_next_1 _))))
  obtain ⟨o,ho,hc'⟩ := he
  refine wpAny_bind (wpAny_isInstance (T := "StopIteration") (b := true) ⟨o,ho,hc'⟩ isSubtype_stop ?_)
  refine wpAny_pure ⟨rfl,?_⟩
  refine I.turnedN (ch := [z,TO,i1,i2]) (fun b o hb q => ?_) fun b hb => hf b ?_
  ·simp only [List.mem_cons,List.not_mem_nil,or_false,not_or] at hb
   exact kp b o hb.1 hb.2.1 hb.2.2.1 hb.2.2.2 q
  ·simp only [List.mem_cons,List.not_mem_nil,or_false] at hb ⊢
   rcases hb with q | q | q | q
   ·exact .inl q
   ·exact .inr (.inr (.inl q))
   ·exact .inr (.inr (.inr (.inl q)))
   ·exact .inr (.inr (.inr (.inr q)))
 self := fun _ _ _ _ _ st h => wpAny_pyIter_zip st.1 h
noncomputable def J2I (l : List Nat) : String := if (⟨l.toArray⟩ : Str).cps.all (· < 128) = true then "str_ascii_iterator" else "str_iterator"
theorem J7P (l : List Nat) : J2I l = "str_ascii_iterator" ∨ J2I l = "str_iterator" := by
 unfold J2I; split
 ·exact .inl rfl
 ·exact .inr rfl
theorem J9s {prog : Program} {w : World} {A : Around} {E : Value → Shared → Prop} {hp : Heap} {g : Array GenState} {d : Drawn} {tk : Nat} {os : OsState} {l : List Nat} {t : Tok} {Q : Value → Shared → Prop}
  (h : Q (.ref hp.objs.size) ⟨hp.push { cls := .type (J2I l),data := .fields #[.str ⟨l.toArray⟩ t,.int 0 0] },g,d,tk,os⟩) : wpAny (model prog w) A (pyIter (.str ⟨l.toArray⟩ t)) Q E ⟨hp,g,d,tk,os⟩ := by
 cases ha : (⟨l.toArray⟩ : Str).cps.all (· < 128) with
 | true =>
  have e : J2I l = "str_ascii_iterator" := by unfold J2I; rw [if_pos ha]
  rw [e] at h
  exact wpAny_pyIter_ascii (s := ⟨hp,g,d,tk,os⟩) ha h
 | false =>
  have e : J2I l = "str_iterator" := by unfold J2I; rw [if_neg (by rw [ha]; exact Bool.false_ne_true)]
  rw [e] at h
  exact wpAny_pyIter_wide (s := ⟨hp,g,d,tk,os⟩) ha h
noncomputable abbrev Jbl (h : Heap) (l1 : List Nat) (t1 : Tok) : Heap := h.push { cls := .type (J2I l1),data := .fields #[.str ⟨l1.toArray⟩ t1,.int 0 0] }
noncomputable abbrev Jbg (h : Heap) (l1 l2 : List Nat) (t1 t2 : Tok) : Heap := (Jbl h l1 t1).push { cls := .type (J2I l2),data := .fields #[.str ⟨l2.toArray⟩ t2,.int 0 0] }
noncomputable abbrev Jbh (h : Heap) (l1 l2 : List Nat) (t1 t2 : Tok) : Heap := (Jbg h l1 l2 t1 t2).push { cls := .type "tuple",data := .seq #[.ref h.objs.size,.ref (Jbl h l1 t1).objs.size] }
noncomputable abbrev Jbs (h : Heap) (l1 l2 : List Nat) (t1 t2 : Tok) : Heap := (Jbh h l1 l2 t1 t2).push { cls := .type "tuple",data := .seq #[.none,.none] }
noncomputable abbrev J7S (h : Heap) (l1 l2 : List Nat) (t1 t2 : Tok) : Heap := (Jbs h l1 l2 t1 t2).push { cls := .type "zip",data := .fields #[.none,.bool false,.bool false,.ref (Jbg h l1 l2 t1 t2).objs.size,.ref (Jbh h l1 l2 t1 t2).objs.size] }
theorem JaL (l1 l2 : List Nat) (t1 t2 : Tok) :
  Meets (Builtin.«zip.__new__» ⟨[.type "zip",.str ⟨l1.toArray⟩ t1,.str ⟨l2.toArray⟩ t2],[]⟩) (fun _ R s => R (.ok (.ret (.ref (Jbs s.heap l1 l2 t1 t2).objs.size))) { s with heap := J7S s.heap l1 l2 t1 t2 }) :=
 .of_wp fun prog w A R s h => by
  obtain ⟨hp,g,d,tk,os⟩ := s
  have hsub := sub_zip
  wp_walk using J9s (l := l1) (t := t1),J9s (l := l2) (t := t2)
  exact ⟨_,rfl,h⟩
theorem JbO {prog : Program} {w : World} {A : Around} {E : Value → Shared → Prop} {s : Shared} {l1 l2 : List Nat} {t1 t2 : Tok} {Q : Value → Shared → Prop}
  (h : ∀ h',IsZip h' (s.heap.objs.size + 4) (s.heap.objs.size + 2) (s.heap.objs.size + 3) .none → IsPair h' (s.heap.objs.size + 2) (.ref s.heap.objs.size) (.ref (s.heap.objs.size + 1)) →
   IsPair h' (s.heap.objs.size + 3) .none .none → h'.IsStrIter s.heap.objs.size (J2I l1) ⟨l1.toArray⟩ t1 0 → h'.IsStrIter (s.heap.objs.size + 1) (J2I l2) ⟨l2.toArray⟩ t2 0 →
   (∀ c o,s.heap.get? c = some o → h'.get? c = some o) → Q (.ref (s.heap.objs.size + 4)) { s with heap := h' }) :
  wpAny (model prog w) A (call (.type "zip") [.str ⟨l1.toArray⟩ t1,.str ⟨l2.toArray⟩ t2]) Q E s := by
 refine callType_new F.called_zip (by decide) (F.typeCall_zip_2 _ _) (F.newCall_zip_2 _ _) (fun obj => F.args_object_init_3 obj _ _) F.entry_zip_new (JaL l1 l2 t1 t2) ?_
 have z1 : (Jbl s.heap l1 t1).objs.size = s.heap.objs.size + 1 := Heap.size_push ..
 have z2 : (Jbg s.heap l1 l2 t1 t2).objs.size = s.heap.objs.size + 2 := by rw [Heap.size_push,z1]
 have z3 : (Jbh s.heap l1 l2 t1 t2).objs.size = s.heap.objs.size + 3 := by rw [Heap.size_push,z2]
 have z4 : (Jbs s.heap l1 l2 t1 t2).objs.size = s.heap.objs.size + 4 := by rw [Heap.size_push,z3]
 have g5 : (J7S s.heap l1 l2 t1 t2).get? (Jbs s.heap l1 l2 t1 t2).objs.size = some _ := Heap.get?_push_size _ rfl
 have g4 : (J7S s.heap l1 l2 t1 t2).get? (Jbh s.heap l1 l2 t1 t2).objs.size = some _ := Heap.get?_push_of_some _ (Heap.get?_push_size _ rfl)
 have g3 : (J7S s.heap l1 l2 t1 t2).get? (Jbg s.heap l1 l2 t1 t2).objs.size = some _ := Heap.get?_push_of_some _ (Heap.get?_push_of_some _ (Heap.get?_push_size _ rfl))
 have g2 : (J7S s.heap l1 l2 t1 t2).get? (Jbl s.heap l1 t1).objs.size = some _ := Heap.get?_push_of_some _ (Heap.get?_push_of_some _ (Heap.get?_push_of_some _ (Heap.get?_push_size _ rfl)))
 have g1 : (J7S s.heap l1 l2 t1 t2).get? s.heap.objs.size = some _ := Heap.get?_push_of_some _ (Heap.get?_push_of_some _ (Heap.get?_push_of_some _ (Heap.get?_push_of_some _ (Heap.get?_push_size _ rfl))))
 show _ ∧ _
 rw [z2,z3,z4] at g5
 rw [z1,z2] at g3
 rw [z3] at g4
 rw [z1] at g2
 rw [z4]
 exact ⟨⟨_,g5,rfl⟩,h _ g5 g3 g4 ⟨_,g1,rfl,rfl⟩ ⟨_,g2,rfl,rfl⟩ fun c o x =>
  Heap.get?_push_of_some _ (Heap.get?_push_of_some _ (Heap.get?_push_of_some _ (Heap.get?_push_of_some _ (Heap.get?_push_of_some _ x))))⟩
section
variable {X : Cx} {es : List Expr} {k : Nat} {tpos : Pos}
noncomputable def JfU (ta : TA) : TI := fun σ H R => ta σ H fun vs H1 => ∃ l1 l2,vs = [T l1,T l2] ∧ R (Itz l1 l2) H1
theorem Je4 {a b : Expr} {ta : TA} {p pos : Pos} (hg : Gl X "zip") (hm : X.mg "zip" = none) (ha : PA X [a,b] ta) (hv : bootBuiltins "zip" = some (.type "zip") := by decide +kernel) (hs : starEach [a,b] X.env = [(false,eval a X.env),(false,eval b X.env)] := by rfl) (hs2 : starEach [b] X.env = [(false,eval b X.env)] := by rfl) :
  PI X (.Tuple es k tpos) (.Call (.Name "zip" p) [a,b] [] pos) (JfU ta) := by
 intro pins s σ H R I h
 refine Call_ (J4q I hg hm hv (PyProof.Rows.callWith_type1 (thn (ha pos pins s σ H _ I h) fun us s1 ⟨vs,H1,I1,r1,q1⟩ => ?_) (by rw [hs,hs2]) (by rw [hs2]; rfl)))
 obtain ⟨l1,l2,e,q⟩ := q1
 subst e
 obtain ⟨u,v,rfl,ru,rv⟩ := r1.two
 obtain ⟨t1,rfl⟩ := ru
 obtain ⟨t2,rfl⟩ := rv
 refine JbO fun h' a1 a2 a3 a4 a5 kp => ?_
 have far : J3U (s1.heap.objs.size + 4) (s1.heap.objs.size + 2) (s1.heap.objs.size + 3) s1.heap.objs.size (s1.heap.objs.size + 1) := J70 _
 have I2 : Inv X pins σ H1 { s1 with heap := h' } := I1.kept (t' := s1.toks) kp
 refine wpAny_pyIter_zip a1 ⟨s1.heap.objs.size + 4,[s1.heap.objs.size + 4,s1.heap.objs.size + 2,s1.heap.objs.size + 3,s1.heap.objs.size,s1.heap.objs.size + 1],_,_,H1,rfl,I2,Jc6 (t1 := t1) (t2 := t2) far (J7P l1) (J7P l2),⟨a1,a2,⟨_,_,a3⟩,a4,a5⟩,fun b hb => ?_,q⟩
 have hb' : s1.heap.objs.size ≤ b := by
  simp only [List.mem_cons,List.not_mem_nil,or_false] at hb
  rcases hb with rfl | rfl | rfl | rfl | rfl
  ·exact Nat.le_add_right _ _
  ·exact Nat.le_add_right _ _
  ·exact Nat.le_add_right _ _
  ·exact Nat.le_refl _
  ·exact Nat.le_add_right _ _
 exact I1.fpOk hb' (I1.hok.fresh hb')
end
end L2
set_option linter.all false
set_option maxRecDepth 100000
set_option maxHeartbeats 4000000
namespace L2
open PySem PySem.Spec PyProof.Rows
theorem JbY {K : PySem.W.Frag} {H : Hp} {l1 l2 : List Nat} {rest : St} {te : TE} {Q : VK} (f : Nat → Nat → V) (hx : l1.length ≤ 1000000)
  (he : ∀ c d H',Same H H' → ∀ R : VK,(∀ H'',Same H' H'' → R (f c d) H'') → te (some (T [c]) :: some (T [d]) :: rest) H' R)
  (hQ : ∀ D H',H D = none → Same H H' → H' D = some (.lst ((l1.zip l2).map fun p => f p.1 p.2)) → Q (.ref D) H') :
  J4e (Itz l1 l2) H (none :: none :: rest) (gTup K 2 (J9J (J3e 0) (J9J (J3e 1) gNil))) tYes te Q := by
 intro D hD
 refine ⟨fun i m σ1 ys H' => m = l1.length - i ∧ i ≤ l1.length ∧ i ≤ l2.length ∧ (∃ a b,σ1 = a :: b :: rest) ∧ ys = ((l1.zip l2).take i).map (fun p => f p.1 p.2) ∧ H' D = some (.lst ys) ∧ Same H H',⟨l1.length,by simp,Nat.zero_le _,Nat.zero_le _,⟨_,_,rfl⟩,rfl,J7,Ji hD _⟩,?_⟩
 rintro i m σ1 ys H' ⟨rfl,hi1,hi2,⟨a,b,rfl⟩,rfl,hDD,hs⟩
 by_cases hlt : i < l1.length ∧ i < l2.length
 ·refine .inr ⟨hlt,fun x H'' hy => ?_⟩
  obtain ⟨p,c,d,hp,hc,hd,rfl,rfl⟩ := hy
  refine ⟨p,[T [c],T [d]],rfl,SqT.of J7,rfl,T [c],[T [d]],rfl,T [d],[],rfl,rfl,?_⟩
  unfold tYes
  dsimp only
  refine iteT ?_
  have pD : D ≠ p := fun z => by subst z; rw [hp] at hDD; cases hDD
  have s1 : Same H (upd H' p (.tup [T [c],T [d]])) := hs.trans (Ji hp _)
  have hz : (l1.zip l2)[i]? = some (c,d) := by rw [List.getElem?_zip_eq_some]; exact ⟨hc,hd⟩
  refine he c d _ s1 _ fun H4 s4 => ⟨s4 _ _ (by rw [Jg pD]; exact hDD),?_,l1.length - (i + 1),by omega,rfl,hlt.1,hlt.2,⟨_,_,rfl⟩,?_,J7,(s1.trans s4).upd hD⟩
  ·rw [List.length_map,List.length_take]
   have : (1000001 : Nat) ≤ sizeLine := by decide
   omega
  ·rw [List.take_add_one,hz,List.map_append]
   rfl
 ·have e : i = l1.length ∨ (i < l1.length ∧ i = l2.length) := by omega
  refine .inl ⟨e,hQ D H' hD hs ?_⟩
  rw [hDD,List.take_of_length_le]
  rw [List.length_zip]
  omega
end L2
set_option linter.all false
set_option maxRecDepth 100000
set_option maxHeartbeats 4000000
namespace L2
open PySem PySem.Spec PyProof.Rows
noncomputable def GF (K : PySem.W.Frag) (mg : Str → Option Value) (x : Str) (st : Stmt) : Prop := ∃ f fd,Fun K x x st f fd ∧ mg x = some (.ref f)
noncomputable def FnG (P : Program) (w : World) (K : PySem.W.Frag) (mg : Str → Option Value) (base : Heap) (x : Str) (k : Nat) (ps : List Str) (sp : Sp) : Prop :=
 ∃ f fd,FnOk P w K mg base CX0 k f fd ps sp ∧ mg x = some (.ref f) ∧ PySem.W.keepIn K (.ref f) = true ∧ J4h K fd ps []
noncomputable def MF (K : PySem.W.Frag) (C : Addr) (m qual : Str) (st : Stmt) : Prop := ∃ f fd,Fun K m qual st f fd ∧ Meth K C m f
noncomputable def MtG (P : Program) (w : World) (K : PySem.W.Frag) (mg : Str → Option Value) (base : Heap) (C : Addr) (m : Str) (k : Nat) (ps : List Str) (sp : Sp) : Prop :=
 ∃ f fd,FnOk P w K mg base CX0 k f fd ps sp ∧ Cls K C ∧ Meth K C m f ∧ J4h K fd ps []
structure CF (K : PySem.W.Frag) (mg : Str → Option Value) (x : Str) (C : Addr) : Prop where
 cl : Cls K C
 mg : mg x = some (.ref C)
 makes : PySem.W.makesIn K C = true
 kp : PySem.W.keepIn K (.ref C) = true
noncomputable def MkG (P : Program) (w : World) (K : PySem.W.Frag) (mg : Str → Option Value) (base : Heap) (C : Addr) (x : Str) (k : Nat) (ps : List Str) (sp : Sp) : Prop :=
 ∃ f fd,FnOk P w K mg base CX0 k f fd ps sp ∧ Mk K C f ∧ mg x = some (.ref C) ∧ J4h K fd ps []
section
variable {P : Program} {w : World} {K : PySem.W.Frag} {mg : Str → Option Value} {base : Heap}
theorem FnG.mono {x : Str} {j k : Nat} {ps : List Str} {sp : Sp} (G : FnG P w K mg base x j ps sp) (h : j ≤ k) : FnG P w K mg base x k ps sp := by
 obtain ⟨f,fd,a,b⟩ := G
 exact ⟨f,fd,a.mono h,b⟩
theorem MtG.mono {C : Addr} {m : Str} {j k : Nat} {ps : List Str} {sp : Sp} (G : MtG P w K mg base C m j ps sp) (h : j ≤ k) : MtG P w K mg base C m k ps sp := by
 obtain ⟨f,fd,a,b⟩ := G
 exact ⟨f,fd,a.mono h,b⟩
theorem MtG.imp {C : Addr} {m : Str} {k : Nat} {ps : List Str} {sp sp' : Sp} (G : MtG P w K mg base C m k ps sp) (h : ∀ vs H Q E,sp' vs H Q E → sp vs H Q E) : MtG P w K mg base C m k ps sp' := by
 obtain ⟨f,fd,a,b⟩ := G
 exact ⟨f,fd,a.imp h,b⟩
theorem GF.g {x : Str} {st : Stmt} {N ps : List Str} {k : Nat} {sp : Sp} (F : GF K mg x st) (S : Jr N ps (J4 st))
  (bnd : ∀ (kV doc pm : Value) (an : Option Addr) (cdv ct : Value) (us : List Value),us.length = ps.length → bindArgs (PySem.W.fnOf x x (Jp st) (Jo st) (J4 st) .none kV doc pm an cdv ct) ⟨us,[]⟩ = pure (ps.zip us))
  (len : ∀ vs H Q E,sp vs H Q E → vs.length = ps.length)
  (hbody : ∀ (f : Addr) (cdv : Value) (A : Around) (outer : List Env) (s : Shared) (H : Hp) (vs : List V) (Q : VK) (E : XK),Room k (A.deeper (envOfC x (J4 st) s.heap.objs.size f cdv)) → sp vs H Q E →
   ∃ t,PSs (cxOf CX0 P w K mg base N x (J4 st) f cdv A outer s H E).nox (Jo st) t ∧ t { nx := fun _ H' => Q .non H',rt := Q } (start N vs) H) : FnG P w K mg base x (k + 1) ps sp := by
 obtain ⟨f,fd,F,m⟩ := F
 exact ⟨f,fd,F.ok S len fun cdv A outer s H vs Q E hr h => hbody f cdv A outer s H vs Q E hr h,m,F.kp,F.binds bnd⟩
theorem MF.g {C : Addr} {m qual : Str} {st : Stmt} {N ps : List Str} {k : Nat} {sp : Sp} (F : MF K C m qual st) (cl : Cls K C) (S : Jr N ps (J4 st))
  (bnd : ∀ (kV doc pm : Value) (an : Option Addr) (cdv ct : Value) (us : List Value),us.length = ps.length → bindArgs (PySem.W.fnOf m qual (Jp st) (Jo st) (J4 st) .none kV doc pm an cdv ct) ⟨us,[]⟩ = pure (ps.zip us))
  (len : ∀ vs H Q E,sp vs H Q E → vs.length = ps.length)
  (hbody : ∀ (f : Addr) (cdv : Value) (A : Around) (outer : List Env) (s : Shared) (H : Hp) (vs : List V) (Q : VK) (E : XK),Room k (A.deeper (envOfC qual (J4 st) s.heap.objs.size f cdv)) → sp vs H Q E →
   ∃ t,PSs (cxOf CX0 P w K mg base N qual (J4 st) f cdv A outer s H E).nox (Jo st) t ∧ t { nx := fun _ H' => Q .non H',rt := Q } (start N vs) H) : MtG P w K mg base C m (k + 1) ps sp := by
 obtain ⟨f,fd,F,m⟩ := F
 exact ⟨f,fd,F.ok S len fun cdv A outer s H vs Q E hr h => hbody f cdv A outer s H vs Q E hr h,cl,m,F.binds bnd⟩
theorem CF.g {C : Addr} {x : Str} {k : Nat} {ps : List Str} {sp : Sp} (c : CF K mg x C) (G : MtG P w K mg base C "__init__" k ps sp) : MkG P w K mg base C x k ps sp := by
 obtain ⟨f,fd,a,_,m,b⟩ := G
 exact ⟨f,fd,a,⟨c.makes,m.at_,m.fn,c.kp⟩,c.mg,b⟩
end
section
variable {X : Cx} {x m : Str} {k : Nat} {ps : List Str} {sp : Sp} {C : Addr} {p pos apos : Pos} {e o : Expr} {es : List Expr} {t : TA} {to : TE}
theorem JB (G : FnG X.prog X.w X.K X.mg X.base x k ps sp) (hr : Room k X.A) (ha : PA X (e :: es) t) (hg : Gl X x := by rfl) (hdb : (x == ("__debug__" : Str)) = false := by decide)
  (he : starEach (e :: es) X.env = (false,eval e X.env) :: starEach es X.env := by rfl) (hpl : (backTo pos (starEach es X.env)).any (·.1) = false := by rfl) : PE X (.Call (.Name x p) (e :: es) [] pos) (Jev sp [] E0 t) := by
 obtain ⟨f,fd,a,b,c,d⟩ := G
 exact Jer a hr hg b c d .nil Jbm ha hdb he hpl
theorem Jb5 {pl : Sem Bool} (G : MtG X.prog X.w X.K X.mg X.base C m k ps sp) (hr : Room k X.A) (ho : PE X o to) (ha : PA X (e :: es) t)
  (hst : starEach (e :: es) X.env = (false,eval e X.env) :: starEach es X.env := by rfl) (hpl : (backTo pos (starEach es X.env)).any (·.1) = false := by rfl)
  (ht : eval (.Call (.Attribute o m apos) (e :: es) [] pos) X.env = (do
   let ov ← eval o X.env
   standAt apos.atName
   let (f,first) ← holding [ov] (getMethod ov m pl)
   callWith pos f first (backTo pos (starEach (e :: es) X.env)) (backToKw pos (keywordEach [] X.env))) := by rfl) :
  PE X (.Call (.Attribute o m apos) (e :: es) [] pos) (JeE C m sp [] E0 to t) := by
 obtain ⟨f,fd,a,b,c,d⟩ := G
 exact JdZ (pl := pl) ho b c a hr d .nil Jbm ha hst hpl ht
noncomputable def Jfw (P : Program) (w : World) (K : PySem.W.Frag) (mg : Str → Option Value) (base : Heap) (n : Nat) (m : Str) (ta : TE) (t : TA) : TE := fun σ H Q => ta σ H fun x H1 => ∃ a C dx fs k ps sp,x = .ref a ∧ H1 a = some (.ins C dx fs) ∧ fs.lookup m = none ∧
 MtG P w K mg base C m k ps sp ∧ k ≤ n ∧ t σ H1 fun vs H2 => sp (x :: vs) H2 Q E0
theorem J4w {P : Program} {w : World} {K : PySem.W.Frag} {mg : Str → Option Value} {base : Heap} {n : Nat} {pl : Sem Bool} (hr : Room n X.A) (ho : PE X o to) (ha : PA X (e :: es) t) (hP : X.prog = P) (hw : X.w = w) (hK : X.K = K) (hmg : X.mg = mg) (hbs : X.base = base)
  (hst : starEach (e :: es) X.env = (false,eval e X.env) :: starEach es X.env := by rfl) (hpl : (backTo pos (starEach es X.env)).any (·.1) = false := by rfl)
  (ht : eval (.Call (.Attribute o m apos) (e :: es) [] pos) X.env = (do
   let ov ← eval o X.env
   standAt apos.atName
   let (f,first) ← holding [ov] (getMethod ov m pl)
   callWith pos f first (backTo pos (starEach (e :: es) X.env)) (backToKw pos (keywordEach [] X.env))) := by rfl) :
  PE X (.Call (.Attribute o m apos) (e :: es) [] pos) (Jfw P w K mg base n m to t) := by
 subst hP hw hK hmg hbs
 intro pins s σ H Q I h
 refine PySem.W.methodCall_KW (pl := pl) (thn (ho pins s σ H _ I h) fun u s1 ⟨x,H1,I1,rx,a,C,dx,fs,k,ps,sp,ex,ea,l,G,hk,q⟩ => ?_) ht
 have hr := hr.mono hk
 obtain ⟨f,fd,F,c,hm,hb⟩ := G
 subst ex
 obtain rfl : u = Value.ref a := rx
 refine J75 I1 ea c hm l ?_
 refine PySem.W.callWith_K (first := [.ref a]) (h₀ := X.base) I.ok.mod.kin hm.kp (thn (ha pos pins s1 σ H1 _ I1 q) fun us s2 ⟨vs,H2,I2,r,q2⟩ => ⟨I2.kIn,?_⟩) hst hpl
 exact JaB (us := .ref a :: us) (vs := .ref a :: vs) (E := E0) F hr hb .nil Jbm I2 (.cons rfl r) (by rw [List.append_nil]; exact q2)
theorem Jdp {n : Str} {T : String} (hm : X.mg n = none) (hv : bootBuiltins n = some (.type T)) (hg : Gl X n := by rfl) (hn : n ≠ "__name__" := by decide) (hd : (n == ("__debug__" : Str)) = false := by decide) : PE X (.Name n pos) (tC (.ty T)) :=
 Jeg hg hm hv rfl hn hd
end
section
variable {X : Cx} {K : PySem.W.Frag}
theorem Jz (h : X.K = K) : IxR X (rIxL K) := h ▸ Jem
theorem JZ (h : X.K = K) : IxR X (rIxT K) := h ▸ Jfa
theorem J0Z (h : X.K = K) : SlR X (rSlL K) := h ▸ Je3
theorem JH (h : X.K = K) : J1U X (.builtin "len") (fun xs H Q => ∃ p ys,xs = [.ref p] ∧ (SqL K H p ys ∨ SqT K H p ys) ∧ Q (.int ys.length) H) := h ▸ J8u
theorem J6V (hc : X.calm = true) (h : X.K = K) : J1U X (.builtin "all") (fun xs H Q => ∃ (D : Addr) (bs : List Bool),xs = [.ref D] ∧ SqL K H D (bs.map V.bl) ∧ Q (.bl (bs.all id)) H) := h ▸ Jc1 hc
theorem J6L (hc : X.calm = true) (h : X.K = K) : J1U X (.builtin "any") (fun xs H Q => ∃ (D : Addr) (bs : List Bool),xs = [.ref D] ∧ SqL K H D (bs.map V.bl) ∧ Q (.bl (bs.any id)) H) := h ▸ Jc3 hc
theorem JC {e : Expr} {f : Str} {ta : TE} {pos : Pos} (h : X.K = K) (he : PE X e ta) (hb : attributeBase e f X.env (eval e X.env) = eval e X.env) : PE X (.Attribute e f pos) (tFld K ta f) := h ▸ Jfq he hb
theorem J3R {o e : Expr} {to : TE} {t : TA} {apos cpos : Pos} (h : X.K = K) (ho : PE X o to) (ha : PA X [e] t)
  (hbase : attributeBase o "join" X.env (eval o X.env) = eval o X.env := by rfl)
  (hfew : ((backTo cpos (starEach [e] X.env)).all (fun x => !x.1) && (backToKw cpos (keywordEach [] X.env)).all (fun x => x.1.isSome)
   && decide ([e].length + ([] : List Keyword).length + (if ([] : List Keyword).isEmpty then 0 else 1) < 30)) = true := by rfl)
  (hline : (apos.endLine == cpos.line) = true := by rfl) (hs : starEach [e] X.env = (false,eval e X.env) :: starEach [] X.env := by rfl) (hplain : (backTo cpos (starEach [] X.env)).any (·.1) = false := by rfl) :
  PE X (.Call (.Attribute o "join" apos) [e] [] cpos) (tBM K "str" (Jdd K) to t) := h ▸ Je0 ho ha hbase hfew hline hs hplain
theorem J0J {tg l : Expr} {tl : TE} (h : X.K = K) (hl : PE X l tl) : PI X tg l (JeD K tl) := h ▸ Jes hl
theorem J5w {i j : Nat} {x y : Str} {px py pos : Pos} {k : Nat} (h : X.K = K) (hc : X.calm = true) (hN : X.N.Nodup) (hi : X.N[i]? = some x) (hj : X.N[j]? = some y) (hx : Loc X.env.scope x) (hy : Loc X.env.scope y)
  (hfx : X.fn x = true ∨ X.env.scope.names.lookup x = some .local := by first | exact .inl rfl | exact .inr rfl | assumption) (hfy : X.fn y = true ∨ X.env.scope.names.lookup y = some .local := by first | exact .inl rfl | exact .inr rfl | assumption) :
  PG X (.Tuple [.Name x px,.Name y py] k pos) (gTup K 2 (J9J (J3e i) (J9J (J3e j) gNil))) := h ▸ J0Y hc (Jk (Je hN hi hx hfx) (Jk (Je hN hj hy hfy) J08))
end
theorem JaT : bootBuiltins "bool" = some (.type "bool") := by decide +kernel
theorem J41 : bootBuiltins "int" = some (.type "int") := by decide +kernel
theorem J7N : bootBuiltins "str" = some (.type "str") := by decide +kernel
theorem J0C : bootBuiltins "list" = some (.type "list") := by decide +kernel
theorem Jfz : bootBuiltins "max" = some (.builtin "max") := by decide +kernel
theorem Jd7 : bootBuiltins "all" = some (.builtin "all") := by decide +kernel
theorem Jdc : bootBuiltins "any" = some (.builtin "any") := by decide +kernel
theorem J39 : bootBuiltins "isinstance" = some (.builtin "isinstance") := by decide +kernel
theorem J9L {J : It} {H : Hp} {xs : List V} {σ0 : St} {k : Nat} {te : TE} {Q : VK} (Pe : V → V → Prop) (hJ : J58 J H xs) (hx : xs.length ≤ 1000000)
  (he : ∀ x ∈ xs,∀ H',Same H H' → ∀ R : VK,(∀ y H'',Pe x y → Same H' H'' → R y H'') → te (σ0.set k (some x)) H' R)
  (hQ : ∀ D H' ys,H D = none → Same H H' → ys.length = xs.length → (∀ (i : Nat) (x y : V),xs[i]? = some x → ys[i]? = some y → Pe x y) → H' D = some (.lst ys) → Q (.ref D) H') :
  J4e J H σ0 (J3e k) tYes te Q := by
 intro D hD
 refine ⟨fun i m σ1 ys H' => m = xs.length - i ∧ i ≤ xs.length ∧ (σ1 = σ0 ∨ ∃ v,σ1 = σ0.set k v) ∧ ys.length = i ∧ (∀ (j : Nat) (x y : V),xs[j]? = some x → ys[j]? = some y → Pe x y) ∧ H' D = some (.lst ys) ∧ Same H H',
  ⟨xs.length,by simp,Nat.zero_le _,.inl rfl,rfl,fun j x y _ h => by simp at h,J7,Ji hD _⟩,?_⟩
 rintro i m σ1 ys H' ⟨rfl,hi,hσ,hlen,hP,hDD,hs⟩
 by_cases hlt : i < xs.length
 ·refine .inr ⟨hJ.go i H' hs hlt,fun x H'' hy => ?_⟩
  obtain ⟨e1,hx1⟩ := hJ.yld i H' x H'' hs hlt hy
  subst e1
  have hm : x ∈ xs := List.mem_of_getElem? hx1
  have hset : σ1.set k (some x) = σ0.set k (some x) := by
   rcases hσ with rfl | ⟨v,rfl⟩
   ·rfl
   ·rw [List.set_set]
  unfold J3e tYes
  dsimp only
  rw [hset]
  refine iteT ?_
  refine he x hm H'' hs _ fun y H4 hPy s4 => ⟨s4 _ _ hDD,?_,xs.length - (i + 1),by omega,rfl,hlt,.inr ⟨_,rfl⟩,?_,?_,J7,(hs.trans s4).upd hD⟩
  ·have : (1000001 : Nat) ≤ sizeLine := by decide
   omega
  ·rw [List.length_append,List.length_singleton,hlen]
  ·intro j x' y' h1 h2
   by_cases hj : j < i
   ·rw [List.getElem?_append_left (by omega)] at h2
    exact hP j x' y' h1 h2
   ·have hji : j = i := by
     have := (List.getElem?_eq_some_iff.mp h2).1
     rw [List.length_append,List.length_singleton,hlen] at this
     omega
    subst hji
    rw [List.getElem?_append_right (by omega),hlen,Nat.sub_self] at h2
    rw [hx1] at h1
    cases h1
    have : y = y' := by simpa using h2
    subst this
    exact hPy
 ·have e : i = xs.length := by omega
  subst e
  exact .inl ⟨hJ.stop H' hs,hQ D H' ys hD hs hlen hP hDD⟩
end L2
set_option linter.all false
set_option maxRecDepth 100000
set_option maxHeartbeats 4000000
namespace L2
open PySem PySem.Spec PyProof.Rows
theorem Vals.rel {xs : List V} {us : List Value} (r : Vals xs us) : ∀ (j : Nat) (h1 : j < xs.length) (h2 : j < us.length),RelV xs[j] us[j] := by
 induction r with
 | nil => intro j h1; simp at h1
 | cons a t ih =>
  intro j h1 h2
  cases j with
  | zero => exact a
  | succ j => exact ih j (by simpa using h1) (by simpa using h2)
noncomputable def eqVs : List V → List V → Bool
 | [],[] => true
 | x :: xs,y :: ys => eqV x y && eqVs xs ys
 | _,_ => false
theorem J4V : ∀ {xs ys : List V},xs.length ≠ ys.length → eqVs xs ys = false
 | [],[],h => absurd rfl h
 | [],_ :: _,_ => rfl
 | _ :: _,[],_ => rfl
 | x :: xs,y :: ys,h => by
  have : xs.length ≠ ys.length := fun e => h (by simp [e])
  rw [eqVs,J4V this,Bool.and_false]
theorem J3w : ∀ {xs ys : List V},xs.length = ys.length → (List.range xs.length).all (fun j => eqV (xs.getD j .non) (ys.getD j .non)) = eqVs xs ys
 | [],[],_ => rfl
 | [],_ :: _,h => by simp at h
 | _ :: _,[],h => by simp at h
 | x :: xs,y :: ys,h => by
  have h' : xs.length = ys.length := by simpa using h
  rw [List.length_cons,List.range_succ_eq_map,List.all_cons,List.all_map,eqVs,← J3w h']
  rfl
section
variable {X : Cx} {K : PySem.W.Frag}
theorem J4P {A : Around} {s : Shared} {xs ys : List V} {ia ib : List Value} (ra : Vals xs ia) (rb : Vals ys ib) (fx : xs.all J0l = true) (fy : ys.all J0l = true) :
  ∀ j (h1 : j < ia.toArray.size) (h2 : j < ib.toArray.size),SeqAt.EqAt A s ia.toArray[j] ib.toArray[j] (eqV (xs.getD j .non) (ys.getD j .non)) := by
 intro j h1 h2
 have la := ra.length
 have lb := rb.length
 have g1 : j < ia.length := by simpa using h1
 have g2 : j < ib.length := by simpa using h2
 have e1 : xs.getD j .non = xs[j]'(by omega) := by rw [List.getD_eq_getElem?_getD,List.getElem?_eq_getElem (by omega)]; rfl
 have e2 : ys.getD j .non = ys[j]'(by omega) := by rw [List.getD_eq_getElem?_getD,List.getElem?_eq_getElem (by omega)]; rfl
 rw [e1,e2]
 have k1 := ra.rel j (by omega) g1
 have k2 := rb.rel j (by omega) g2
 have q := Jdb (A := A) (s := s) k1 k2 (List.all_eq_true.mp fx _ (List.getElem_mem _)) (List.all_eq_true.mp fy _ (List.getElem_mem _))
 simpa using q
noncomputable def rEqL (K : PySem.W.Frag) (neg : Bool) : R2 := fun x y H Q => ∃ p r xs ys,x = .ref p ∧ y = .ref r ∧ SqL K H p xs ∧ SqL K H r ys ∧ xs.all J0l = true ∧ ys.all J0l = true ∧ Q (.bl (if neg then !eqVs xs ys else eqVs xs ys)) H
theorem JaM (h : X.K = K) (hu : X.A.units < cLine) : OpR X (compareOp .Eq) (rEqL K false) := by
 subst h
 intro pins s σ H x y v u Q I rx ry h
 obtain ⟨p,r,xs,ys,rfl,rfl,hp,hr,fx,fy,q⟩ := h
 cases rx; cases ry
 obtain ⟨ia,ra,pa,za⟩ := I.list hp
 obtain ⟨ib,rb,pb,zb⟩ := I.list hr
 have la := ra.length
 have lb := rb.length
 by_cases hsz : xs.length = ys.length
 ·refine SeqAt.eq_listAt (e := fun j => eqV (xs.getD j .non) (ys.getD j .non)) pa.isList pb.isList (by simp; omega) hu (J4P ra rb fx fy) ⟨.bl _,H,I,rfl,?_⟩
  rw [List.size_toArray,← la,J3w hsz]
  exact q
 ·refine SeqAt.eq_list_lengthsAt pa.isList pb.isList (by simp; omega) hu ⟨.bl false,H,I,rfl,?_⟩
  have q' : Q (.bl (eqVs xs ys)) H := q
  rw [J4V hsz] at q'
  exact q'
theorem Jf2 (h : X.K = K) (hu : X.A.units < cLine) : OpR X (compareOp .NotEq) (rEqL K true) := by
 subst h
 intro pins s σ H x y v u Q I rx ry h
 obtain ⟨p,r,xs,ys,rfl,rfl,hp,hr,fx,fy,q⟩ := h
 cases rx; cases ry
 obtain ⟨ia,ra,pa,za⟩ := I.list hp
 obtain ⟨ib,rb,pb,zb⟩ := I.list hr
 have la := ra.length
 have lb := rb.length
 have q' : Q (.bl (!eqVs xs ys)) H := q
 by_cases hsz : xs.length = ys.length
 ·refine SeqAt.RcNeAt.lists (e := fun j => eqV (xs.getD j .non) (ys.getD j .non)) pa.isList pb.isList (by simp; omega) hu (J4P ra rb fx fy) _ _ _ _ ⟨.bl _,H,I,rfl,?_⟩
  rw [List.size_toArray,← la,J3w hsz]
  exact q'
 ·refine SeqAt.RcNeAt.lists_lengths pa.isList pb.isList (by simp; omega) hu _ _ _ _ ⟨.bl true,H,I,rfl,?_⟩
  rw [J4V hsz] at q'
  exact q'
end
end L2
set_option linter.all false
set_option maxRecDepth 100000
set_option maxHeartbeats 4000000
namespace L2
open PySem PySem.Spec PyProof.Rows
section
variable {X : Cx} {K : PySem.W.Frag}
end
section
variable {prog : Program} {w : World} {A : Around} {E : Value → Shared → Prop} {s : Shared}
theorem J7F {it l : Addr} {items : Array Value} (hne : l ≠ it) : ∀ (n i : Nat) (s : Shared) (Q : List Value → Shared → Prop),s.heap.IsListIter it l i → s.heap.IsList l items → i + n ≤ items.size →
  (∀ h',h'.IsListIter it l (i + n) → Heap.SameBut it s.heap h' → Q ((items.toList.drop i).take n) { s with heap := h' }) → wpAny (model prog w) A (draw (.ref it) n) Q E s
 | 0,i,s,Q,hit,_,_,hQ => by
  show wpAny _ _ (pure []) Q E s
  exact wpAny_pure (by simpa using hQ s.heap hit (Heap.SameBut.refl ..))
 | n + 1,i,s,Q,hit,ht,hle,hQ => by
  have hlt : i < items.size := by omega
  show wpAny _ _ (pyNext (.ref it) >>= _) Q E s
  refine wpAny_bind (wpAny_pyNext_list_item hit ht (x := items[i]) (by simp [hlt]) fun h₁ hit₁ hs₁ => ?_)
  refine wpAny_bind (wpAny_holding (J7F hne n (i + 1) _ _ hit₁ (ht.extBut hs₁.extBut hne) (by omega) fun h₂ hit₂ hs₂ => wpAny_pure ?_))
  have hd : items.toList.drop i = items[i] :: items.toList.drop (i + 1) := by simp [List.drop_eq_getElem_cons,hlt]
  have := hQ h₂ (by rw [show i + (n + 1) = i + 1 + n by omega]; exact hit₂) (hs₁.trans hs₂)
  rw [hd,List.take_succ_cons] at this
  exact this
theorem J5z {t : Addr} {items : Array Value} {Q : List Value → Shared → Prop} (hh : A.handled = none) (ht : s.heap.IsList t items)
  (hQ : ∀ h',Heap.ExtBut s.heap.objs.size s.heap h' → Q items.toList { s with heap := h' }) : wpAny (model prog w) A (unpackItems (.ref t) items.size none) Q E s := by
 have hlt : t ≠ s.heap.objs.size := by obtain ⟨o,ho,_⟩ := ht; exact Nat.ne_of_lt (Heap.lt_size ho)
 unfold unpackItems
 refine wpAny_bind ?_
 ·unfold notIterableAtAll
  refine wpAny_bind (wpAny_specialOf ht.typeIs slot_list_iter.lookup ?_)
  refine wpAny_pure ?_
  simp only [Bool.false_eq_true,if_false]
  refine wpAny_bind (wpAny_holding (wpAny_pyIter_list ht ?_))
  refine wpAny_bind (wpAny_holding (J7F hlt items.size 0 _ _ ⟨_,Heap.get?_push_size _ rfl,rfl,rfl⟩ (ht.push _) (by omega) fun h₁ hit₁ hs₁ => ?_))
  have hall : List.take items.size (List.drop 0 items.toList) = items.toList := by
   rw [List.drop_zero]; exact List.take_of_length_le (by simp)
  rw [hall]
  rw [if_neg (by simp)]
  have ht₁ : h₁.IsList t items := (ht.push _).extBut hs₁.extBut hlt
  refine wpAny_bind (wpAny_holding (wpAny_pyNext_list_end hh hit₁ ht₁ (by simp) fun h₂ he₂ => ?_))
  simp only [Option.isSome_none,Bool.false_eq_true,if_false]
  refine wpAny_pure (hQ h₂ fun b o hb e => he₂ b o hb (hs₁.extBut b o hb (Heap.get?_push_of_some _ e)))
theorem J9U {t : Addr} {items : Array Value} {targets : List (Bool × (Value → Sem Unit))} {Q : Unit → Shared → Prop} (hh : A.handled = none) (ht : s.heap.IsList t items)
  (hn : targets.length = items.size) (hstar : targets.findIdx? (·.1) = none)
  (h : ∀ h',Heap.ExtBut s.heap.objs.size s.heap h' → wpAny (model prog w) A (assignInOrder (targets.map (·.2)) items.toList) Q E { s with heap := h' }) :
  wpAny (model prog w) A (unpack (.ref t) targets) Q E s := by
 unfold unpack
 rw [hn,hstar]
 exact wpAny_bind (wpAny_holding (J5z hh ht h))
theorem J57 {env : Env} {elts : List Expr} {x1} {pos : Pos} {t : Addr} {items : Array Value} {Q : Unit → Shared → Prop} (hh : A.handled = none) (ht : s.heap.IsList t items)
  (hn : (assignEach elts env).length = items.size) (hstar : (assignEach elts env).findIdx? (·.1) = none)
  (h : ∀ h',Heap.ExtBut s.heap.objs.size s.heap h' → wpAny (model prog w) A (assignInOrder ((assignEach elts env).map (·.2)) items.toList) Q E { s with heap := h' }) :
  wpAny (model prog w) A (assign (.Tuple elts x1 pos) env (.ref t)) Q E s := by
 rw [assign_Tuple]
 exact wpAny_bind (wpAny_standAt (J9U hh ht hn hstar h))
end
section
variable {X : Cx} {K : PySem.W.Frag} {pos : Pos}
noncomputable def gLst (K : PySem.W.Frag) (n : Nat) (t : TGs) : TG := fun v σ H Q => ∃ a xs,v = .ref a ∧ SqL K H a xs ∧ xs.length = n ∧ t xs σ H Q
theorem Jfn {es : List Expr} {k : Nat} {t : TGs} {n : Nat} (hc : X.calm = true) (h : PGs X es t)
  (hn : (assignEach es X.env).length = n := by rfl) (hst : (assignEach es X.env).findIdx? (·.1) = none := by rfl) : PG X (.Tuple es k pos) (gLst X.K n t) := by
 intro pins s σ H v u Q I r hw
 obtain ⟨a,xs,e1,hq,hl,hw⟩ := hw
 subst e1
 cases r
 obtain ⟨its,rv,ht,hz⟩ := I.list hq
 refine J57 (I.ok.hd hc) ht.isList (by simp [hn,← hl,rv.length]) hst fun h' hx => ?_
 have I1 : Inv X pins σ H { s with heap := h' } := I.kept (t' := s.toks) fun b o e => hx b o (Nat.ne_of_lt (Heap.lt_size e)) e
 exact h pins _ σ H xs _ Q I1 (by simpa using rv) hw
end
end L2
set_option linter.all false
set_option maxRecDepth 100000
set_option maxHeartbeats 4000000
namespace L2
open PySem PySem.Spec PyProof.Rows
theorem J3W {h : Heap} {a b : Addr} {o p : Obj} (ha : h.get? a = some o) (hb : h.get? b = some p) (hc : o.cls ≠ p.cls) : a ≠ b := by
 rintro rfl
 rw [ha] at hb
 cases hb
 exact hc rfl
theorem J5Y {h : Heap} {z TI TO i1 i2 l1 l2 : Addr} {f0 a b : Value} {k1 k2 : Nat} {xs ys : Array Value} (F : J3U z TI TO i1 i2) (hz : IsZip h z TI TO f0) (hTI : IsPair h TI (.ref i1) (.ref i2)) (hTO : IsPair h TO a b)
  (h1 : h.IsListIter i1 l1 k1) (h2 : h.IsListIter i2 l2 k2) (hl1 : h.IsList l1 xs) (hl2 : h.IsList l2 ys) : ZipApart z TI TO i1 i2 l1 l2 := by
 obtain ⟨o1,e1,c1,_⟩ := h1
 obtain ⟨o2,e2,c2,_⟩ := h2
 obtain ⟨p1,q1,d1,_⟩ := hl1
 obtain ⟨p2,q2,d2,_⟩ := hl2
 have n1 : (Value.type "list") ≠ .type "zip" := by intro z; injection z with z; revert z; decide
 have n2 : (Value.type "list") ≠ .type "tuple" := by intro z; injection z with z; revert z; decide
 have n3 : (Value.type "list") ≠ .type "list_iterator" := by intro z; injection z with z; revert z; decide
 exact ⟨F.TIz,F.TOz,F.i1z,F.i2z,F.TITO,F.TIi1,F.TIi2,F.TOi1,F.TOi2,F.i12,
  J3W q1 hz (by rw [d1]; exact n1),J3W q1 hTO (by rw [d1]; exact n2),J3W q1 e1 (by rw [d1,c1]; exact n3),J3W q1 e2 (by rw [d1,c2]; exact n3),
  J3W q2 hz (by rw [d2]; exact n1),J3W q2 hTO (by rw [d2]; exact n2),J3W q2 e1 (by rw [d2,c1]; exact n3),J3W q2 e2 (by rw [d2,c2]; exact n3)⟩
noncomputable def Izl (K : PySem.W.Frag) (a b : Addr) : It :=
  ⟨fun i H => ∃ xs ys x y,SqL K H a xs ∧ SqL K H b ys ∧ xs[i]? = some x ∧ ys[i]? = some y,
   fun i H v H' => ∃ p x y,H p = none ∧ (∀ xs,SqL K H a xs → xs[i]? = some x) ∧ (∀ ys,SqL K H b ys → ys[i]? = some y) ∧ v = .ref p ∧ H' = upd H p (.tup [x,y]),
   fun i H => ∃ xs ys,SqL K H a xs ∧ SqL K H b ys ∧ (xs.length ≤ i ∨ ys.length ≤ i)⟩
theorem JbP {P : Program} {w : World} {K : PySem.W.Frag} {es : List Expr} {k : Nat} {pos : Pos} {z TI TO i1 i2 l1 l2 : Addr} (F : J3U z TI TO i1 i2) :
  Turn P w K (.Tuple es k pos) (Izl K l1 l2) [z,TI,TO,i1,i2] z (fun i h => IsZip h z TI TO .none ∧ IsPair h TI (.ref i1) (.ref i2) ∧ (∃ a b,IsPair h TO a b) ∧ h.IsListIter i1 l1 i ∧ h.IsListIter i2 l2 i) where
 mem := by simp
 obj := fun i h st b hb => by
  obtain ⟨hz,hTI,⟨a,b',hTO⟩,⟨o1,e1,c1,d1⟩,o2,e2,c2,d2⟩ := st
  simp only [List.mem_cons,List.not_mem_nil,or_false] at hb
  rcases hb with rfl | rfl | rfl | rfl | rfl
  ·exact ⟨_,hz,fun v q => by cases q⟩
  ·exact ⟨_,hTI,fun v q => by cases q⟩
  ·exact ⟨_,hTO,fun v q => by cases q⟩
  ·exact ⟨o1,e1,fun v q => by rw [d1] at q; cases q⟩
  ·exact ⟨o2,e2,fun v q => by rw [d2] at q; cases q⟩
 keep := fun i h h' st kk => by
  obtain ⟨hz,hTI,⟨a,b',hTO⟩,⟨o1,e1,r1⟩,o2,e2,r2⟩ := st
  exact ⟨kk z (by simp) _ hz,kk TI (by simp) _ hTI,⟨a,b',kk TO (by simp) _ hTO⟩,⟨o1,kk i1 (by simp) _ e1,r1⟩,o2,kk i2 (by simp) _ e2,r2⟩
 item := by
  intro X hP hw hK hc i pins s σ H E I hf st hg
  subst hP hw hK
  obtain ⟨hz,hTI,⟨a,b,hTO⟩,h1,h2⟩ := st
  obtain ⟨xs,ys,x,y,hq1,hq2,hx,hy⟩ := hg
  obtain ⟨ia,ra,pa,_⟩ := I.list hq1
  obtain ⟨ib,rb,pb,_⟩ := I.list hq2
  obtain ⟨u,hu,ru⟩ := ra.get hx
  obtain ⟨v,hv,rv⟩ := rb.get hy
  have D := J5Y F hz hTI hTO h1 h2 pa.isList pb.isList
  obtain ⟨tk,htk⟩ : ∃ tk,tk = s.toks := ⟨_,rfl⟩
  refine wpAny_pyNext_zip_item D hz hTI hTO h1 h2 pa.isList pb.isList (x := u) (y := v) (by simpa using hu) (by simpa using hv) fun h' a1 a2 a3 a4 a5 a6 kp => ?_
  refine ⟨_,rfl,?_⟩
  refine wpAny_letOwnedTupleGo_zip (s := { s with heap := h',toks := s.toks }) a1 fun h2' hz' hs' => ?_
  replace hs' : Heap.SameBut z h' h2' := hs'
  have zlt : z < s.heap.objs.size := Heap.lt_size hz
  have far : ∀ q ∈ [z,TI,TO,i1,i2],q < s.heap.objs.size := by
   intro q hq
   obtain ⟨o1,e1,_⟩ := h1
   obtain ⟨o2,e2,_⟩ := h2
   simp only [List.mem_cons,List.not_mem_nil,or_false] at hq
   rcases hq with rfl | rfl | rfl | rfl | rfl
   ·exact zlt
   ·exact Heap.lt_size hTI
   ·exact Heap.lt_size hTO
   ·exact Heap.lt_size e1
   ·exact Heap.lt_size e2
  have fz := hf z (by simp)
  have fTO := hf TO (by simp)
  have f1 := hf i1 (by simp)
  have f2 := hf i2 (by simp)
  have I1 : Inv X pins σ H { s with heap := s.heap.push { cls := .type "tuple",data := .seq #[u,v] },toks := s.toks } := I.kept fun b o e => Heap.get?_push_of_some _ e
  have keepAll : ∀ b o,b ≠ z → b ≠ TO → b ≠ i1 → b ≠ i2 → s.heap.get? b = some o → h2'.get? b = some o := fun b o b1 b2 b3 b4 e => hs'.extBut _ _ b1 (kp b o b1 b2 b3 b4 e)
  have hnew : H s.heap.objs.size = none := I.hok.fresh (Nat.le_refl _)
  have Tz : s.heap.objs.size ≠ z := Nat.ne_of_gt zlt
  have ht2 : h2'.get? s.heap.objs.size = some { cls := .type "tuple",data := .seq #[u,v] } := hs'.extBut _ _ Tz a5
  have I2 : Inv X pins σ (upd H s.heap.objs.size (.tup [x,y])) { s with heap := h2',toks := s.toks } := by
   have there : ∀ q ∈ [z,TO,i1,i2],∃ o',h2'.get? q = some o' := by
    intro q hq
    obtain ⟨o1,e1,_⟩ := a3
    obtain ⟨o2,e2,_⟩ := a4
    simp only [List.mem_cons,List.not_mem_nil,or_false] at hq
    rcases hq with rfl | rfl | rfl | rfl
    ·exact ⟨_,hz'⟩
    ·exact ⟨_,hs'.extBut _ _ F.TOz a2⟩
    ·exact ⟨_,hs'.extBut _ _ F.i1z e1⟩
    ·exact ⟨_,hs'.extBut _ _ F.i2z e2⟩
   have nch : ∀ b,b ∉ [z,TO,i1,i2] → b ≠ z ∧ b ≠ TO ∧ b ≠ i1 ∧ b ≠ i2 := fun b hb => by
    simp only [List.mem_cons,List.not_mem_nil,or_false,not_or] at hb
    exact hb
   have trk : ∀ b u',H b = some u' → b ≠ z ∧ b ≠ TO ∧ b ≠ i1 ∧ b ≠ i2 := fun b u' e =>
    ⟨fun q => (by rw [q,fz.1] at e; cases e),fun q => (by rw [q,fTO.1] at e; cases e),fun q => (by rw [q,f1.1] at e; cases e),fun q => (by rw [q,f2.1] at e; cases e)⟩
   have okH : HOk X.prog X.w (upd H s.heap.objs.size (.tup [x,y])) h2' := fun b u' e => by
    by_cases hb : b = s.heap.objs.size
    ·subst hb
     rw [J7] at e
     cases e
     exact ⟨(show 2 ≤ sizeLine by decide),[u,v],.cons ru (.cons rv .nil),⟨_,ht2,rfl,_,rfl⟩⟩
    ·rw [Jg hb] at e
     have hx := I.hok b u' e
     refine hx.stay (fun q o hq e2 => ?_) (fun q e2 => ?_) (fun q xs e2 => ?_)
     ·rcases hq with rfl | hq
      ·obtain ⟨b1,b2,b3,b4⟩ := trk q _ e
       exact keepAll q o b1 b2 b3 b4 e2
      ·obtain ⟨b1,b2,b3,b4⟩ := trk q _ hq
       exact keepAll q o b1 b2 b3 b4 e2
     ·rw [Jg (Jc e2 hnew)]; exact e2
     ·rw [Jg (Jc e2 hnew)]; exact e2
   refine I.step (g' := s.gens) (d' := s.drawn) (ch := [z,TO,i1,i2]) (fun b hb => ?_) (fun b o _ _ hcb e n => ?_) (fun b o _ _ hcb e n => ?_) (fun b o hcb e n => ?_) (fun b o hcb e => ?_) (fun b xs e => ?_) (fun b o u' e => ?_) (fun b ps e => ?_) (fun m hm => ?_) okH I.bare
   ·simp only [List.mem_cons,List.not_mem_nil,or_false] at hb
    rcases hb with rfl | rfl | rfl | rfl
    ·exact ⟨fz.2.2.2.1,fz.2.1,fz.2.2.2.2.1,fz.2.2.2.2.2⟩
    ·exact ⟨fTO.2.2.2.1,fTO.2.1,fTO.2.2.2.2.1,fTO.2.2.2.2.2⟩
    ·exact ⟨f1.2.2.2.1,f1.2.1,f1.2.2.2.2.1,f1.2.2.2.2.2⟩
    ·exact ⟨f2.2.2.2.1,f2.2.1,f2.2.2.2.2.1,f2.2.2.2.2.2⟩
   ·obtain ⟨b1,b2,b3,b4⟩ := nch b hcb
    exact keepAll b o b1 b2 b3 b4 e
   ·obtain ⟨b1,b2,b3,b4⟩ := nch b hcb
    exact ⟨o.slots,keepAll b o b1 b2 b3 b4 e⟩
   ·rw [Jg (Nat.ne_of_lt (Heap.lt_size e))]; exact n
   ·obtain ⟨b1,b2,b3,b4⟩ := nch b hcb
    exact ⟨o,keepAll b o b1 b2 b3 b4 e⟩
   ·rw [Jg (Jc e hnew)]; exact e
   ·rw [Jg (Jc e hnew)]; exact e
   ·exact ⟨#[],by rw [Jg (Jc e hnew),e]; simp⟩
   ·obtain ⟨o,es',ep,ho,r⟩ := hm
    exact ⟨o,es',ep,keepAll _ o fz.2.1.symm fTO.2.1.symm f1.2.1.symm f2.2.1.symm ho,r⟩
  refine ⟨.ref s.heap.objs.size,_,I2,rfl,⟨_,x,y,hnew,fun zs hz => by rw [I.list_inj hz hq1]; exact hx,fun zs hz => by rw [I.list_inj hz hq2]; exact hy,rfl,rfl⟩,⟨hz',hs'.extBut _ _ F.TIz (kp _ _ F.TIz F.TITO F.TIi1 F.TIi2 hTI),⟨_,_,hs'.extBut _ _ F.TOz a2⟩,?_,?_⟩,fun b hb => ?_⟩
  ·obtain ⟨o,e,r⟩ := a3; exact ⟨o,hs'.extBut _ _ F.i1z e,r⟩
  ·obtain ⟨o,e,r⟩ := a4; exact ⟨o,hs'.extBut _ _ F.i2z e,r⟩
  ·rw [Jg (Nat.ne_of_lt (far b hb))]; exact (hf b hb).1
 done := by
  intro X hP hw hK hc i pins s σ H E I hf st hg
  subst hP hw hK
  obtain ⟨hz,hTI,⟨a,b,hTO⟩,h1,h2⟩ := st
  obtain ⟨xs,ys,hq1,hq2,hg⟩ := hg
  obtain ⟨ia,ra,pa,_⟩ := I.list hq1
  obtain ⟨ib,rb,pb,_⟩ := I.list hq2
  have la := ra.length
  have lb := rb.length
  have D := J5Y F hz hTI hTO h1 h2 pa.isList pb.isList
  refine wpAny_pyNext_zip_end (I.ok.hd hc) D hz hTI hTO h1 h2 pa.isList pb.isList (by rcases hg with q | q; exact .inl (by simp; omega); exact .inr (by simp; omega)) fun h' kp => ⟨rfl,?_⟩
  refine I.turnedN (t' := s.toks) (ch := [z,TO,i1,i2]) (fun b o hb q => ?_) fun b hb => hf b ?_
  ·simp only [List.mem_cons,List.not_mem_nil,or_false,not_or] at hb
   exact kp b o hb.1 hb.2.1 hb.2.2.1 hb.2.2.2 q
  ·simp only [List.mem_cons,List.not_mem_nil,or_false] at hb ⊢
   rcases hb with q | q | q | q
   ·exact .inl q
   ·exact .inr (.inr (.inl q))
   ·exact .inr (.inr (.inr (.inl q)))
   ·exact .inr (.inr (.inr (.inr q)))
 self := fun _ _ _ _ _ st h => wpAny_pyIter_zip st.1 h
section
variable {X : Cx} {es : List Expr} {k : Nat} {tpos : Pos}
noncomputable def JeH (K : PySem.W.Frag) (ta : TA) : TI := fun σ H R => ta σ H fun vs H1 => ∃ a b,vs = [.ref a,.ref b] ∧ (∃ xs,SqL K H1 a xs) ∧ (∃ ys,SqL K H1 b ys) ∧ R (Izl K a b) H1
theorem Jea {a b : Expr} {ta : TA} {p pos : Pos} (hg : Gl X "zip") (hm : X.mg "zip" = none) (ha : PA X [a,b] ta) (hv : bootBuiltins "zip" = some (.type "zip") := by decide +kernel) (hs : starEach [a,b] X.env = [(false,eval a X.env),(false,eval b X.env)] := by rfl) (hs2 : starEach [b] X.env = [(false,eval b X.env)] := by rfl) :
  PI X (.Tuple es k tpos) (.Call (.Name "zip" p) [a,b] [] pos) (JeH X.K ta) := by
 intro pins s σ H R I h
 refine Call_ (J4q I hg hm hv (PyProof.Rows.callWith_type1 (thn (ha pos pins s σ H _ I h) fun us s1 ⟨vs,H1,I1,r1,q1⟩ => ?_) (by rw [hs,hs2]) (by rw [hs2]; rfl)))
 obtain ⟨l1,l2,e,⟨xs,hq1⟩,⟨ys,hq2⟩,q⟩ := q1
 subst e
 obtain ⟨u,v,rfl,ru,rv⟩ := r1.two
 cases ru; cases rv
 obtain ⟨ia,ra,pa,_⟩ := I1.list hq1
 obtain ⟨ib,rb,pb,_⟩ := I1.list hq2
 refine call_zip_2 pa.isList pb.isList fun h' a1 a2 a3 a4 a5 a6 kp => ?_
 have far : J3U (s1.heap.objs.size + 4) (s1.heap.objs.size + 2) (s1.heap.objs.size + 3) s1.heap.objs.size (s1.heap.objs.size + 1) := J70 _
 have I2 : Inv X pins σ H1 { s1 with heap := h' } := I1.kept (t' := s1.toks) kp
 refine wpAny_pyIter_zip a1 ⟨s1.heap.objs.size + 4,[s1.heap.objs.size + 4,s1.heap.objs.size + 2,s1.heap.objs.size + 3,s1.heap.objs.size,s1.heap.objs.size + 1],_,_,H1,rfl,I2,JbP far,⟨a1,a2,⟨_,_,a3⟩,a4,a5⟩,fun b hb => ?_,q⟩
 have hb' : s1.heap.objs.size ≤ b := by
  simp only [List.mem_cons,List.not_mem_nil,or_false] at hb
  rcases hb with rfl | rfl | rfl | rfl | rfl
  ·exact Nat.le_add_right _ _
  ·exact Nat.le_add_right _ _
  ·exact Nat.le_add_right _ _
  ·exact Nat.le_refl _
  ·exact Nat.le_add_right _ _
 exact I1.fpOk hb' (I1.hok.fresh hb')
end
theorem J59 {X : Cx} {es : List Expr} {k : Nat} {tpos : Pos} {K : PySem.W.Frag} {a b : Expr} {ta : TA} {p pos : Pos} (h : X.K = K) (hg : Gl X "zip") (hm : X.mg "zip" = none) (ha : PA X [a,b] ta) (hv : bootBuiltins "zip" = some (.type "zip") := by decide +kernel) (hs : starEach [a,b] X.env = [(false,eval a X.env),(false,eval b X.env)] := by rfl) (hs2 : starEach [b] X.env = [(false,eval b X.env)] := by rfl) :
  PI X (.Tuple es k tpos) (.Call (.Name "zip" p) [a,b] [] pos) (JeH K ta) := h ▸ Jea hg hm ha hv hs hs2
theorem J76 {K : PySem.W.Frag} {a b : Addr} {xs ys : List V} {g : TG} {tb : TS} {D : Ends} {σ : St} {H : Hp} (Pv : Nat → St → Hp → Prop) (h0 : Pv 0 σ H) (hl : ∀ i σ H,i ≤ xs.length → i ≤ ys.length → Pv i σ H → SqL K H a xs ∧ SqL K H b ys)
  (hs : ∀ i x y p σ H,xs[i]? = some x → ys[i]? = some y → H p = none → Pv i σ H → g (.ref p) σ (upd H p (.tup [x,y])) fun σ2 H2 => tb { D with nx := Pv (i + 1),ct := Pv (i + 1),bk := D.nx } σ2 H2) (hd : ∀ i σ H,i = xs.length ∨ i = ys.length → Pv i σ H → D.nx σ H) :
  ∃ W : Nat → Nat → St → Hp → Prop,(∃ m,W 0 m σ H) ∧ ∀ i m σ H,W i m σ H →
   ((Izl K a b).stop i H ∧ D.nx σ H) ∨ ((Izl K a b).go i H ∧ ∃ N : St → Hp → Prop,(∀ σ' H',N σ' H' → ∃ m',m' < m ∧ W (i + 1) m' σ' H') ∧ ∀ x H',(Izl K a b).yld i H x H' → g x σ H' fun σ2 H2 => tb { D with nx := N,ct := N,bk := D.nx } σ2 H2) := by
 refine ⟨fun i m σ H => m = xs.length - i ∧ i ≤ xs.length ∧ i ≤ ys.length ∧ Pv i σ H,⟨xs.length,by simp,Nat.zero_le _,Nat.zero_le _,h0⟩,?_⟩
 rintro i m σ H ⟨rfl,hi,hj,p⟩
 obtain ⟨q1,q2⟩ := hl i σ H hi hj p
 by_cases hlt : i < xs.length ∧ i < ys.length
 ·refine .inr ⟨⟨xs,ys,xs[i],ys[i],q1,q2,by simp [hlt.1],by simp [hlt.2]⟩,Pv (i + 1),fun σ' H' p' => ⟨xs.length - (i + 1),by omega,rfl,hlt.1,hlt.2,p'⟩,fun x H' y => ?_⟩
  obtain ⟨r,u,v,hr,e1,e2,rfl,rfl⟩ := y
  exact hs i u v r σ H (e1 xs q1) (e2 ys q2) hr p
 ·have e : i = xs.length ∨ i = ys.length := by omega
  exact .inl ⟨⟨xs,ys,q1,q2,by omega⟩,hd i σ H e p⟩
end L2
set_option linter.all false
set_option maxRecDepth 100000
set_option maxHeartbeats 4000000
namespace L2
open PySem PySem.Spec PyProof.Rows
section
variable {X : Cx} {elt tg iter : Expr} {ifs : List Expr} {scope : Scope} {pos : Pos} {N : List Str} {js : List (Option Nat)} {wi : TI} {g : TG} {tc : TT} {te : TE}
theorem J44 {osc : Scope} {ON : List Str} {k : Nat} {y : Str} {py spos : Pos} (hN : X.N.Nodup) (hk : X.N[k]? = some y) (hky : Loc X.env.scope y) (cs : J40 osc ON scope N js) (ho : X.env.scope = osc) (hON : X.N = ON) (hc : X.calm = true) (hi : PI X tg iter wi)
    (hg : ∀ s₀ H₀ cl C ex,PG (J1l X scope N s₀ H₀ cl C ex) tg g) (hif : ∀ s₀ H₀ cl C ex,PIfs (J1l X scope N s₀ H₀ cl C ex) ifs tc) (he : ∀ s₀ H₀ cl C ex,PE (J1l X scope N s₀ H₀ cl C ex) elt te)
    (hsw : swapsWith (.ListComp elt [⟨tg,iter,ifs,0⟩] scope pos) (some (.Name y py)) spos.line X.env = pure true := by rfl)
    (hs : ∀ x,foldedSetIterable iter X.env x = pure x := by intro _; rfl) (hf : X.fn y = true ∨ X.env.scope.names.lookup y = some .local := by first | exact .inl rfl | exact .inr rfl | assumption) :
    PS X (.Assign [.Name y py] (.ListComp elt [⟨tg,iter,ifs,0⟩] scope pos) spos) (tAsg (Jdt wi (subσ js) g tc te) (J3e k)) := by
  intro pins s σ H Dn I h0
  have h : Jdt wi (subσ js) g tc te σ H (fun v H' => Dn.nx (σ.set k (some v)) H') := h0
  subst ho hON
  obtain ⟨cl,hcl,cl1,cl2⟩ := J4f (scope := scope) (env := X.env) fun y hy hf => I.ok.has y.1 (cs.free y hy hf)
  rw [exec_Assign_Name_used _ _ _ _ hsw]
  refine wpAny_bind (wpAny_standAt (wpAny_bind ?_))
  show wpAny _ X.A (do let _ ← comprehension (.ListComp elt [⟨tg,iter,ifs,0⟩] scope pos) scope X.env _ (newList []) false (eval iter X.env) (some (assign (.Name y py) X.env))) _ _ s
  refine wpAny_bind (wpAny_mono (wpAny_comprehension_free (use := some (assign (.Name y py) X.env)) (Q := fun _ s' => SP X pins Dn .next s') rfl hs hcl cs.kind cs.names ?_) (fun _ s' hq => wpAny_pure (wpAny_pure hq)) fun _ _ e => e)
  refine thn (hi pins s σ H _ I h) fun v s1 h1 => thn h1 fun itv s2 h2 => ?_
  obtain ⟨it,fp,tn,J,H2,e,I2,T,st2,f2,hW⟩ := h2
  subst e
  have hD0 : H2 s2.heap.objs.size = none := I2.hok.fresh (Nat.le_refl _)
  obtain ⟨W,⟨m0,w0⟩,turn⟩ := hW s2.heap.objs.size hD0
  have I3 := I2.lnew (t' := s2.toks) (ys := []) (its := []) .nil (Nat.zero_le _)
  refine wpAny_newObj_type (wpAny_newFunctionEnv cs.cell (by intro y hy; simp at hy) (fun h₁ hns₁ hsb₁ => ?_) cs.kind)
  dsimp only at hns₁ hsb₁ ⊢
  obtain ⟨s3,hs3⟩ : ∃ s3 : Shared,s3 = { s2 with heap := s2.heap.push { cls := .type "list",data := .seq ([] : List Value).toArray },toks := s2.toks } := ⟨_,rfl⟩
  rw [← hs3] at I3
  have e3 : s3.heap = s2.heap.push { cls := .type "list",dict := none,data := .seq ([] : List Value).toArray } := by rw [hs3]
  have e3o : s3.os = s2.os := by rw [hs3]
  have e3g : s3.gens = s2.gens := by rw [hs3]
  rw [← e3] at hns₁ hsb₁ ⊢
  obtain ⟨H3,hH3⟩ : ∃ H3 : Hp,H3 = upd H2 s2.heap.objs.size (.lst []) := ⟨_,rfl⟩
  rw [← hH3] at I3 w0
  have up1 : ∀ b o,s2.heap.get? b = some o → s3.heap.get? b = some o := fun b o q => by rw [e3]; exact Heap.get?_push_of_some _ q
  have up2 : ∀ b o,s3.heap.get? b = some o → h₁.get? b = some o := fun b o q => hsb₁.extBut b o (Nat.ne_of_lt (Heap.lt_size q)) (Heap.get?_push_of_some _ q)
  have fpo : ∀ b ∈ fp,∃ o,s3.heap.get? b = some o := fun b hb => by
    obtain ⟨o,ho,_⟩ := T.obj 0 _ st2 b hb
    exact ⟨o,up1 b o ho⟩
  have fr3 : ∀ b ∈ fp,H3 b = none := fun b hb => by
    obtain ⟨o,ho,_⟩ := T.obj 0 _ st2 b hb
    rw [hH3,Jg (Nat.ne_of_lt (Heap.lt_size ho))]
    exact (f2 b hb).1
  have fpC : ∀ b ∈ fp,b ≠ s3.heap.objs.size := fun b hb => by
    obtain ⟨o,ho⟩ := fpo b hb
    exact Nat.ne_of_lt (Heap.lt_size ho)
  have fpS : ∀ b ∈ fp,b ∉ frs X.stack := fun b hb hs' => by
    rcases List.mem_cons.mp (I2.stkSub b hs') with z | z
    · exact (f2 b hb).2.1 z
    · exact (f2 b hb).2.2.1 z
  have ok' : (J1l X scope N s3 H3 cl s3.heap.objs.size fp).Ok := by
    refine ⟨I.ok.mod,cs.kind,I.ok.glob,I.ok.blt,Nat.le_refl _,fun x y c e1 e2 => I.ok.inj x y c (cl2 x c e1) (cl2 y c e2),fun x hx => ?_,fun x c hf => (nomatch hf),I.ok.hd,I.ok.frames,.inl rfl,fun b hb => ⟨fpC b hb,fun x c e => (f2 b hb).2.2.2.2.1 x c (cl2 x c e)⟩,
      I3.bs,Nat.le_trans I.ok.bsz I3.sz,fun b o e hb => ?_,fun b hb => fpS b hb,I3.stack,I3.stkFree⟩
    · have hm : (x,NameKind.free) ∈ scope.names := J3x cs.cell hx
      obtain ⟨c,hc⟩ := I.ok.has x (cs.free _ hm rfl)
      exact ⟨c,(cl1 _ hm rfl).trans hc⟩
    · rcases (f2 b hb).2.2.2.1 with z | z
      · exact I.ok.noex b o e z
      · exact absurd (Nat.lt_of_lt_of_le (Heap.lt_size e) (Nat.le_trans I.ok.bsz z)) (Nat.lt_irrefl _)
  have cellK : ∀ c v,s3.heap.IsCell c v → h₁.IsCell c v := fun c v ⟨o,ho,hd⟩ => ⟨o,up2 c o ho,hd⟩
  have I4 : ∀ t : Nat,Inv (J1l X scope N s3 H3 cl s3.heap.objs.size fp) [] (subσ js σ) H3 { s2 with heap := h₁,toks := t } := fun t => by
    refine ⟨ok',e3o.symm,I2.bare,Un.kept up2,⟨_,hns₁,fun i x v hi hv hx => ?_⟩,fun x c e => ?_,I3.hok.fresh (Nat.le_refl _),fun x c e => I3.freeC x c (cl2 x c e),fun p hp => (nomatch hp),I3.hok.kept up2,?_⟩
    ·
      have hv' : ∃ j,js[i]? = some (some j) ∧ σ[j]? = some (some v) := by
        unfold subσ at hv
        rw [List.getElem?_map] at hv
        cases hj : js[i]? with
        | none => rw [hj] at hv; cases hv
        | some o =>
          rw [hj] at hv
          cases o with
          | none => cases hv
          | some j =>
            refine ⟨j,rfl,?_⟩
            have hv2 : (σ[j]?).join = some v := Option.some.inj hv
            cases hs2 : σ[j]? with
            | none => rw [hs2] at hv2; cases hv2
            | some u => rw [hs2] at hv2; exact congrArg some hv2
      obtain ⟨j,hj,hσ⟩ := hv'
      obtain ⟨x',h1',h2',h3'⟩ := cs.sub i j hj
      have hxx : x = x' := Option.some.inj (hi.symm.trans h1')
      subst hxx
      have hm : (x,NameKind.free) ∈ scope.names := mem_of_lookup h3'
      have hk := cs.free _ hm rfl
      obtain ⟨m,hn,hl⟩ := id I3.loc
      obtain ⟨u,ru,lk⟩ := hl j x v h2' hσ (by rcases hk with z | z; exact .inr (.inl z); exact .inr (.inr z))
      refine ⟨u,ru,?_⟩
      rcases lk with ⟨k1,_⟩ | ⟨k1,c,e1,z⟩
      · rcases hk with z | z <;> (rw [show X.env.kindOf x = _ from z] at k1; cases k1)
      · exact .inr ⟨J1P h3',c,(cl1 _ hm rfl).trans e1,cellK c _ z⟩
    · obtain ⟨v,z⟩ := I3.cell x c (cl2 x c e)
      exact ⟨v,cellK c v z⟩
    · unfold subσ
      rw [List.length_map]
      exact cs.len
  have hst₁ : tn 0 h₁ := T.keep 0 _ _ st2 fun b hb o q => up2 b o (up1 b o q)
  have stat : ∀ {H' : Hp},(∀ b ∈ fp,H' b = none) → ∀ b ∈ fp,FpOk (J1l X scope N s3 H3 cl s3.heap.objs.size fp) [] H' b := fun hn b hb =>
    ⟨hn b hb,fpC b hb,fpS b hb,.inl hb,fun x c e => (f2 b hb).2.2.2.2.1 x c (cl2 x c e),fun p hp => (nomatch hp)⟩
  have loop : ∀ s4 : Shared,(∃ t,s4 = { s2 with heap := h₁,toks := t }) →
      codeAny (model X.prog X.w) X.A (.compLoop (.ListComp elt [⟨tg,iter,ifs,0⟩] scope pos) 0 (.ref it) (.ref s2.heap.objs.size) (compEnvC scope cl s3.heap.objs.size X.env))
        (compPost (model X.prog X.w) X.A X.xe (some (assign (.Name y py) X.env)) (fun _ s' => SP X pins Dn .next s') (.ref s2.heap.objs.size) s3.heap.objs.size) s4 := by
    rintro s4 ⟨t,rfl⟩
    refine J4R (fun n s' => ∃ i σ' ys H',Inv (J1l X scope N s3 H3 cl s3.heap.objs.size fp) [] σ' H' s' ∧ tn i s'.heap ∧ (∀ b ∈ fp,H' b = none) ∧ W i n σ' ys H') ?_ m0 ⟨0,_,[],H3,I4 t,hst₁,fr3,w0⟩
    rintro n s5 ⟨i,σ5,ys,H5,I5,st5,fr5,w5⟩
    rcases turn i n σ5 ys H5 w5 with ⟨stop,qn⟩ | ⟨go,step⟩
    · refine thn (T.done (J1l X scope N s3 H3 cl s3.heap.objs.size fp) rfl rfl rfl hc i [] s5 σ5 H5 _ I5 (stat fr5) st5 stop) fun r s6 ⟨hr,I6⟩ => ?_
      subst hr
      obtain ⟨m,hn,_⟩ := id I6.loc
      have IX : ∀ h',Heap.SameBut s3.heap.objs.size s6.heap h' → Inv X pins σ H5 { s6 with heap := h' } := fun h' hs' => by
        have neC : ∀ b o,s3.heap.get? b = some o → b ≠ s3.heap.objs.size := fun b o q => Nat.ne_of_lt (Heap.lt_size q)
        have un : Un (frs X.stack) fp H3 H5 s3.heap h' :=
          ⟨fun b o q n1 hb hx => (hs'.2 b (neC b o q)).trans (I6.base.keep b o q n1 hb hx),
           fun b o q n1 hb hx => by
             obtain ⟨sl,e⟩ := I6.base.slot b o q n1 hb hx
             exact ⟨sl,(hs'.2 b (neC b o q)).trans e⟩,
           fun b o q n1 hx => I6.base.free b o q n1 hx,
           fun b o q hx => by
             obtain ⟨o',e⟩ := I6.base.there b o q hx
             exact ⟨o',(hs'.2 b (neC b o q)).trans e⟩,
           I6.base.tups,I6.base.frzs,I6.base.tbls⟩
        refine I3.call' (ch := fp) (s' := { s6 with heap := h' }) I6.os un (fun b ob e => ?_) I6.bare (fun b hb => ⟨(f2 b hb).2.2.2.1,(f2 b hb).2.1,(f2 b hb).2.2.2.2.1,(f2 b hb).2.2.2.2.2⟩)
        refine (I6.hok b ob e).stay (fun c w' hc' q => (hs'.2 c ?_).trans q) (fun _ q => q) fun _ _ q => q
        rintro rfl
        have fC : H5 s3.heap.objs.size = none := I6.free
        rcases hc' with z | z
        · rw [← z,fC] at e; cases e
        · rw [fC] at z; cases z
      have fC : H5 s3.heap.objs.size = none := I6.free
      have IY : Inv X pins σ H5 s6 := IX s6.heap (Heap.SameBut.refl ..)
      have fo : FpOk X pins H5 s3.heap.objs.size := I3.fpOk (Nat.le_refl _) fC
      obtain ⟨oC,es,ep,ho1,hd1,hrest⟩ := id hn
      have IZ := IY.pinned (fp := [s3.heap.objs.size]) (fun b hb => by obtain rfl : b = _ := (by simpa using hb); exact fo) (fun b hb => by obtain rfl : b = _ := (by simpa using hb); exact ⟨oC,ho1,fun v z => by rw [hd1] at z; cases z⟩)
      show wpAny _ X.A (assign (.Name y py) X.env (.ref s2.heap.objs.size)) _ _ s6
      refine wpAny_assign_Name (J4Q IZ hN hk hky (show RelV (.ref s2.heap.objs.size) (.ref s2.heap.objs.size) from rfl) (fun s7 I7 => ?_) hf)
      have hC7 : s7.heap.get? s3.heap.objs.size = some oC := (I7.pin (s3.heap.objs.size,oC) (List.mem_append_right _ (List.mem_append_right _ (J23 (by simp) ho1)))).1
      refine ⟨m,hn.at' fun o e => ?_,fun h' hs' => ⟨_,H5,?_,qn⟩⟩
      · rw [ho1] at e; cases e; exact hC7
      · have I8 := I7.unpinned
        exact I8.turned (t' := s7.toks) (fun b o hb e => (hs'.2 b hb).trans e) fo.1 fo.2.1 fo.2.2.2.1 fo.2.2.2.2.1 fo.2.2.2.2.2
    · refine thn (T.item (J1l X scope N s3 H3 cl s3.heap.objs.size fp) rfl rfl rfl hc i [] s5 σ5 H5 _ I5 (stat fr5) st5 go) fun r s6 ⟨u,hr,h6⟩ => ?_
      subst hr
      refine thn h6 fun _ s7 ⟨x,H7,I7,r7,y7,st7,fr7⟩ => ?_
      have I7' := I7.pinned (stat fr7) (T.obj _ _ st7)
      refine thn (hg _ _ _ _ _ _ s7 σ5 H7 x u _ I7' r7 (step x H7 y7)) fun _ s8 ⟨σ8,H8,I8,q8⟩ => ?_
      refine thn (hif _ _ _ _ _ _ s8 σ8 H8 _ I8 q8) fun ok s9 ⟨H9,I9,q9⟩ => ?_
      have again : ∀ {σ' : St} {H' : Hp} {s' : Shared},Inv (J1l X scope N s3 H3 cl s3.heap.objs.size fp) ([] ++ J5D fp s7.heap) σ' H' s' →
          Inv (J1l X scope N s3 H3 cl s3.heap.objs.size fp) [] σ' H' s' ∧ tn (i + 1) s'.heap ∧ ∀ b ∈ fp,H' b = none := fun {σ' H' s'} I' => by
        refine ⟨I'.unpinned,T.keep _ _ _ st7 fun b hb o e => (I'.pin (b,o) (List.mem_append_right _ (List.mem_append_right _ (J23 hb e)))).1,fun b hb => ?_⟩
        obtain ⟨o,e,d⟩ := T.obj _ _ st7 b hb
        exact (I'.pin (b,o) (List.mem_append_right _ (List.mem_append_right _ (J23 hb e)))).2.1
      cases ok with
      | false =>
        rw [if_neg Bool.false_ne_true] at q9 ⊢
        obtain ⟨m',hm,w9⟩ := q9
        obtain ⟨a1,a2,a3⟩ := again I9
        exact ⟨m',hm,i + 1,σ8,ys,H9,a1,a2,a3,w9⟩
      | true =>
        rw [if_pos rfl] at q9 ⊢
        refine thn (he _ _ _ _ _ _ s9 σ8 H9 _ I9 q9) fun yv s10 ⟨y,H10,I10,r10,q10⟩ => ?_
        obtain ⟨hD,hz,m',hm,w10⟩ := q10
        refine thn (JW (X := J1l X scope N s3 H3 cl s3.heap.objs.size fp) _ s10 σ8 H10 (.ref s2.heap.objs.size) [y] (.ref s2.heap.objs.size) [yv] (fun v H' => H' = upd H10 s2.heap.objs.size (.lst (ys ++ [y]))) I10 rfl (.cons r10 .nil)
          ⟨s2.heap.objs.size,ys,y,rfl,rfl,hD,hz,rfl⟩) fun _ s11 ⟨v11,H11,I11,_,e11⟩ => ?_
        have e11' : H11 = upd H10 s2.heap.objs.size (.lst (ys ++ [y])) := e11
        subst e11'
        obtain ⟨a1,a2,a3⟩ := again I11
        exact ⟨m',hm,i + 1,σ8,ys ++ [y],_,a1,a2,a3,w10⟩
  exact codeAny_compStart_list (loop _ ⟨_,rfl⟩) (T.self X.A 0 _ _ _ hst₁ (loop _ ⟨_,rfl⟩))
end
end L2
set_option linter.all false
namespace L2
open PySem PySem.StrLaws Builtin Builtin.Str
noncomputable def Jx (c : Nat) : List Nat → List (List Nat)
 | [] => [[]]
 | x :: r => if x = c then [] :: Jx c r else match Jx c r with
  | h :: t => (x :: h) :: t
  | [] => [[x]]
theorem J3j (c : Nat) : ∀ l,∃ h t,Jx c l = h :: t
 | [] => ⟨_,_,rfl⟩
 | x :: r => by
  obtain ⟨h,t,e⟩ := J3j c r
  unfold Jx
  split
  ·exact ⟨_,_,rfl⟩
  ·rw [e]; exact ⟨_,_,rfl⟩
noncomputable def isAt (l : List Nat) (c i : Nat) : Bool := decide (l[i]? = some c)
theorem sub1 (l : List Nat) (c i : Nat) : subAt ⟨l.toArray⟩ ⟨#[c]⟩ i = isAt l c i := by
 rw [subAt_eq]
 show ((l.drop i).take 1 == [c]) = isAt l c i
 unfold isAt
 rw [Bool.eq_iff_iff,take1_drop,decide_eq_true_iff]
theorem J6M (l : List Nat) (c hi limit : Nat) (hl : l.length ≤ hi) : ∀ (n a free : Nat) (arr : Array Nat),free ≤ a → arr.size + n ≤ limit →
  (forIn (List.range' a n) (arr,free) (occBody ⟨l.toArray⟩ ⟨#[c]⟩ hi limit)).run.fst.toList = arr.toList ++ (List.range' a n).filter (isAt l c)
 | 0,a,free,arr,_,_ => by simp
 | n + 1,a,free,arr,hf,hz => by
  rw [List.range'_succ,List.forIn_cons]
  by_cases h : isAt l c a = true
  ·have hlt : a < l.length := by
    unfold isAt at h
    exact (List.getElem?_eq_some_iff.mp (of_decide_eq_true h)).1
   have e : occBody ⟨l.toArray⟩ ⟨#[c]⟩ hi limit a (arr,free) = pure (ForInStep.yield (arr.push a,a + 1)) := by
    unfold occBody
    rw [if_pos]
    ·rfl
    ·refine ⟨⟨⟨by show arr.size < limit; omega,hf⟩,?_⟩,by rw [sub1]; exact h⟩
     show a + 1 ≤ hi
     omega
   rw [e,pure_bind]
   show (forIn (List.range' (a + 1) n) (arr.push a,a + 1) (occBody ⟨l.toArray⟩ ⟨#[c]⟩ hi limit)).run.fst.toList = _
   rw [J6M l c hi limit hl n (a + 1) (a + 1) (arr.push a) (Nat.le_refl _) (by rw [Array.size_push]; omega),List.filter_cons_of_pos h,Array.toList_push,List.append_assoc]
   rfl
  ·have e : occBody ⟨l.toArray⟩ ⟨#[c]⟩ hi limit a (arr,free) = pure (ForInStep.yield (arr,free)) := by
    unfold occBody
    rw [if_neg]
    rintro ⟨_,q⟩
    rw [sub1] at q
    exact h q
   rw [e,pure_bind]
   show (forIn (List.range' (a + 1) n) (arr,free) (occBody ⟨l.toArray⟩ ⟨#[c]⟩ hi limit)).run.fst.toList = _
   rw [J6M l c hi limit hl n (a + 1) free arr (by omega) (by omega),List.filter_cons_of_neg h]
theorem Jel (l : List Nat) (c : Nat) : occurrences ⟨l.toArray⟩ ⟨#[c]⟩ 0 l.length (l.length + 1) = (List.range' 0 (l.length + 1)).filter (isAt l c) := by
 rw [occ_eq]
 have := J6M l c l.length (l.length + 1) (Nat.le_refl _) (l.length + 1) 0 0 #[] (Nat.le_refl _) (by simp)
 simpa using this
theorem J3l (l : List Nat) (i j : Nat) : strSub ⟨l.toArray⟩ i j = ⟨((l.drop i).take (j - i)).toArray⟩ := by
 apply Str.ext'
 apply Array.toList_inj.mp
 rw [strSub_toList]
theorem J9u (l : List Nat) (a x : Nat) (hx : l[a]? = some x) : ∀ (cuts : List Nat),(∀ i ∈ cuts,a + 1 ≤ i) → ∃ h t,partsFrom ⟨l.toArray⟩ 1 (a + 1) cuts = ⟨List.toArray h⟩ :: t ∧ partsFrom ⟨l.toArray⟩ 1 a cuts = ⟨(x :: h).toArray⟩ :: t := by
 have hlt : a < l.length := (List.getElem?_eq_some_iff.mp hx).1
 have key : ∀ j,a + 1 ≤ j → (l.drop a).take (j - a) = x :: (l.drop (a + 1)).take (j - (a + 1)) := fun j hj => by
  rw [List.drop_eq_getElem_cons hlt,show j - a = (j - (a + 1)) + 1 by omega,List.take_succ_cons]
  congr 1
  rw [List.getElem?_eq_getElem hlt] at hx
  exact Option.some.inj hx
 intro cuts hc
 cases cuts with
 | nil =>
  refine ⟨(l.drop (a + 1)).take (l.length - (a + 1)),[],?_,?_⟩
  ·show [strSub ⟨l.toArray⟩ (a + 1) (⟨l.toArray⟩ : Str).length] = _
   rw [J3l]; simp [Str.length]
  ·show [strSub ⟨l.toArray⟩ a (⟨l.toArray⟩ : Str).length] = _
   rw [J3l,show (⟨l.toArray⟩ : Str).length = l.length by simp [Str.length],key _ hlt]
 | cons i r =>
  refine ⟨(l.drop (a + 1)).take (i - (a + 1)),partsFrom ⟨l.toArray⟩ 1 (i + 1) r,?_,?_⟩
  ·show strSub ⟨l.toArray⟩ (a + 1) i :: _ = _
   rw [J3l]
  ·show strSub ⟨l.toArray⟩ a i :: _ = _
   rw [J3l,key i (hc i List.mem_cons_self)]
theorem J5T (l : List Nat) (c : Nat) : ∀ (n a : Nat),a + n = l.length + 1 → 0 < n → partsFrom ⟨l.toArray⟩ 1 a ((List.range' a n).filter (isAt l c)) = (Jx c (l.drop a)).map fun w => ⟨w.toArray⟩
 | 0,_,_,h => absurd h (Nat.lt_irrefl _)
 | n + 1,a,h,_ => by
  rw [List.range'_succ]
  cases hn : n with
  | zero =>
   have ha : a = l.length := by omega
   have hno : isAt l c a = false := by
    unfold isAt
    rw [List.getElem?_eq_none (by omega)]
    rfl
   rw [List.filter_cons_of_neg (by rw [hno]; exact Bool.false_ne_true),List.range'_zero,List.drop_eq_nil_of_le (by omega)]
   show [strSub ⟨l.toArray⟩ a (⟨l.toArray⟩ : Str).length] = [⟨([] : List Nat).toArray⟩]
   rw [J3l,List.drop_eq_nil_of_le (by omega)]
   simp
  | succ m =>
   have hlt : a < l.length := by omega
   have ih := J5T l c n (a + 1) (by omega) (by omega)
   rw [hn] at ih
   rw [List.drop_eq_getElem_cons hlt]
   by_cases hx : isAt l c a = true
   ·have hx' : l[a] = c := by
     unfold isAt at hx
     have := of_decide_eq_true hx
     rw [List.getElem?_eq_getElem hlt] at this
     exact Option.some.inj this
    rw [List.filter_cons_of_pos hx,Jx,if_pos hx',List.map_cons]
    show strSub ⟨l.toArray⟩ a a :: partsFrom ⟨l.toArray⟩ 1 (a + 1) _ = _
    rw [ih,J3l,Nat.sub_self,List.take_zero]
   ·have hx' : l[a] ≠ c := fun e => hx (by unfold isAt; rw [List.getElem?_eq_getElem hlt,e]; exact decide_eq_true rfl)
    rw [List.filter_cons_of_neg hx,Jx,if_neg hx']
    obtain ⟨h,t,e1,e2⟩ := J9u l a l[a] (List.getElem?_eq_getElem hlt) ((List.range' (a + 1) (m + 1)).filter (isAt l c)) (fun i hi => by
     have := (List.mem_filter.mp hi).1
     rw [List.mem_range'_1] at this
     exact this.1)
    rw [e2]
    rw [e1] at ih
    obtain ⟨sh,st,es⟩ := J3j c (l.drop (a + 1))
    rw [es] at ih ⊢
    rw [List.map_cons] at ih ⊢
    injection ih with i1 i2
    have i3 : h = sh := by
     have := congrArg (fun s : Str => s.cps.toList) i1
     simpa using this
    rw [i3,i2]
theorem J9v (x : Str) : 1 ≤ Builtin.Str.strKind x := by unfold Builtin.Str.strKind; split <;> (try split) <;> omega
theorem Jc2 (l : List Nat) (c : Nat) (hc : c < 256) : Txt.split ⟨l.toArray⟩ ⟨#[c]⟩ = (Jx c l).map fun w => ⟨w.toArray⟩ := by
 have main : partsBetween ⟨l.toArray⟩ (occurrences ⟨l.toArray⟩ ⟨#[c]⟩ 0 l.length (l.length + 1)) 1 = (Jx c l).map fun w => ⟨w.toArray⟩ := by
  rw [partsBetween_eq,Jel,J5T l c (l.length + 1) 0 (by omega) (by omega),List.drop_zero]
 have hk : Builtin.Str.strKind ⟨#[c]⟩ = 1 := by unfold Builtin.Str.strKind; rw [if_pos]; simp [hc]
 have hlen : (⟨l.toArray⟩ : Str).length = l.length := by simp [Str.length]
 unfold Txt.split
 rw [hlen]
 by_cases h0 : l.length < 1
 ·have : l = [] := List.length_eq_zero_iff.mp (by omega)
  subst this
  rw [if_pos (by rw [decide_eq_true (show ([] : List Nat).length < (⟨#[c]⟩ : Str).length from by simp [Str.length])]; rfl)]
  rfl
 ·rw [if_neg (by
   have h1 := J9v ⟨l.toArray⟩
   rw [hk,decide_eq_false (show ¬ l.length < (⟨#[c]⟩ : Str).length from h0),decide_eq_false (by omega)]
   exact Bool.false_ne_true)]
  by_cases he : (occurrences ⟨l.toArray⟩ ⟨#[c]⟩ 0 l.length (l.length + 1)).isEmpty = true
  ·rw [if_pos he]
   rw [List.isEmpty_iff.mp he] at main
   rw [← main]
   show [_] = [strSub ⟨l.toArray⟩ 0 (⟨l.toArray⟩ : Str).length]
   rw [sub_whole]
  ·rw [if_neg he]
   exact main
end L2
set_option linter.all false
set_option maxRecDepth 100000
set_option maxHeartbeats 4000000
namespace L2
open PySem PySem.Spec PyProof.Rows
section
variable {X : Cx} {e : Expr} {es : List Expr} {te : TE} {tr : TF} {pos : Pos}
theorem JcG : ∀ n : Nat,n ≤ 9 → toString ((n : Nat) : Int) = (⟨[48 + n].toArray⟩ : Str) := by
 intro n hn
 have : n = 0 ∨ n = 1 ∨ n = 2 ∨ n = 3 ∨ n = 4 ∨ n = 5 ∨ n = 6 ∨ n = 7 ∨ n = 8 ∨ n = 9 := by omega
 rcases this with rfl | rfl | rfl | rfl | rfl | rfl | rfl | rfl | rfl | rfl <;> decide +kernel
theorem Jed {n : Nat} (h : n ≤ 9) : ((n : Int).natAbs).log2 < 1920 := by
 have : n = 0 ∨ n = 1 ∨ n = 2 ∨ n = 3 ∨ n = 4 ∨ n = 5 ∨ n = 6 ∨ n = 7 ∨ n = 8 ∨ n = 9 := by omega
 rcases this with rfl | rfl | rfl | rfl | rfl | rfl | rfl | rfl | rfl | rfl <;> decide +kernel
theorem J7v : J1U X (.type "str") (fun xs H Q => ∃ n : Nat,xs = [.int n] ∧ n ≤ 9 ∧ Q (T [48 + n]) H) := by
 intro pins s σ H xs us Q I r h
 obtain ⟨n,rfl,hn,q⟩ := h
 refine J8B pins s σ H _ us Q I r ⟨_,rfl,Jed hn,?_⟩
 rw [JcG n hn]
 exact q
noncomputable def Jdr : V → List V → Hp → VK → Prop := fun x vs H Q => ∃ l c,x = T l ∧ vs = [T [c]] ∧ c < 256 ∧ l.length ≤ 100000 ∧ ∀ p,H p = none → Q (.ref p) (upd H p (.lst ((Jx c l).map T)))
theorem J4s (c : Nat) : ∀ l,(Jx c l).length ≤ l.length + 1
 | [] => by simp [Jx]
 | x :: r => by
  have ih := J4s c r
  obtain ⟨h,t,e⟩ := J3j c r
  unfold Jx
  split
  ·simp; omega
  ·rw [e] at ih ⊢; simp at ih ⊢; omega
theorem J7O : ∀ (ws : List (List Nat)) (k : Nat),Vals (ws.map T) (strsFrom k (ws.map fun w => ⟨w.toArray⟩))
 | [],_ => .nil
 | w :: r,k => .cons ⟨_,rfl⟩ (J7O r (k + 1))
theorem Jdz : MtR X "str.split" Jdr := by
 intro pins s σ H x vs v us Q I rx rv h
 obtain ⟨l,c,rfl,rfl,hc,hl,q⟩ := h
 obtain ⟨t,rfl⟩ := rx
 obtain ⟨u,rfl,ru⟩ := rv.one
 obtain ⟨t2,rfl⟩ := ru
 have hsp := Jc2 l c hc
 have hlen : (⟨l.toArray⟩ : Str).length = l.length := J3F l
 have fin : ∀ (its : List Value) (tk : Nat),Vals ((Jx c l).map T) its → EP X pins σ Q (.ref s.heap.objs.size) { s with heap := s.heap.push { cls := .type "list",data := .seq its.toArray },toks := tk } := fun its tk hv =>
  ⟨.ref s.heap.objs.size,_,I.lnew (t' := tk) hv (by rw [List.length_map]; have := J4s c l; have : (100001 : Nat) ≤ sizeLine := (by decide); omega),rfl,q _ (I.hok.fresh (Nat.le_refl _))⟩
 have hy : ((⟨#[c]⟩ : Str).length == 0) = false := by rfl
 have one : (Jx c l).map (fun w => (⟨w.toArray⟩ : Str)) = [⟨l.toArray⟩] → Vals ((Jx c l).map T) [.str ⟨l.toArray⟩ t] := fun e => by
  have : Jx c l = [l] := by
   obtain ⟨a,b,e2⟩ := J3j c l
   rw [e2,List.map_cons] at e
   injection e with e3 e4
   have e5 : a = l := by simpa using congrArg (fun s : Str => s.cps.toList) e3
   have e6 : b = [] := by simpa using e4
   rw [e2,e5,e6]
  rw [this]
  exact .cons ⟨_,rfl⟩ .nil
 by_cases h1 : (decide ((⟨l.toArray⟩ : Str).length < (⟨#[c]⟩ : Str).length) || decide (Builtin.Str.strKind ⟨l.toArray⟩ < Builtin.Str.strKind ⟨#[c]⟩)) = true
 ·refine call_meets F.slot_str_split (typeIs_str _ _ _) F.entry_str_split (F.args_str_split_2 _ _) (meets_str_split_cannot_occur ⟨l.toArray⟩ ⟨#[c]⟩ t t2 h1) (fin _ s.toks (one ?_))
  rw [← hsp]; unfold Txt.split; rw [if_pos h1]
 ·have h1' := Bool.eq_false_iff.mpr h1
  by_cases hf : (Builtin.Str.occurrences ⟨l.toArray⟩ ⟨#[c]⟩ 0 (⟨l.toArray⟩ : Str).length ((⟨l.toArray⟩ : Str).length + 1)).isEmpty = true
  ·refine call_meets F.slot_str_split (typeIs_str _ _ _) F.entry_str_split (F.args_str_split_2 _ _) (meets_str_split_not_found ⟨l.toArray⟩ ⟨#[c]⟩ t t2 h1' hy hf) (fin _ s.toks (one ?_))
   rw [← hsp]; unfold Txt.split; rw [if_neg h1,if_pos hf]
  ·have hf' := Bool.eq_false_iff.mpr hf
   have e : Builtin.Str.partsBetween ⟨l.toArray⟩ (Builtin.Str.occurrences ⟨l.toArray⟩ ⟨#[c]⟩ 0 (⟨l.toArray⟩ : Str).length ((⟨l.toArray⟩ : Str).length + 1)) (⟨#[c]⟩ : Str).length = (Jx c l).map fun w => ⟨w.toArray⟩ := by
    rw [← hsp]; unfold Txt.split; rw [if_neg h1,if_neg hf]
   refine call_meets F.slot_str_split (typeIs_str _ _ _) F.entry_str_split (F.args_str_split_2 _ _) (meets_str_split_sep ⟨l.toArray⟩ ⟨#[c]⟩ t t2 h1' hy hf' ?_ ?_) ?_
   ·rw [hlen]; exact Nat.le_trans hl (by decide)
   ·rw [e,List.length_map]; have := J4s c l; have : (100001 : Nat) ≤ sizeLine := by decide
    omega
   ·rw [e]
    exact fin _ _ (J7O _ _)
theorem JbV {K : PySem.W.Frag} {o e : Expr} {to : TE} {t : TA} {apos cpos : Pos} (h : X.K = K) (ho : PE X o to) (ha : PA X [e] t)
  (hbase : attributeBase o "split" X.env (eval o X.env) = eval o X.env := by rfl)
  (hfew : ((backTo cpos (starEach [e] X.env)).all (fun x => !x.1) && (backToKw cpos (keywordEach [] X.env)).all (fun x => x.1.isSome)
   && decide ([e].length + ([] : List Keyword).length + (if ([] : List Keyword).isEmpty then 0 else 1) < 30)) = true := by rfl)
  (hline : (apos.endLine == cpos.line) = true := by rfl) (hs : starEach [e] X.env = (false,eval e X.env) :: starEach [] X.env := by rfl) (hplain : (backTo cpos (starEach [] X.env)).any (·.1) = false := by rfl) :
  PE X (.Call (.Attribute o "split" apos) [e] [] cpos) (tBM K "str" Jdr to t) := h ▸ J1O F.plainAttrs_str F.slot_str_split F.type_str_split Jdz ho ha hbase hfew hline hs hplain
end
end L2
set_option linter.all false
set_option maxRecDepth 100000
set_option maxHeartbeats 4000000
namespace L2
open PySem PySem.Spec PyProof.Rows
section
variable {X : Cx} {x m : Str} {k : Nat} {ps : List Str} {sp : Sp} {C : Addr} {p pos apos : Pos} {e o : Expr} {es : List Expr} {t : TA} {to : TE}
theorem J3Q {r : List V → Hp → VK → Prop} (G : MkG X.prog X.w X.K X.mg X.base C x k ps sp) (hr : Room (k + 1) X.A)
  (imp : ∀ vs H Q,r vs H Q → ∀ x dx,H x = none → H dx = none → dx ≠ x → sp (.ref x :: (vs ++ [])) (upd (upd H dx (.own x)) x (.ins C dx [])) (fun v H2 => v = .non ∧ Q (.ref x) H2) E0)
  (ha : PA X (e :: es) t) (hg : Gl X x := by rfl) (hdb : (x == ("__debug__" : Str)) = false := by decide)
  (he : starEach (e :: es) X.env = (false,eval e X.env) :: starEach es X.env := by rfl) (hpl : (backTo pos (starEach es X.env)).any (·.1) = false := by rfl) : PE X (.Call (.Name x p) (e :: es) [] pos) (tCB r t) := by
 obtain ⟨f,fd,a,M,hm,hb⟩ := G
 intro pins s σ H Q I h
 refine wpAny_Call_Name_kw (J8G I hg hm ?_ hdb)
 refine PySem.W.callWith_K (h₀ := X.base) I.ok.mod.kin M.kp (thn (ha pos pins s σ H _ I h) fun us s1 ⟨vs,H1,I1,rv,q⟩ => ⟨I1.kIn,?_⟩) he hpl
 exact Jdk M a hr hb .nil Jbm I1 rv (imp vs H1 Q q)
end
end L2
set_option linter.all false
set_option maxRecDepth 100000
set_option maxHeartbeats 4000000
namespace L2
open PySem PySem.Spec PyProof.Rows
noncomputable def All2 {α : Type} (P : α → V → Hp → Prop) (H : Hp) : List α → List V → Prop
 | [],[] => True
 | a :: as,y :: ys => P a y H ∧ All2 P H as ys
 | _,_ => False
section
variable {α : Type} {P : α → V → Hp → Prop} {H H' : Hp}
theorem All2.len : ∀ {as : List α} {ys : List V},All2 P H as ys → ys.length = as.length
 | [],[],_ => rfl
 | _ :: _,_ :: _,h => by rw [List.length_cons,List.length_cons,All2.len h.2]
 | [],_ :: _,h => h.elim
 | _ :: _,[],h => h.elim
theorem All2.snoc : ∀ {as : List α} {ys : List V} {a : α} {y : V},All2 P H as ys → P a y H → All2 P H (as ++ [a]) (ys ++ [y])
 | [],[],_,_,_,p => ⟨p,trivial⟩
 | _ :: _,_ :: _,_,_,h,p => ⟨h.1,All2.snoc h.2 p⟩
 | [],_ :: _,_,_,h,_ => h.elim
 | _ :: _,[],_,_,h,_ => h.elim
theorem All2.imp {P' : α → V → Hp → Prop} : ∀ {as : List α} {ys : List V},All2 P H as ys → (∀ a y,P a y H → P' a y H') → All2 P' H' as ys
 | [],[],_,_ => trivial
 | _ :: _,_ :: _,h,f => ⟨f _ _ h.1,All2.imp h.2 f⟩
 | [],_ :: _,h,_ => h.elim
 | _ :: _,[],h,_ => h.elim
theorem All2.get : ∀ {as : List α} {ys : List V} {i : Nat} {a : α},All2 P H as ys → as[i]? = some a → ∃ y,ys[i]? = some y ∧ P a y H
 | [],[],_,_,_,e => by simp at e
 | b :: _,y :: _,0,a,h,e => ⟨y,rfl,by rw [← (Option.some.inj e : b = a)]; exact h.1⟩
 | _ :: as,_ :: ys,i + 1,a,h,e => All2.get (as := as) (ys := ys) (i := i) h.2 (by simpa using e)
 | [],_ :: _,_,_,h,_ => h.elim
 | _ :: _,[],_,_,h,_ => h.elim
theorem All2.back : ∀ {as : List α} {ys : List V} {i : Nat} {y : V},All2 P H as ys → ys[i]? = some y → ∃ a,as[i]? = some a ∧ P a y H
 | [],[],_,_,_,e => by simp at e
 | b :: _,z :: _,0,y,h,e => ⟨b,rfl,by rw [← (Option.some.inj e : z = y)]; exact h.1⟩
 | _ :: as,_ :: ys,i + 1,y,h,e => All2.back (as := as) (ys := ys) (i := i) h.2 (by simpa using e)
 | [],_ :: _,_,_,h,_ => h.elim
 | _ :: _,[],_,_,h,_ => h.elim
theorem All2.eqmap {f : α → V} : ∀ {as : List α} {ys : List V},All2 P H as ys → (∀ a y,P a y H → y = f a) → ys = as.map f
 | [],[],_,_ => rfl
 | _ :: _,_ :: _,h,g => by rw [List.map_cons,← g _ _ h.1,← All2.eqmap h.2 g]
 | [],_ :: _,h,_ => h.elim
 | _ :: _,[],h,_ => h.elim
end
noncomputable def JV (Ha Hb : Hp) : Prop := ∀ a ob,Ha a = some ob → (∀ zs,ob ≠ .lst zs) → Hb a = some ob
theorem Same.keeps {Ha Hb : Hp} (h : Same Ha Hb) : JV Ha Hb := fun a ob e _ => h a ob e
theorem JV.trans {Ha Hb Hc : Hp} (h : JV Ha Hb) (h' : JV Hb Hc) : JV Ha Hc := fun a ob e n => h' a ob (h a ob e n) n
theorem JP {Ha : Hp} {D : Addr} {zs ys : List V} (h : Ha D = some (.lst zs)) : JV Ha (upd Ha D (.lst ys)) := fun a ob e hn => by
 by_cases c : a = D
 ·subst c; rw [h] at e; cases e; exact absurd rfl (hn zs)
 ·rw [Jg c]; exact e
theorem J71 {α : Type} {J : It} {H : Hp} {σ0 : St} {g : TG} {tc : TT} {te : TE} {Q : VK} (xs : List α) (p : α → Bool) (P : α → V → Hp → Prop) (sh : St → Prop) (hx : xs.length ≤ 1000000) (h0 : sh σ0)
  (hgo : ∀ i H',Same H H' → i < xs.length → J.go i H') (hstop : ∀ H',Same H H' → J.stop xs.length H')
  (hk : ∀ a y Ha Hb,JV Ha Hb → P a y Ha → P a y Hb)
  (step : ∀ (i : Nat) a σ x H' H'',xs[i]? = some a → sh σ → Same H H' → J.yld i H' x H'' → ∀ (Rf : St → Hp → Prop) (Rt : St → V → Hp → Prop),
   (∀ σ2 H3,p a = false → sh σ2 → Same H' H3 → Rf σ2 H3) → (∀ σ2 y H4,p a = true → sh σ2 → Same H' H4 → P a y H4 → Rt σ2 y H4) →
   g x σ H'' fun σ2 H2 => tc σ2 H2 fun b H3 => if b = true then te σ2 H3 (fun y H4 => Rt σ2 y H4) else Rf σ2 H3)
  (hQ : ∀ D H' ys,H D = none → Same H H' → All2 P H' (xs.filter p) ys → H' D = some (.lst ys) → Q (.ref D) H') : J4e J H σ0 g tc te Q := by
 intro D hD
 refine ⟨fun i m σ1 ys H' => m = xs.length - i ∧ i ≤ xs.length ∧ sh σ1 ∧ All2 P H' ((xs.take i).filter p) ys ∧ H' D = some (.lst ys) ∧ Same H H',⟨xs.length,by simp,Nat.zero_le _,h0,trivial,J7,Ji hD _⟩,?_⟩
 rintro i m σ1 ys H' ⟨rfl,hi,hσ,hP,hDD,hs⟩
 by_cases hlt : i < xs.length
 ·refine .inr ⟨hgo i H' hs hlt,fun x H'' hy => ?_⟩
  have ha : xs[i]? = some xs[i] := List.getElem?_eq_getElem hlt
  have ht : xs.take (i + 1) = xs.take i ++ [xs[i]] := by rw [List.take_add_one,ha]; rfl
  refine step i xs[i] σ1 x H' H'' ha hσ hs hy _ _ (fun σ2 H3 hf sh2 s3 => ?_) (fun σ2 y H4 hf sh2 s4 py => ?_)
  ·refine ⟨xs.length - (i + 1),by omega,rfl,hlt,sh2,?_,s3 _ _ hDD,hs.trans s3⟩
   rw [ht,List.filter_append,List.filter_cons,hf]
   show All2 P H3 (List.filter p (xs.take i) ++ []) ys
   rw [List.append_nil]
   exact hP.imp fun a y => hk a y _ _ s3.keeps
  ·have hl := hP.len
   refine ⟨s4 _ _ hDD,?_,xs.length - (i + 1),by omega,rfl,hlt,sh2,?_,J7,(hs.trans s4).upd hD⟩
   ·have h1 := List.length_filter_le p (xs.take i)
    rw [List.length_take] at h1
    have : (1000001 : Nat) ≤ sizeLine := by decide
    omega
   ·rw [ht,List.filter_append,List.filter_cons,hf]
    have kk : JV H4 (upd H4 D (.lst (ys ++ [y]))) := JP (s4 _ _ hDD)
    exact All2.snoc (hP.imp fun a y => hk a y _ _ (s4.keeps.trans kk)) (hk _ _ _ _ kk py)
 ·have e : i = xs.length := by omega
  subst e
  refine .inl ⟨hstop H' hs,hQ D H' ys hD hs ?_ hDD⟩
  rw [List.take_of_length_le (Nat.le_refl _)] at hP
  exact hP
theorem J0k {α : Type} {J : It} {H : Hp} {σ0 : St} {g : TG} {tc : TT} {te : TE} {Q : VK} {vs : List V} (xs : List α) (p : α → Bool) (P : α → V → Hp → Prop) (sh : St → Prop) (hJ : J58 J H vs) (hv : vs.length = xs.length) (hx : xs.length ≤ 1000000) (h0 : sh σ0)
  (hk : ∀ a y Ha Hb,JV Ha Hb → P a y Ha → P a y Hb)
  (step : ∀ (i : Nat) a v σ H',xs[i]? = some a → vs[i]? = some v → sh σ → Same H H' → ∀ (Rf : St → Hp → Prop) (Rt : St → V → Hp → Prop),
   (∀ σ2 H3,p a = false → sh σ2 → Same H' H3 → Rf σ2 H3) → (∀ σ2 y H4,p a = true → sh σ2 → Same H' H4 → P a y H4 → Rt σ2 y H4) →
   g v σ H' fun σ2 H2 => tc σ2 H2 fun b H3 => if b = true then te σ2 H3 (fun y H4 => Rt σ2 y H4) else Rf σ2 H3)
  (hQ : ∀ D H' ys,H D = none → Same H H' → All2 P H' (xs.filter p) ys → H' D = some (.lst ys) → Q (.ref D) H') : J4e J H σ0 g tc te Q := by
 refine J71 xs p P sh hx h0 (fun i H' s hi => hJ.go i H' s (by omega)) (fun H' s => by rw [← hv]; exact hJ.stop H' s) hk (fun i a σ x H' H'' ha hσ s hy => ?_) hQ
 have hi : i < xs.length := (List.getElem?_eq_some_iff.mp ha).1
 obtain ⟨e,hx⟩ := hJ.yld i H' x H'' s (by omega) hy
 subst e
 exact step i a x σ H'' ha hx hσ s
theorem JaC {α : Type} {K : PySem.W.Frag} {l1 l2 : Addr} {H : Hp} {σ0 : St} {g : TG} {tc : TT} {te : TE} {Q : VK} {us vs : List V} (xs : List α) (p : α → Bool) (P : α → V → Hp → Prop) (sh : St → Prop) (hu : SqL K H l1 us) (hv : SqL K H l2 vs) (lu : us.length = xs.length) (lv : vs.length = xs.length) (hx : xs.length ≤ 1000000) (h0 : sh σ0)
  (hk : ∀ a y Ha Hb,JV Ha Hb → P a y Ha → P a y Hb)
  (step : ∀ (i : Nat) a u v q σ H',xs[i]? = some a → us[i]? = some u → vs[i]? = some v → sh σ → Same H H' → H' q = none → ∀ (Rf : St → Hp → Prop) (Rt : St → V → Hp → Prop),
   (∀ σ2 H3,p a = false → sh σ2 → Same H' H3 → Rf σ2 H3) → (∀ σ2 y H4,p a = true → sh σ2 → Same H' H4 → P a y H4 → Rt σ2 y H4) →
   g (.ref q) σ (upd H' q (.tup [u,v])) fun σ2 H2 => tc σ2 H2 fun b H3 => if b = true then te σ2 H3 (fun y H4 => Rt σ2 y H4) else Rf σ2 H3)
  (hQ : ∀ D H' ys,H D = none → Same H H' → All2 P H' (xs.filter p) ys → H' D = some (.lst ys) → Q (.ref D) H') : J4e (Izl K l1 l2) H σ0 g tc te Q := by
 refine J71 xs p P sh hx h0 (fun i H' s hi => ⟨us,vs,us[i],vs[i],s.seq hu,s.seq hv,by simp [lu,hi],by simp [lv,hi]⟩) (fun H' s => ⟨us,vs,s.seq hu,s.seq hv,.inl (by omega)⟩) hk (fun i a σ x H' H'' ha hσ s hy => ?_) hQ
 obtain ⟨q,u,v,hq,e1,e2,rfl,rfl⟩ := hy
 exact step i a u v q σ H' ha (e1 us (s.seq hu)) (e2 vs (s.seq hv)) hσ s hq
section
variable {X : Cx} {K : PySem.W.Frag}
theorem J65 {es : List Expr} {k : Nat} {t : TGs} {n : Nat} {pos : Pos} (hK : X.K = K) (hc : X.calm = true) (h : PGs X es t)
  (hn : (assignEach es X.env).length = n := by rfl) (hst : (assignEach es X.env).findIdx? (·.1) = none := by rfl) : PG X (.Tuple es k pos) (gTup K n t) := hK ▸ J0Y hc h hn hst
end
theorem J9E : bootBuiltins "tuple" = some (.type "tuple") := by decide +kernel
end L2
set_option linter.all false
set_option maxRecDepth 100000
set_option maxHeartbeats 4000000
namespace L2
open PySem PySem.Spec PyProof.Rows
noncomputable def Iel (K : PySem.W.Frag) (l : Addr) : It :=
  ⟨fun i H => ∃ xs x,SqL K H l xs ∧ xs[i]? = some x,
   fun i H v H' => ∃ p x,H p = none ∧ (∀ xs,SqL K H l xs → xs[i]? = some x) ∧ v = .ref p ∧ H' = upd H p (.tup [.int i,x]),
   fun i H => ∃ xs,SqL K H l xs ∧ xs.length ≤ i⟩
theorem JaW {P : Program} {w : World} {K : PySem.W.Frag} {es : List Expr} {k : Nat} {pos : Pos} {z it l : Addr} (zi : z ≠ it) :
  Turn P w K (.Tuple es k pos) (Iel K l) [z,it] z (fun i h => (∃ old,IsEnum h z it (i : Int) old) ∧ h.IsListIter it l i) where
 mem := by simp
 obj := fun i h st b hb => by
  obtain ⟨⟨old,hz⟩,o1,e1,c1,d1⟩ := st
  simp only [List.mem_cons,List.not_mem_nil,or_false] at hb
  rcases hb with rfl | rfl
  ·exact ⟨_,hz,fun v q => by cases q⟩
  ·exact ⟨o1,e1,fun v q => by rw [d1] at q; cases q⟩
 keep := fun i h h' st kk => by
  obtain ⟨⟨old,hz⟩,o1,e1,r1⟩ := st
  exact ⟨⟨old,kk z (by simp) _ hz⟩,⟨o1,kk it (by simp) _ e1,r1⟩⟩
 item := by
  intro X hP hw hK hc i pins s σ H E I hf st hg
  subst hP hw hK
  obtain ⟨⟨old,hz⟩,h1⟩ := st
  obtain ⟨xs,x,hq1,hx⟩ := hg
  obtain ⟨ia,ra,pa,_⟩ := I.list hq1
  obtain ⟨u,hu,ru⟩ := ra.get hx
  refine wpAny_pyNext_enum_item hz h1 pa.isList (x := u) (by simpa using hu) zi fun h' a1 a2 a3 a4 kp => ?_
  refine ⟨_,rfl,?_⟩
  refine wpAny_letOwnedTupleGo_enum (s := { s with heap := h',toks := s.toks + 1 }) a1 fun h2' hz' hs' => ?_
  replace hs' : Heap.SameBut z h' h2' := hs'
  have zlt : z < s.heap.objs.size := Heap.lt_size hz
  have far : ∀ q ∈ [z,it],q < s.heap.objs.size := by
   intro q hq
   obtain ⟨o1,e1,_⟩ := h1
   simp only [List.mem_cons,List.not_mem_nil,or_false] at hq
   rcases hq with rfl | rfl
   ·exact zlt
   ·exact Heap.lt_size e1
  have fz := hf z (by simp)
  have f1 := hf it (by simp)
  have keepAll : ∀ b o,b ≠ z → b ≠ it → s.heap.get? b = some o → h2'.get? b = some o := fun b o b1 b2 e => hs'.extBut _ _ b1 (kp b o b1 b2 e)
  have hnew : H s.heap.objs.size = none := I.hok.fresh (Nat.le_refl _)
  have Tz : s.heap.objs.size ≠ z := Nat.ne_of_gt zlt
  have ht2 : h2'.get? s.heap.objs.size = some { cls := .type "tuple",data := .seq #[.int i s.toks,u] } := hs'.extBut _ _ Tz a3
  have I2 : Inv X pins σ (upd H s.heap.objs.size (.tup [.int i,x])) { s with heap := h2',toks := s.toks + 1 } := by
   have there : ∀ q ∈ [z,it],∃ o',h2'.get? q = some o' := by
    intro q hq
    obtain ⟨o1,e1,_⟩ := a2
    simp only [List.mem_cons,List.not_mem_nil,or_false] at hq
    rcases hq with rfl | rfl
    ·exact ⟨_,hz'⟩
    ·exact ⟨_,hs'.extBut _ _ zi.symm e1⟩
   have nch : ∀ b,b ∉ [z,it] → b ≠ z ∧ b ≠ it := fun b hb => by
    simp only [List.mem_cons,List.not_mem_nil,or_false,not_or] at hb
    exact hb
   have trk : ∀ b u',H b = some u' → b ≠ z ∧ b ≠ it := fun b u' e =>
    ⟨fun q => (by rw [q,fz.1] at e; cases e),fun q => (by rw [q,f1.1] at e; cases e)⟩
   have okH : HOk X.prog X.w (upd H s.heap.objs.size (.tup [.int i,x])) h2' := fun b u' e => by
    by_cases hb : b = s.heap.objs.size
    ·subst hb
     rw [J7] at e
     cases e
     exact ⟨(show 2 ≤ sizeLine by decide),[.int i s.toks,u],.cons ⟨_,rfl⟩ (.cons ru .nil),⟨_,ht2,rfl,_,rfl⟩⟩
    ·rw [Jg hb] at e
     have hx := I.hok b u' e
     refine hx.stay (fun q o hq e2 => ?_) (fun q e2 => ?_) (fun q xs e2 => ?_)
     ·rcases hq with rfl | hq
      ·obtain ⟨b1,b2⟩ := trk q _ e
       exact keepAll q o b1 b2 e2
      ·obtain ⟨b1,b2⟩ := trk q _ hq
       exact keepAll q o b1 b2 e2
     ·rw [Jg (Jc e2 hnew)]; exact e2
     ·rw [Jg (Jc e2 hnew)]; exact e2
   refine I.step (g' := s.gens) (d' := s.drawn) (ch := [z,it]) (fun b hb => ?_) (fun b o _ _ hcb e n => ?_) (fun b o _ _ hcb e n => ?_) (fun b o hcb e n => ?_) (fun b o hcb e => ?_) (fun b xs e => ?_) (fun b o u' e => ?_) (fun b ps e => ?_) (fun m hm => ?_) okH I.bare
   ·simp only [List.mem_cons,List.not_mem_nil,or_false] at hb
    rcases hb with rfl | rfl
    ·exact ⟨fz.2.2.2.1,fz.2.1,fz.2.2.2.2.1,fz.2.2.2.2.2⟩
    ·exact ⟨f1.2.2.2.1,f1.2.1,f1.2.2.2.2.1,f1.2.2.2.2.2⟩
   ·obtain ⟨b1,b2⟩ := nch b hcb
    exact keepAll b o b1 b2 e
   ·obtain ⟨b1,b2⟩ := nch b hcb
    exact ⟨o.slots,keepAll b o b1 b2 e⟩
   ·rw [Jg (Nat.ne_of_lt (Heap.lt_size e))]; exact n
   ·obtain ⟨b1,b2⟩ := nch b hcb
    exact ⟨o,keepAll b o b1 b2 e⟩
   ·rw [Jg (Jc e hnew)]; exact e
   ·rw [Jg (Jc e hnew)]; exact e
   ·exact ⟨#[],by rw [Jg (Jc e hnew),e]; simp⟩
   ·obtain ⟨o,es',ep,ho,r⟩ := hm
    exact ⟨o,es',ep,keepAll _ o fz.2.1.symm f1.2.1.symm ho,r⟩
  refine ⟨.ref s.heap.objs.size,_,I2,rfl,⟨_,x,hnew,fun zs hz => by rw [I.list_inj hz hq1]; exact hx,rfl,rfl⟩,⟨⟨_,by rw [Int.natCast_add]; exact hz'⟩,?_⟩,fun b hb => ?_⟩
  ·obtain ⟨o,e,r⟩ := a2; exact ⟨o,hs'.extBut _ _ zi.symm e,r⟩
  ·rw [Jg (Nat.ne_of_lt (far b hb))]; exact (hf b hb).1
 done := by
  intro X hP hw hK hc i pins s σ H E I hf st hg
  subst hP hw hK
  obtain ⟨⟨old,hz⟩,h1⟩ := st
  obtain ⟨xs,hq1,hg⟩ := hg
  obtain ⟨ia,ra,pa,_⟩ := I.list hq1
  have la := ra.length
  obtain ⟨f0,f1,f2,f3,f4,f5⟩ := hf it (by simp)
  refine wpAny_pyNext_enum_end (I.ok.hd hc) hz h1 pa.isList (by simp; omega) fun h' eb => ⟨rfl,I.turned (t' := s.toks) (fun b o hb e => eb b o hb e) f0 f1 f3 f4 f5⟩
 self := fun _ _ _ _ _ st h => by
  obtain ⟨⟨old,hz⟩,_⟩ := st
  exact wpAny_pyIter_enum hz h
section
variable {X : Cx} {es : List Expr} {k : Nat} {tpos : Pos}
noncomputable def Jdx (K : PySem.W.Frag) (ta : TA) : TI := fun σ H R => ta σ H fun vs H1 => ∃ a,vs = [.ref a] ∧ (∃ xs,SqL K H1 a xs) ∧ R (Iel K a) H1
theorem Jd5 {a : Expr} {ta : TA} {p pos : Pos} (hg : Gl X "enumerate") (hm : X.mg "enumerate" = none) (ha : PA X [a] ta) (hv : bootBuiltins "enumerate" = some (.type "enumerate") := by decide +kernel) (hs : starEach [a] X.env = [(false,eval a X.env)] := by rfl) :
  PI X (.Tuple es k tpos) (.Call (.Name "enumerate" p) [a] [] pos) (Jdx X.K ta) := by
 intro pins s σ H R I h
 refine Call_ (J4q I hg hm hv (PyProof.Rows.callWith_type1 (thn (ha pos pins s σ H _ I h) fun us s1 ⟨vs,H1,I1,r1,q1⟩ => ?_) (by rw [hs]; rfl) (by rfl)))
 obtain ⟨l1,e,⟨xs,hq1⟩,q⟩ := q1
 subst e
 obtain ⟨u,rfl,ru⟩ := r1.one
 cases ru
 obtain ⟨ia,ra,pa,_⟩ := I1.list hq1
 refine call_enumerate_list pa.isList fun h' a1 a2 a3 kp => ?_
 have I2 : Inv X pins σ H1 { s1 with heap := h' } := I1.kept (t' := s1.toks) kp
 refine wpAny_pyIter_enum a1 ⟨s1.heap.objs.size + 1,[s1.heap.objs.size + 1,s1.heap.objs.size],_,_,H1,rfl,I2,JaW (Nat.ne_of_gt (Nat.lt_succ_self _)),⟨⟨_,a1⟩,a2⟩,fun b hb => ?_,q⟩
 have hb' : s1.heap.objs.size ≤ b := by
  simp only [List.mem_cons,List.not_mem_nil,or_false] at hb
  rcases hb with rfl | rfl
  ·exact Nat.le_add_right _ _
  ·exact Nat.le_refl _
 exact I1.fpOk hb' (I1.hok.fresh hb')
theorem J3k {K : PySem.W.Frag} {a : Expr} {ta : TA} {p pos : Pos} (h : X.K = K) (hg : Gl X "enumerate") (hm : X.mg "enumerate" = none) (ha : PA X [a] ta) (hv : bootBuiltins "enumerate" = some (.type "enumerate") := by decide +kernel) (hs : starEach [a] X.env = [(false,eval a X.env)] := by rfl) :
  PI X (.Tuple es k tpos) (.Call (.Name "enumerate" p) [a] [] pos) (Jdx K ta) := h ▸ Jd5 hg hm ha hv hs
end
theorem J3Z {K : PySem.W.Frag} {a : Addr} {xs : List V} {g : TG} {tb : TS} {D : Ends} {σ : St} {H : Hp} (Pv : Nat → St → Hp → Prop) (h0 : Pv 0 σ H) (hl : ∀ i σ H,i ≤ xs.length → Pv i σ H → SqL K H a xs)
  (hs : ∀ i x p σ H,xs[i]? = some x → H p = none → Pv i σ H → g (.ref p) σ (upd H p (.tup [.int i,x])) fun σ2 H2 => tb { D with nx := Pv (i + 1),ct := Pv (i + 1),bk := D.nx } σ2 H2) (hd : ∀ σ H,Pv xs.length σ H → D.nx σ H) :
  ∃ W : Nat → Nat → St → Hp → Prop,(∃ m,W 0 m σ H) ∧ ∀ i m σ H,W i m σ H →
   ((Iel K a).stop i H ∧ D.nx σ H) ∨ ((Iel K a).go i H ∧ ∃ N : St → Hp → Prop,(∀ σ' H',N σ' H' → ∃ m',m' < m ∧ W (i + 1) m' σ' H') ∧ ∀ x H',(Iel K a).yld i H x H' → g x σ H' fun σ2 H2 => tb { D with nx := N,ct := N,bk := D.nx } σ2 H2) := by
 refine ⟨fun i m σ H => m = xs.length - i ∧ i ≤ xs.length ∧ Pv i σ H,⟨xs.length,by simp,Nat.zero_le _,h0⟩,?_⟩
 rintro i m σ H ⟨rfl,hi,p⟩
 have q := hl i σ H hi p
 by_cases hlt : i < xs.length
 ·refine .inr ⟨⟨xs,xs[i],q,by simp [hlt]⟩,Pv (i + 1),fun σ' H' p' => ⟨xs.length - (i + 1),by omega,rfl,hlt,p'⟩,fun x H' y => ?_⟩
  obtain ⟨r,u,hr,e1,rfl,rfl⟩ := y
  exact hs i u r σ H (e1 xs q) hr p
 ·have e : i = xs.length := by omega
  subst e
  exact .inl ⟨⟨xs,q,Nat.le_refl _⟩,hd σ H p⟩
theorem JaA {α : Type} {K : PySem.W.Frag} {l : Addr} {H : Hp} {σ0 : St} {g : TG} {tc : TT} {te : TE} {Q : VK} {vs : List V} (xs : List α) (p : α → Bool) (P : α → V → Hp → Prop) (sh : St → Prop) (hv : SqL K H l vs) (lv : vs.length = xs.length) (hx : xs.length ≤ 1000000) (h0 : sh σ0)
  (hk : ∀ a y Ha Hb,JV Ha Hb → P a y Ha → P a y Hb)
  (step : ∀ (i : Nat) a v q σ H',xs[i]? = some a → vs[i]? = some v → sh σ → Same H H' → H' q = none → ∀ (Rf : St → Hp → Prop) (Rt : St → V → Hp → Prop),
   (∀ σ2 H3,p a = false → sh σ2 → Same H' H3 → Rf σ2 H3) → (∀ σ2 y H4,p a = true → sh σ2 → Same H' H4 → P a y H4 → Rt σ2 y H4) →
   g (.ref q) σ (upd H' q (.tup [.int i,v])) fun σ2 H2 => tc σ2 H2 fun b H3 => if b = true then te σ2 H3 (fun y H4 => Rt σ2 y H4) else Rf σ2 H3)
  (hQ : ∀ D H' ys,H D = none → Same H H' → All2 P H' (xs.filter p) ys → H' D = some (.lst ys) → Q (.ref D) H') : J4e (Iel K l) H σ0 g tc te Q := by
 refine J71 xs p P sh hx h0 (fun i H' s hi => ⟨vs,vs[i],s.seq hv,by simp [lv,hi]⟩) (fun H' s => ⟨vs,s.seq hv,by omega⟩) hk (fun i a σ x H' H'' ha hσ s hy => ?_) hQ
 obtain ⟨q,v,hq,e1,rfl,rfl⟩ := hy
 exact step i a v q σ H' ha (e1 vs (s.seq hv)) hσ s hq
end L2
set_option linter.all false
set_option maxRecDepth 100000
set_option maxHeartbeats 4000000
namespace L2
open PySem PySem.Spec PyProof.Rows
theorem J42 : ∀ {xs : List V},xs.all J0l = true → eqVs xs xs = true
 | [],_ => rfl
 | x :: xs,h => by
  rw [List.all_cons,Bool.and_eq_true] at h
  rw [eqVs,J42 h.2,Bool.and_true]
  cases x <;> first | rfl | exact beq_self_eq_true _ | exact absurd h.1 Bool.false_ne_true
theorem J9R (xs ys : List V) : ((List.range (min xs.length ys.length)).all (fun j => eqV (xs.getD j .non) (ys.getD j .non)) && xs.length == ys.length) = eqVs xs ys := by
 by_cases h : xs.length = ys.length
 ·rw [beq_iff_eq.mpr h,Bool.and_true,h,Nat.min_self,← h,J3w h]
 ·rw [beq_eq_false_iff_ne.mpr h,Bool.and_false,J4V h]
noncomputable def TpAt (K : PySem.W.Frag) : List V → V → Hp → Prop := fun xs v H => ∃ p,v = .ref p ∧ SqT K H p xs ∧ xs.all J0l = true
section
variable {X : Cx} {K : PySem.W.Frag} {pins : List (Addr × Obj)} {s : Shared} {σ : St} {H : Hp} {A : Around}
theorem JcL {p r : Addr} {xs ys : List V} (I : Inv X pins σ H s) (hp : SqT X.K H p xs) (hr : SqT X.K H r ys) (fx : xs.all J0l = true) (fy : ys.all J0l = true) (hu : A.units < cLine) : SeqAt.RcAt A s (.ref p) (.ref r) (eqVs xs ys) := by
 obtain ⟨ia,ra,pa,za⟩ := I.tuple hp
 obtain ⟨ib,rb,pb,zb⟩ := I.tuple hr
 have h := SeqAt.RcAt.tuples (A := A) (e := fun j => eqV (xs.getD j .non) (ys.getD j .non)) (show s.heap.IsTuple p ia.toArray from pa) (show s.heap.IsTuple r ib.toArray from pb) hu (J4P ra rb fx fy)
 rw [List.size_toArray,List.size_toArray,← ra.length,← rb.length,J9R] at h
 exact h
theorem J9C {p r : Addr} {xs ys : List V} (I : Inv X pins σ H s) (hp : SqT X.K H p xs) (hr : SqT X.K H r ys) (fx : xs.all J0l = true) (fy : ys.all J0l = true) (hu : A.units < cLine) : SeqAt.EqAt A s (.ref p) (.ref r) (eqVs xs ys) := by
 by_cases h : p = r
 ·subst h
  rw [I.tuple_inj hr hp,J42 fx]
  exact SeqAt.EqAt.same _
 ·exact SeqAt.EqAt.of_refs h (JcL I hp hr fx fy hu)
noncomputable def rInT (K : PySem.W.Frag) (neg : Bool) : R2 := fun x y H Q => ∃ p l xs yss vs,x = .ref p ∧ y = .ref l ∧ SqT K H p xs ∧ xs.all J0l = true ∧ SqL K H l vs ∧ All2 (TpAt K) H yss vs ∧ Q (.bl (if neg then !(yss.any fun ys => eqVs ys xs) else yss.any fun ys => eqVs ys xs)) H
open Classical in
noncomputable def inE (K : PySem.W.Frag) (H : Hp) (xs : List V) (u : Value) : Bool := decide (∃ p ys,u = Value.ref p ∧ SqT K H p ys ∧ eqVs ys xs = true)
open Classical in
theorem JdC {p : Addr} {xs ys : List V} (I : Inv X pins σ H s) (hp : SqT X.K H p ys) : inE X.K H xs (.ref p) = eqVs ys xs := by
 unfold inE
 cases e : eqVs ys xs with
 | true => exact decide_eq_true ⟨p,ys,rfl,hp,e⟩
 | false =>
  refine decide_eq_false ?_
  rintro ⟨r,zs,h1,h2,h3⟩
  cases h1
  rw [I.tuple_inj h2 hp,e] at h3
  cases h3
theorem Jb9 {xs : List V} (I : Inv X pins σ H s) : ∀ {yss : List (List V)} {vs : List V} {us : List Value},All2 (TpAt X.K) H yss vs → Vals vs us → us.any (inE X.K H xs) = yss.any fun ys => eqVs ys xs
 | [],[],_,_,.nil => rfl
 | ys :: yss,v :: vs,_,h,.cons r t => by
  obtain ⟨⟨p,rfl,hp,_⟩,h2⟩ := h
  cases r
  rw [List.any_cons,List.any_cons,Jb9 I h2 t,JdC I hp]
 | [],_ :: _,_,h,_ => h.elim
 | _ :: _,[],_,h,_ => h.elim
theorem Jbe {q : Addr} {xs : List V} (I : Inv X pins σ H s) (hq : SqT X.K H q xs) (fx : xs.all J0l = true) (hu : A.units < cLine) : ∀ {yss : List (List V)} {vs : List V} {us : List Value},All2 (TpAt X.K) H yss vs → Vals vs us → ∀ u ∈ us,SeqAt.EqAt A s u (.ref q) (inE X.K H xs u)
 | [],[],_,_,.nil => fun u hu => by cases hu
 | ys :: yss,v :: vs,_,h,.cons r t => fun u hm => by
  obtain ⟨⟨p,rfl,hp,fy⟩,h2⟩ := h
  cases r
  rcases List.mem_cons.mp hm with rfl | hm
  ·rw [JdC I hp]
   exact J9C I hp hq fy fx hu
  ·exact Jbe I hq fx hu h2 t u hm
 | [],_ :: _,_,h,_ => h.elim
 | _ :: _,[],_,h,_ => h.elim
theorem Jd2 (h : X.K = K) (hu : X.A.units + 1 < cLine) : OpR X (compareOp .In) (rInT K false) := by
 subst h
 intro pins s σ H x y v u Q I rx ry h
 obtain ⟨p,l,xs,yss,vs,rfl,rfl,hp,fx,hl,ha,q⟩ := h
 cases rx; cases ry
 obtain ⟨its,r,pl,hz⟩ := I.list hl
 refine SeqAt.in_listAt (inE X.K H xs) pl.isList (fun w hw => Jbe (A := X.A.in1) I hp fx hu ha r w (by simpa using hw)) ⟨.bl _,H,I,rfl,?_⟩
 rw [show its.toArray.any (inE X.K H xs) = its.any (inE X.K H xs) by simp,Jb9 I ha r]
 exact q
theorem JaU : J1U X (.builtin "isinstance") (fun xs H Q => ∃ p ys,xs = [.ref p,.ty "tuple"] ∧ H p = some (.tup ys) ∧ Q (.bl true) H) := by
 intro pins s σ H xs us Q I r h
 obtain ⟨p,ys,rfl,hp,q⟩ := h
 obtain ⟨u,v,rfl,r1,r2⟩ := r.two
 cases r1; cases r2
 obtain ⟨_,its,_,o,h1,hc,_⟩ := I.hok p _ hp
 exact PySem.W.kia_one PySem.W.kitx_tuple I.kIn ⟨o,h1,hc⟩ (by rfl) (fun z => nomatch z) fun tk => ⟨.bl true,H,I.tok _,rfl,q⟩
end
end L2
set_option linter.all false
set_option maxRecDepth 100000
set_option maxHeartbeats 4000000
namespace L2
open PySem PySem.Spec PyProof.Rows
@[irreducible] def tCut (t : TS) : TS := fun D σ H => ∃ R : St → Hp → Prop,t { D with nx := R } σ H ∧ ∀ σ' H',R σ' H' → D.nx σ' H'
theorem tCut.mk {t : TS} {D : Ends} {σ : St} {H : Hp} (R : St → Hp → Prop) (h : t { D with nx := R } σ H) (h' : ∀ σ' H',R σ' H' → D.nx σ' H') : tCut t D σ H := by unfold tCut; exact ⟨R,h,h'⟩
section
variable {X : Cx} {K : PySem.W.Frag}
theorem J1R {st : Stmt} {t : TS} (h : PS X st t) : PS X st (tCut t) := by
 intro pins s σ H D I q
 unfold tCut at q
 obtain ⟨R,h1,h2⟩ := q
 refine thn (h pins s σ H _ I h1) fun f s' z => ?_
 cases f with
 | next => obtain ⟨σ',H',I',r⟩ := z; exact ⟨σ',H',I',h2 σ' H' r⟩
 | brk => exact z
 | cont => exact z
 | ret u => exact z
theorem J8L {M : Model} {A : Around} {E : Value → Shared → Prop} {s : Shared} {a b : Value} {Q : Value → Shared → Prop} (ha : s.TypeIs a "list") (hb : s.TypeIs b "list") (hc : wpAny M A (call (.builtin "list.__iadd__") [a,b]) Q E s) : wpAny M A (inplaceOp .Add a b) Q E s := by
 unfold inplaceOp
 refine wpAny_holding ?_
 have hl : typeLookup (.type "list") (dunderI "add") = pure (some (.builtin "list.__iadd__")) := F.slot_list_iadd.lookup
 have hfi : fillsInplaceSlot (.type "list") "add" (Operator.Add == .Add) = pure false := by
  unfold fillsInplaceSlot
  show (typeLookup (.type "list") (dunderI "add") >>= fun fi => pure (fi.isSome && !isSeqSlot fi)) = pure false
  rw [hl]; rfl
 have hsi : seqSlot? (.type "list") (dunderI "add") = pure (some (.builtin "list.__iadd__")) := by
  unfold seqSlot?
  rw [hl]; rfl
 refine wpAny_bind (wpAny_typeOf ha (wpAny_bind (wpAny_of_eq hfi ?_)))
 show wpAny M A (if false = true then _ else _) Q E s
 rw [if_neg Bool.false_ne_true]
 refine wpAny_bind (binaryOp1_none (nm := "add") ha hb noFill_list_add ?_)
 refine wpAny_bind (wpAny_of_eq hsi ?_)
 exact wpAny_bind (wpAny_rule hc)
noncomputable def ipL : TIp := fun x y H Q => ∃ l b xs zs,x = .ref l ∧ y = .ref b ∧ H l = some (.lst xs) ∧ H b = some (.lst zs) ∧ xs.length + zs.length ≤ sizeLine ∧ Q (.ref l) (upd H l (.lst (xs ++ zs)))
theorem J3y : PIp X .Add ipL := by
 intro pins s σ H x y v u Q I rx ry h
 obtain ⟨l,b,xs,zs,rfl,rfl,hH,hB,hz,q⟩ := h
 cases rx
 cases ry
 obtain ⟨z,its,n,r,hl,e⟩ := I.lstM hH
 obtain ⟨z2,its2,n2,r2,hl2,e2⟩ := I.lstM hB
 have hsz : its.toArray.size + its2.toArray.size ≤ sizeLine := by rw [List.size_toArray,List.size_toArray]; omega
 have hlong : ¬ (!its.toArray.isEmpty && Builtin.List.listTooLong (its.toArray.size + its2.toArray.size)) = true := by
  rw [JdD hsz,Bool.and_false]
  exact Bool.false_ne_true
 refine J8L ⟨_,e,rfl⟩ ⟨_,e2,rfl⟩ ?_
 refine call_meets F.slot_list_iadd ⟨_,e,rfl⟩ F.entry_list_iadd (F.args_list_iadd_2 _ _)
  (AutoSeq1.list___iadd___list_list_0 l its.toArray n b its2.toArray n2 hlong (by rw [List.size_toArray]; omega) (by omega)) ⟨e,e2,?_⟩
 refine ⟨.ref l,_,I.lset (its' := its ++ its2) hH e (by simp) (r.append r2) ?_,rfl,q⟩
 rw [List.length_append]
 omega
noncomputable def rNeT (K : PySem.W.Frag) : R2 := fun x y H Q => ∃ p r xs ys,x = .ref p ∧ y = .ref r ∧ SqT K H p xs ∧ SqT K H r ys ∧ xs.all J0l = true ∧ ys.all J0l = true ∧ Q (.bl (!eqVs xs ys)) H
theorem JeW (h : X.K = K) (hu : X.A.units < cLine) : OpR X (compareOp .NotEq) (rNeT K) := by
 subst h
 intro pins s σ H x y v u Q I rx ry h
 obtain ⟨p,r,xs,ys,rfl,rfl,hp,hr,fx,fy,q⟩ := h
 cases rx; cases ry
 obtain ⟨ia,ra,pa,za⟩ := I.tuple hp
 obtain ⟨ib,rb,pb,zb⟩ := I.tuple hr
 have h := SeqAt.RcNeAt.tuples (A := X.A) (e := fun j => eqV (xs.getD j .non) (ys.getD j .non)) (show s.heap.IsTuple p ia.toArray from pa) (show s.heap.IsTuple r ib.toArray from pb) hu (J4P ra rb fx fy)
 rw [List.size_toArray,List.size_toArray,← ra.length,← rb.length,J9R] at h
 exact h _ _ _ _ ⟨.bl _,H,I,rfl,q⟩
theorem Jek {tg l : Expr} {tl : TE} (h : X.K = K) (hl : PE X l tl) : PI X tg l (iTup K tl) := h ▸ Jfx hl
theorem Same.seqT {H H' : Hp} {a : Addr} {xs : List V} (e : Same H H') (h : SqT K H a xs) : SqT K H' a xs := by
 rcases h with (h | ⟨o,h⟩) | h
 ·exact .inl (.inl (e _ _ h))
 ·exact .inl (.inr ⟨o,e _ _ h⟩)
 ·exact .inr h
theorem Jc7 {a : Addr} {H : Hp} {xs : List V} (h : SqT K H a xs) : J58 (Itt K a) H xs where
 go := fun i H' s hi => ⟨xs,xs[i],s.seqT h,by simp [hi]⟩
 yld := fun i H' x H'' s hi y => ⟨y.1,y.2 xs (s.seqT h)⟩
 stop := fun H' s => ⟨xs,s.seqT h,Nat.le_refl _⟩
theorem JaI : J1U X (.builtin "isinstance") (fun xs H Q => ∃ v,xs = [v,.ty "bool"] ∧ ((∃ i,v = .int i) ∨ ∃ z,v = .str z) ∧ Q (.bl false) H) := by
 intro pins s σ H xs us Q I r h
 obtain ⟨v,rfl,hv,q⟩ := h
 obtain ⟨u,w,rfl,r1,r2⟩ := r.two
 rcases hv with ⟨i,rfl⟩ | ⟨z,rfl⟩
 ·obtain ⟨t,rfl⟩ := r1; cases r2
  exact PySem.W.kia_one PySem.W.kitx_int I.kIn True.intro (by rfl) (fun z => nomatch z) fun tk => ⟨.bl false,H,I.tok _,rfl,q⟩
 ·obtain ⟨t,rfl⟩ := r1; cases r2
  exact PySem.W.kia_one PySem.W.kitx_str I.kIn True.intro (by rfl) (fun z => nomatch z) fun tk => ⟨.bl false,H,I.tok _,rfl,q⟩
end
end L2
namespace L2
open PySem PySem.Spec PyProof.Rows
theorem mul_one {c : Nat} {k : Int} (h0 : 1 ≤ k) (h1 : k ≤ 5) : Txt.mul ⟨#[c]⟩ k = ⟨(List.replicate k.toNat c).toArray⟩ := by
 have : k = 1 ∨ k = 2 ∨ k = 3 ∨ k = 4 ∨ k = 5 := by omega
 rcases this with rfl | rfl | rfl | rfl | rfl <;> rfl
theorem Jd3 {X : Cx} : OpR X (binaryOp .Mult) (fun x y H Q => ∃ c k,x = T [c] ∧ y = .int k ∧ 1 ≤ k ∧ k ≤ 5 ∧ Q (T (List.replicate k.toNat c)) H) := by
 intro pins s σ H x y v u Q I rx ry h
 obtain ⟨c,k,rfl,rfl,h0,h1,q⟩ := h
 obtain ⟨t,rfl⟩ := rx
 obtain ⟨t',rfl⟩ := ry
 refine SB.mul ⟨?_,fun _ _ => ?_,fun _ _ => ?_⟩ fun t2 k2 => ?_
 ·rw [decide_eq_false (by omega),decide_eq_false (by omega)]; rfl
 ·have : k = 1 ∨ k = 2 ∨ k = 3 ∨ k = 4 ∨ k = 5 := by omega
  rcases this with rfl | rfl | rfl | rfl | rfl <;> (show ¬ ((1 : Int) > _); decide)
 ·have e : ({ cps := #[c] } : Str).length = 1 := rfl
  rw [show (⟨[c].toArray⟩ : Str).length = 1 from rfl]
  have : k = 1 ∨ k = 2 ∨ k = 3 ∨ k = 4 ∨ k = 5 := by omega
  clear q e
  rcases this with rfl | rfl | rfl | rfl | rfl <;> decide
 ·rw [mul_one h0 h1]
  exact ⟨T (List.replicate k.toNat c),H,I.tok _,⟨t2,rfl⟩,q⟩
theorem J4Y {X : Cx} : J1U X (.type "str") (fun xs H Q => ∃ i : Int,xs = [.int i] ∧ 0 ≤ i ∧ i ≤ 9 ∧ Q (T [48 + i.toNat]) H) := by
 intro pins s σ H xs us Q I r h
 obtain ⟨i,rfl,h0,h1,q⟩ := h
 exact J7v pins s σ H _ us Q I r ⟨i.toNat,by rw [Int.toNat_of_nonneg h0],by omega,q⟩
section
variable {α β : Type} {H : Hp}
theorem All2.mapL {P : β → V → Hp → Prop} {f : α → β} : ∀ {as : List α} {ys : List V},All2 (fun a y H => P (f a) y H) H as ys → All2 P H (as.map f) ys
 | [],[],_ => trivial
 | _ :: _,_ :: _,h => ⟨h.1,All2.mapL h.2⟩
 | [],_ :: _,h => h.elim
 | _ :: _,[],h => h.elim
theorem All2.app {P : α → V → Hp → Prop} : ∀ {as bs : List α} {ys zs : List V},All2 P H as ys → All2 P H bs zs → All2 P H (as ++ bs) (ys ++ zs)
 | [],_,[],_,_,h => h
 | _ :: _,_,_ :: _,_,h,g => ⟨h.1,All2.app h.2 g⟩
 | [],_,_ :: _,_,h,_ => h.elim
 | _ :: _,_,[],_,h,_ => h.elim
end
end L2
set_option linter.all false
set_option maxRecDepth 100000
set_option maxHeartbeats 4000000
namespace L2
open PySem PySem.Spec PyProof.Rows
section
variable {X : Cx} {pins : List (Addr × Obj)} {σ : St} {H : Hp} {s : Shared} {E : XK} {Ex : Value → Shared → Prop}
end
end L2
set_option linter.all false
set_option maxRecDepth 100000
set_option maxHeartbeats 4000000
namespace L2
open PySem PySem.Spec PyProof.Rows
section
variable {P : Program} {w : World} {K : PySem.W.Frag} {mg : Str → Option Value} {base : Heap}
end
section
variable {X : Cx} {x m : Str} {k : Nat} {ps : List Str} {sp : Sp} {C : Addr} {p pos apos : Pos} {e o : Expr} {es : List Expr} {t : TA} {to : TE} {E : XK}
end
end L2
set_option linter.all false
set_option maxRecDepth 100000
set_option maxHeartbeats 4000000
namespace L2
open PySem PySem.Spec PyProof.Rows
section
variable {prog : Program} {w : World} {A : Around} {E : Value → Shared → Prop} {K : PySem.W.Frag} {x C : Addr} {h : Heap} {g : Array GenState} {d : Drawn} {t : Nat} {os : OsState} {o : Obj}
end
end L2
set_option linter.all false
set_option maxRecDepth 100000
set_option maxHeartbeats 4000000
namespace L2
open PySem PySem.Spec PyProof.Rows
section
variable {X : Cx} {pins : List (Addr × Obj)} {σ : St} {H : Hp} {s : Shared}
end
section
variable {X : Cx} {x m : Str} {k : Nat} {ps : List Str} {sp : Sp} {C : Addr} {p pos apos : Pos} {e o : Expr} {es : List Expr} {t : TA} {to : TE}
end
section
variable {X : Cx}
end
end L2
set_option linter.all false
set_option maxRecDepth 100000
set_option maxHeartbeats 4000000
namespace L2
open PySem PySem.Spec PyProof.Rows
section
variable {X : Cx} {K : PySem.W.Frag}
end
end L2
set_option linter.all false
set_option maxRecDepth 100000
set_option maxHeartbeats 4000000
namespace L2
open PySem PySem.Spec PyProof.Rows
section
variable {X : Cx} {K : PySem.W.Frag} {pins : List (Addr × Obj)} {σ : St} {H : Hp} {s : Shared} {A : Around}
inductive Jb7 (K : PySem.W.Frag) (H : Hp) : V → V → Prop
 | refs (p : Addr) : Jb7 K H (.ref p) (.ref p)
 | tups {p r : Addr} {zs ws : List V} (h1 : SqT K H p zs) (h2 : SqT K H r ws) (f1 : zs.all J0l = true) (f2 : ws.all J0l = true) (e : eqVs zs ws = true) : Jb7 K H (.ref p) (.ref r)
noncomputable def J4t (K : PySem.W.Frag) (H : Hp) (xs ys : List V) : Prop := xs.length = ys.length ∧ ∀ (j : Nat) (x y : V),xs[j]? = some x → ys[j]? = some y → Jb7 K H x y
theorem Jb0 {x y : V} {u v : Value} (I : Inv X pins σ H s) (h : Jb7 X.K H x y) (r1 : RelV x u) (r2 : RelV y v) (hu : A.units < cLine) : SeqAt.EqAt A s u v true := by
 cases h with
 | refs p => cases r1; cases r2; exact SeqAt.EqAt.same _
 | @tups p r zs ws h1 h2 f1 f2 e =>
  cases r1; cases r2
  have q := J9C (A := A) I h1 h2 f1 f2 hu
  rw [e] at q
  exact q
theorem JbW {xs ys : List V} {ia ib : List Value} (I : Inv X pins σ H s) (h : J4t X.K H xs ys) (ra : Vals xs ia) (rb : Vals ys ib) (hu : A.units < cLine) :
  ∀ j (h1 : j < ia.toArray.size) (h2 : j < ib.toArray.size),SeqAt.EqAt A s ia.toArray[j] ib.toArray[j] true := by
 intro j h1 h2
 have la := ra.length
 have lb := rb.length
 have g1 : j < ia.length := by simpa using h1
 have g2 : j < ib.length := by simpa using h2
 have k1 := ra.rel j (by omega) g1
 have k2 := rb.rel j (by omega) g2
 have q := Jb0 (A := A) I (h.2 j _ _ (List.getElem?_eq_getElem (by omega)) (List.getElem?_eq_getElem (by omega))) k1 k2 hu
 simpa using q
theorem J9Q (n : Nat) : (List.range n).all (fun _ => true) = true := List.all_eq_true.mpr fun _ _ => rfl
theorem J4t.same (K : PySem.W.Frag) (H : Hp) (xs : List V) (h : ∀ x ∈ xs,∃ p,x = .ref p) : J4t K H xs xs := ⟨rfl,fun j x y h1 h2 => by
 rw [h1] at h2
 cases h2
 obtain ⟨p,rfl⟩ := h x (List.mem_of_getElem? h1)
 exact .refs p⟩
end
end L2
set_option linter.all false
set_option maxRecDepth 100000
set_option maxHeartbeats 4000000
namespace L2
open PySem PySem.Spec PyProof.Rows
section
variable {X : Cx} {K : PySem.W.Frag} {pins : List (Addr × Obj)} {σ : St} {H : Hp} {s : Shared} {A : Around}
theorem JcX (h : X.K = K) : OpR X (compareOp .In) (rIn K false) := h ▸ Jch
end
end L2
set_option linter.all false
set_option maxRecDepth 100000
set_option maxHeartbeats 4000000
namespace L2
open PySem PySem.Spec PyProof.Rows
section
variable {X : Cx} {K : PySem.W.Frag}
theorem Jcb : bootBuiltins "set" = some (.type "set") := by decide +kernel
end
end L2
set_option linter.all false
set_option maxRecDepth 100000
set_option maxHeartbeats 4000000
namespace L2
open PySem PySem.Spec PyProof.Rows
section
variable {κ : Type} [DecidableEq κ]
noncomputable def metK (val : Nat → κ) : Nat → List κ
 | 0 => []
 | i + 1 => if val i ∈ metK val i then metK val i else metK val i ++ [val i]
theorem J6X (val : Nat → κ) : ∀ i,(metK val i).length ≤ i
 | 0 => Nat.le_refl _
 | i + 1 => by
  have := J6X val i
  rw [metK]
  split
  ·omega
  ·rw [List.length_append,List.length_singleton]; omega
theorem Jdg (val : Nat → κ) (i : Nat) (x : κ) : decide (x ∈ metK val (i + 1)) = (decide (x ∈ metK val i) || decide (x = val i)) := by
 rw [metK]
 by_cases h : val i ∈ metK val i
 ·rw [if_pos h]
  by_cases e : x = val i
  ·rw [e,decide_eq_true h]; rfl
  ·rw [decide_eq_false e,Bool.or_false]
 ·rw [if_neg h]
  by_cases e : x = val i <;> by_cases e2 : x ∈ metK val i <;> simp [e,e2]
theorem Jcd (val : Nat → κ) (i : Nat) : (metK val (i + 1)).length = if decide (val i ∈ metK val i) = true then (metK val i).length else (metK val i).length + 1 := by
 rw [metK]
 by_cases h : val i ∈ metK val i
 ·rw [if_pos h,if_pos (decide_eq_true h)]
 ·rw [if_neg h,if_neg (by rw [decide_eq_false h]; exact Bool.false_ne_true),List.length_append,List.length_singleton]
end
section
variable {p : Program} {w : World} {A : Around} {R : Result → Shared → Prop} {it : Addr} {fp wr : List Addr} {gs : Array GenState → Array GenState → Prop} {n : Nat} {Pv : Nat → Value → Prop} {St : Nat → Shared → Prop}
theorem JbU {κ : Type} [DecidableEq κ] (kd : PySem.KeyKind p w κ) (W : WalksS p w A.in1 it fp wr gs n Pv St) (z : Addr) (nz : z ∉ fp) (val : Nat → κ) (hv : ∀ i v,Pv i v → kd.is (val i) v = true ∧ v.scannable = true) (hb : n + 1 < scanBound) :
  ∀ (k i : Nat) (s : Shared),i + k = n → St i s → s.heap.SetOf kd z (fun x => decide (x ∈ metK val i)) (metK val i).length → (∀ s',Moved (z :: wr) gs s s' → s'.heap.SetOf kd z (fun x => decide (x ∈ metK val n)) (metK val n).length → R (.ok (.ret .none)) s') → codeAny (model p w) A (.builtin "set.update.loop" ⟨[.ref z,.ref it],[]⟩) R s := by
 have nzw : z ∉ wr := fun q => nz (W.sub _ q)
 have wid : ∀ b ∈ wr,b ∈ z :: wr := fun b q => List.mem_cons_of_mem _ q
 intro k
 induction k with
 | zero =>
  intro i s ek st so out
  have ei : i = n := by omega
  subst ei
  refine codeAny_builtin PyProof.Rows.F.entry_set_update_loop ?_
  rw [Around.under_plainId PyProof.Rows.F.plain_set_update_loop _]
  show wpAny _ A.in1 (pyNext (.ref it) >>= _) _ _ s
  refine wpAny_bind (W.done s _ _ st fun s1 mv => ?_)
  show wpAny _ A.in1 (ret Value.none) _ _ s1
  refine wpAny_pure (out s1 (mv.mono wid) ?_)
  obtain ⟨o,es,ep,tb,ho,rest⟩ := so
  exact ⟨o,es,ep,tb,mv.heap z _ nzw ho,rest⟩
 | succ k ih =>
  intro i s ek st so out
  refine codeAny_builtin PyProof.Rows.F.entry_set_update_loop ?_
  rw [Around.under_plainId PyProof.Rows.F.plain_set_update_loop _]
  show wpAny _ A.in1 (pyNext (.ref it) >>= _) _ _ s
  refine wpAny_bind (W.item i s _ _ (by omega) st fun v s1 pv st1 mv => ?_)
  obtain ⟨h1,h2⟩ := hv i v pv
  have so1 : s1.heap.SetOf kd z (fun x => decide (x ∈ metK val i)) (metK val i).length := by
   obtain ⟨o,es,ep,tb,ho,rest⟩ := so
   exact ⟨o,es,ep,tb,mv.heap z _ nzw ho,rest⟩
  show wpAny _ A.in1 (holding [v] (setAdd z v) >>= _) _ _ s1
  refine wpAny_bind (wpAny_holding ?_)
  unfold setAdd
  refine wpAny_holding (wpAny_bind (kd.pyHash (k := val i) h1 ?_))
  have rm : (metK val i).length + 1 < scanBound := by have := J6X val i; omega
  refine wpAny_setAddHashed_of (knd := kd) (s := { s1 with toks := s1.toks + 1 }) h1 h2 so1 rm fun h' sb so2 => ?_
  have so3 : h'.SetOf kd z (fun x => decide (x ∈ metK val (i + 1))) (metK val (i + 1)).length := PyProof.Rows.SetOf_congr so2 (fun x => (Jdg val i x).symm) (Jcd val i).symm
  refine wpAny_pure ⟨plainId_quiet PyProof.Rows.F.plain_set_update_loop _,ih (i + 1) _ (by omega) (W.frame _ s1 _ _ st1 (Nat.le_succ _) fun b bf o e => ?_) so3 fun s2 mv2 so4 => ?_⟩
  ·rw [sb.2 b (fun q : b = z => nz (by rw [← q]; exact bf))]; exact e
  ·refine out s2 (Moved.trans W.gtrans ((mv.mono wid).then_heap (Nat.le_succ _) fun b o hn e => ?_) mv2) so4
   rw [sb.2 b (fun q : b = z => hn (by rw [q]; exact List.mem_cons_self))]; exact e
end
section
variable {p : Program} {w : World} {A : Around} {E : Value → Shared → Prop} {s : Shared}
theorem Jd0 {x : Str} {t : Tok} {Q : Value → Shared → Prop} (hh : A.handled = none) (hb : x.cps.size + 1 < scanBound)
  (h : ∀ (h' : Heap) (tk : Nat),h'.SetOf (PySem.strKind p w) s.heap.objs.size (fun k => decide (k ∈ metK (fun i => (⟨#[x.cps.getD i 0]⟩ : Str)) x.cps.size)) (metK (fun i => (⟨#[x.cps.getD i 0]⟩ : Str)) x.cps.size).length →
   (∀ b o,b < s.heap.objs.size → s.heap.get? b = some o → h'.get? b = some o) → Q (.ref s.heap.objs.size) { s with heap := h',toks := tk }) :
  wpAny (model p w) A (call (.type "set") [.str x t]) Q E s := by
 obtain ⟨c,tl,mro⟩ := PySem.F.called_set.mro
 have m1 := PySem.F.called_set.made
 have m2 := PySem.F.called_set.sub
 refine wpAny_call (codeAny_of_tree ?_)
 show wpAny _ _ (callAny (.type "set") _) _ _ _
 refine wpAny_pure ⟨Code.quiet_builtin _ (by decide +kernel),codeAny_builtin PySem.F.entry_type_call ?_⟩
 rw [Around.under_plain (weight_type_call_type "set" [.str x t] []) rfl]
 have m3 := PySem.F.called_set.notType
 have m4 := PySem.F.called_set.canCreate
 have m5 := PySem.F.typeCall_set_1 (.str x t)
 repeat (any_goals (first | assumption | wp_step))
 have pre := code_set_new_1 (prog := p) (w := w) (A := A.in1) (s := s) (.str x t) (E := E) (Q₁ := fun ob s1 => ∃ led : Bool,ob = .ref s.heap.objs.size ∧ s1 = { s with heap := s.heap.push { cls := .type "set",dict := none,data := .set #[] 0 (.fresh 0 0 led) } }) fun led => ⟨led,rfl,rfl⟩
 refine codeAny_mono pre fun r s1 hr => ?_
 cases r with
 | error e => exact hr
 | ok fl =>
  cases fl with
  | ret ob =>
   obtain ⟨led,rfl,rfl⟩ := hr
   generalize hO : ({ cls := .type "set",dict := none,data := .set #[] 0 (.fresh 0 0 led) } : Obj) = O
   have cO : O.cls = .type "set" := by rw [← hO]
   have gO : (s.heap.push O).get? s.heap.objs.size = some O := Heap.get?_push_size _ (by rw [← hO]; rfl)
   have tO : Shared.TypeIs { s with heap := s.heap.push O } (.ref s.heap.objs.size) "set" := ⟨_,gO,cO⟩
   have li := PySem.F.called_set.init.lookup
   have bi := PySem.F.called_set.init.bind (.ref s.heap.objs.size)
   repeat (any_goals (first | assumption | wp_step))
   refine codeAny_mono (codeAny_call_builtin (R := wants (fun r s2 => r = .none ∧ ∃ h' tk,s2 = { s with heap := h',toks := tk } ∧ h'.SetOf (PySem.strKind p w) s.heap.objs.size (fun k => decide (k ∈ metK (fun i => (⟨#[x.cps.getD i 0]⟩ : Str)) x.cps.size)) (metK (fun i => (⟨#[x.cps.getD i 0]⟩ : Str)) x.cps.size).length ∧ ∀ b o,b < s.heap.objs.size → s.heap.get? b = some o → h'.get? b = some o) E) PySem.F.called_set.init.plain PySem.F.entry_set_init (check_set_init_1 tO ?_)) fun r2 s2 hr2 => ?_
   ·have q1 : isSubtype (.type "str") (.type "set") = pure false := by rw [isSubtype_type]; kernel_rfl
    have q2 : isSubtype (.type "str") (.type "frozenset") = pure false := by rw [isSubtype_type]; kernel_rfl
    have q3 : (Value.type "str" == Value.type "dict") = false := by decide
    subst hO
    unfold Builtin.«set.__init__» noKeywords Builtin.Frozenset.updateFrom
    generalize hPI : pyIter = PI
    wp_walk
    subst hPI
    refine wpAny_pyIter_str fun o2 St hW st0 => ?_
    refine wpAny_bind (wpAny_runValue ?_)
    have W := hW A.in1.in1.in1 (by simp [hh])
    have ez : (s.heap.push { cls := .type "set",dict := none,data := .set #[] 0 (.fresh 0 0 led) }).objs.size = s.heap.objs.size + 1 := Heap.size_push ..
    have nz : s.heap.objs.size ∉ [(s.heap.push { cls := .type "set",dict := none,data := .set #[] 0 (.fresh 0 0 led) }).objs.size] := by
     rw [ez,List.mem_singleton]
     omega
    refine JbU (PySem.strKind p w) W.toS s.heap.objs.size nz (fun i => (⟨#[x.cps.getD i 0]⟩ : Str)) (fun i v sv => ?_) hb x.cps.size 0 _ (Nat.zero_add _) st0 ?_ fun s3 mv so => ?_
    ·obtain ⟨cc,u,e1,rfl⟩ := sv
     have e2 : x.cps.getD i 0 = cc := by rw [Array.getD_eq_getD_getElem?,e1]; rfl
     exact ⟨by show (PySem.strKind p w).is ⟨#[x.cps.getD i 0]⟩ (.str ⟨#[cc]⟩ u) = true; rw [e2]; exact strKind_is p w _ u,rfl⟩
    ·have g2 := Heap.get?_push_of_some o2 gO
     exact PyProof.Rows.SetOf_congr ((PyProof.Rows.setObjOf_fresh (knd := PySem.strKind p w) led).setOf g2 (by unfold scanBound; omega)) (fun _ => rfl) rfl
    ·obtain ⟨h3,g3,d3,t3,os3⟩ := s3
     have a1 : g3 = s.gens := mv.gens
     have a2 : d3 = s.drawn := mv.drawn
     have a3 : os3 = s.os := mv.os
     subst a1 a2 a3
     show wpAny _ _ _ _ _ _
     refine wpAny_pure ?_
     show wpAny _ _ (ret Value.none) _ _ _
     refine wpAny_pure ⟨rfl,h3,t3,rfl,so,fun b o lt e => ?_⟩
     refine mv.heap b o ?_ (Heap.get?_push_of_some _ (Heap.get?_push_of_some _ e))
     rw [ez]
     simp only [List.mem_cons,List.not_mem_nil,or_false,not_or]
     exact ⟨Nat.ne_of_lt lt,Nat.ne_of_lt (Nat.lt_succ_of_lt lt)⟩
   ·cases r2 with
    | error e => exact hr2
    | ok fl2 =>
     cases fl2 with
     | ret r =>
      obtain ⟨rfl,h',tk,rfl,so,kp⟩ := hr2
      repeat (any_goals (first | assumption | wp_step))
      exact h _ _ so kp
     | _ => exact hr2.elim
  | _ => exact hr.elim
end
noncomputable def SO (a : Addr) (n : Nat) : HO := .ext fun h => ∃ o es ep t,h.get? a = some o ∧ o.ExactSet ∧ o.data = .set es ep t ∧ t.fits es.size = true ∧ es.size = n ∧ n < 4096
theorem SO.ok {P : Program} {w : World} {H : Hp} {h : Heap} {a : Addr} {n : Nat} (q : ∃ o es ep t,h.get? a = some o ∧ o.ExactSet ∧ o.data = .set es ep t ∧ t.fits es.size = true ∧ es.size = n ∧ n < 4096) : J2Z P w H h a (SO a n) :=
 ⟨q,let ⟨o,_,_,_,e,_⟩ := q; ⟨o,e⟩,fun _ _ ⟨o,es,ep,t,e,c⟩ k => ⟨o,es,ep,t,k o e,c⟩⟩
noncomputable def J4T (l : List Nat) : Nat := (metK (fun i => (⟨#[l.getD i 0]⟩ : Str)) l.length).length
section
variable {X : Cx}
theorem Jc4 (hc : X.calm = true) : J1U X (.type "set") (fun xs H Q => ∃ l,xs = [T l] ∧ l.length ≤ 1000 ∧ ∀ p,H p = none → Q (.ref p) (upd H p (SO p (J4T l)))) := by
 intro pins s σ H xs us Q I r h
 obtain ⟨l,rfl,hl,q⟩ := h
 obtain ⟨u,rfl,ru⟩ := r.one
 obtain ⟨t,rfl⟩ := ru
 have hb : (⟨l.toArray⟩ : Str).cps.size + 1 < scanBound := by
  show l.toArray.size + 1 < 4096
  rw [List.size_toArray]
  omega
 refine Jd0 (x := ⟨l.toArray⟩) (I.ok.hd hc) hb fun h' tk so kp => ?_
 obtain ⟨o,es,ep,tb,ho,hex,hd,hel,hmem,hb2,hf,hn⟩ := so
 have e1 : (metK (fun i => (⟨#[(⟨l.toArray⟩ : Str).cps.getD i 0]⟩ : Str)) (⟨l.toArray⟩ : Str).cps.size).length = J4T l := by
  unfold J4T
  have e : (fun i => (⟨#[(⟨l.toArray⟩ : Str).cps.getD i 0]⟩ : Str)) = fun i => (⟨#[l.getD i 0]⟩ : Str) := by
   funext i
   show (⟨#[l.toArray.getD i 0]⟩ : Str) = _
   rw [Array.getD_eq_getD_getElem?,List.getElem?_toArray,List.getD_eq_getElem?_getD]
  rw [e]
  show (metK _ l.toArray.size).length = _
  rw [List.size_toArray]
 have hz : es.size = J4T l := by rw [← e1]; omega
 have hz2 : J4T l < 4096 := by
  have : es.size < 4096 := hb2
  omega
 exact ⟨.ref s.heap.objs.size,_,I.laid (o := SO s.heap.objs.size (J4T l)) (t' := tk) (fun b o e => kp b o (Heap.lt_size e) e) (Nat.le_refl _) (SO.ok ⟨o,es,ep,tb,ho,hex,hd,hf,hz,hz2⟩),rfl,q _ (I.hok.fresh (Nat.le_refl _))⟩
theorem JaY : J1U X (.builtin "len") (fun xs H Q => ∃ (p : Addr) (n : Nat),xs = [.ref p] ∧ H p = some (SO p n) ∧ Q (.int n) H) := by
 intro pins s σ H xs us Q I r h
 obtain ⟨p,n,rfl,hp,q⟩ := h
 obtain ⟨u,rfl,ru⟩ := r.one
 cases ru
 obtain ⟨⟨o,es,ep,t,ho,hex,hd,hf,hz,hb⟩,_⟩ := I.hok p _ hp
 refine call_len_set ho hex hd hf ?_ ⟨.int es.size,H,I.tok _,⟨_,rfl⟩,by rw [hz]; exact q⟩
 omega
end
end L2
set_option linter.all false
set_option maxRecDepth 100000
namespace L2
open PySem PySem.Spec PyProof.Rows
section
variable {X : Cx}
theorem Jfu {c : Nat} (h0 : 48 ≤ c) (h1 : c ≤ 57) : PySem.intText? ⟨[c].toArray⟩ = some ((c : Int) - 48) := by
 have key : ∀ k : Nat,k < 10 → PySem.intText? ⟨[48 + k].toArray⟩ = some (((48 + k : Nat) : Int) - 48) := by decide +kernel
 have := key (c - 48) (by omega)
 rwa [show 48 + (c - 48) = c by omega] at this
theorem J2N : J1U X (.type "int") (fun xs H Q => ∃ c,xs = [T [c]] ∧ 48 ≤ c ∧ c ≤ 57 ∧ Q (.int ((c : Int) - 48)) H) := by
 intro pins s σ H xs us Q I r h
 obtain ⟨c,rfl,h0,h1,q⟩ := h
 obtain ⟨u,rfl,ru⟩ := r.one
 obtain ⟨t,rfl⟩ := ru
 exact PySem.W.KIN.call_text (Jfu h0 h1) (by show 1 ≤ 640; decide) ⟨.int ((c : Int) - 48),H,I.tok _,⟨_,rfl⟩,q⟩
theorem J4S {x : Str} {l : List Nat} {pos : Pos} (hg : Gl X x) (hm : ∃ t,X.mg x = some (.str ⟨l.toArray⟩ t)) (hd : (x == ("__debug__" : Str)) = false := by decide) : PE X (.Name x pos) (tC (T l)) := by
 obtain ⟨t,hm⟩ := hm
 exact Jbb hg hm ⟨t,rfl⟩ hd
theorem Jdh {x : Str} {n : Int} {pos : Pos} (hg : Gl X x) (hm : ∃ t,X.mg x = some (.int n t)) (hd : (x == ("__debug__" : Str)) = false := by decide) : PE X (.Name x pos) (tC (.int n)) := by
 obtain ⟨t,hm⟩ := hm
 exact Jbb hg hm ⟨t,rfl⟩ hd
end
end L2
set_option linter.all false
set_option maxRecDepth 100000
set_option maxHeartbeats 4000000
namespace L2
open PySem PySem.Spec PyProof.Rows
section
variable {X : Cx}
theorem J8x : ∀ ws : List (List Nat),(ws.map T).all J0l = true
 | [] => rfl
 | _ :: r => by rw [List.map_cons,List.all_cons,J8x r]; rfl
theorem Jfb (a b : List Nat) : eqV (T a) (T b) = decide (a = b) := by
 by_cases h : a = b
 ·subst h
  rw [decide_eq_true rfl]
  exact decide_eq_true rfl
 ·rw [decide_eq_false h]
  exact decide_eq_false fun z => h (J1V (congrArg V.str z))
noncomputable def JeY : V → List V → Hp → VK → Prop := fun x vs H Q => ∃ (l : Addr) (ws : List (List Nat)) (wd : List Nat) (k : Nat),x = .ref l ∧ vs = [T wd] ∧ H l = some (.lst (ws.map T)) ∧ ws[k]? = some wd ∧ (∀ j < k,¬ ws[j]? = some wd) ∧ Q (.int (k : Nat)) H
theorem J9w : MtM X "list.index" JeY := by
 intro pins s σ H x vs v us Q I rx rv h
 obtain ⟨l,ws,wd,k,rfl,rfl,hH,hk,hno,q⟩ := h
 cases rx
 obtain ⟨u,rfl,ru⟩ := rv.one
 obtain ⟨z,its,n,r,hl,e⟩ := I.lstM hH
 have hkl := (List.getElem?_eq_some_iff.mp hk).1
 have hrl := r.length
 rw [List.length_map] at hrl z
 have hjs : k < its.toArray.size := by rw [List.size_toArray]; omega
 have at_ : ∀ (m : Nat) (hm : m < its.toArray.size) (y : List Nat),ws[m]? = some y → eqU (T wd) its.toArray[m] = decide (y = wd) := fun m hm y hy => by
  have hy' : (ws.map T)[m]? = some (T y) := by rw [List.getElem?_map,hy]; rfl
  obtain ⟨u',hu',ru'⟩ := r.get hy'
  have e1 : its.toArray[m] = u' := by
   have : its[m]? = some its[m] := List.getElem?_eq_getElem (by simpa using hm)
   rw [this] at hu'
   exact Option.some.inj hu'
  rw [e1,JaE ru' rfl,Jfb]
 have big : sizeLine < 2 ^ 62 := by decide
 refine call_meets F.slot_list_index ⟨_,e,rfl⟩ F.entry_list_index (F.args_list_index_2 _ _)
  (SeqAt.list_indexAt l its.toArray n none #[] u (eqU (T wd)) k hjs (by omega) ?_ (fun m hm hmk => ?_)) ⟨e,fun y hy => J4W ru rfl r (J8x ws) y (by simpa using hy),?_⟩
 ·rw [at_ k hjs wd hk]
  exact decide_eq_true rfl
 ·have hm' : m < ws.length := by omega
  rw [at_ m hm ws[m] (List.getElem?_eq_getElem hm')]
  exact decide_eq_false fun y => hno m hmk (by rw [List.getElem?_eq_getElem hm',y])
 ·exact ⟨.int (k : Nat),H,I.tok _,⟨_,rfl⟩,q⟩
end
end L2
set_option linter.all false
set_option maxRecDepth 100000
set_option maxHeartbeats 4000000
namespace L2
open PySem PySem.Spec PyProof.Rows
section
variable {X : Cx} {K : PySem.W.Frag} {pins : List (Addr × Obj)} {σ : St} {H : Hp} {s : Shared} {A : Around}
noncomputable def JcR (K : PySem.W.Frag) (H : Hp) (x y : V) : Prop := ∃ p r xs ys,x = .ref p ∧ y = .ref r ∧ SqL K H p xs ∧ SqL K H r ys ∧ J4t K H xs ys
noncomputable def J8A (K : PySem.W.Frag) (H : Hp) (xs ys : List V) : Prop := xs.length = ys.length ∧ ∀ (j : Nat) (x y : V),xs[j]? = some x → ys[j]? = some y → JcR K H x y
theorem J9I {x y : V} {u v : Value} (I : Inv X pins σ H s) (h : JcR X.K H x y) (r1 : RelV x u) (r2 : RelV y v) (hu : A.units + 1 < cLine) : SeqAt.EqAt A s u v true := by
 obtain ⟨p,r,xs,ys,rfl,rfl,hp,hr,hal⟩ := h
 cases r1; cases r2
 by_cases e : p = r
 ·subst e
  exact SeqAt.EqAt.same _
 ·obtain ⟨ia,ra,pa,za⟩ := I.list hp
  obtain ⟨ib,rb,pb,zb⟩ := I.list hr
  have la := ra.length
  have lb := rb.length
  have := hal.1
  have q := SeqAt.RcAt.lists (A := A) (e := fun _ => true) pa.isList pb.isList (by simp; omega) (Nat.lt_of_succ_lt hu) (JbW I hal ra rb (by first | exact hu | exact Nat.lt_of_succ_lt hu))
  rw [J9Q] at q
  exact SeqAt.EqAt.of_refs e q
theorem JaJ {xs ys : List V} {ia ib : List Value} (I : Inv X pins σ H s) (h : J8A X.K H xs ys) (ra : Vals xs ia) (rb : Vals ys ib) (hu : A.units + 1 < cLine) :
  ∀ j (h1 : j < ia.toArray.size) (h2 : j < ib.toArray.size),SeqAt.EqAt A s ia.toArray[j] ib.toArray[j] true := by
 intro j h1 h2
 have la := ra.length
 have lb := rb.length
 have g1 : j < ia.length := by simpa using h1
 have g2 : j < ib.length := by simpa using h2
 have k1 := ra.rel j (by omega) g1
 have k2 := rb.rel j (by omega) g2
 have q := J9I (A := A) I (h.2 j _ _ (List.getElem?_eq_getElem (by omega)) (List.getElem?_eq_getElem (by omega))) k1 k2 hu
 simpa using q
noncomputable def rAlL (K : PySem.W.Frag) : R2 := fun x y H Q => ∃ p r xs ys,x = .ref p ∧ y = .ref r ∧ SqL K H p xs ∧ SqL K H r ys ∧ J8A K H xs ys ∧ Q (.bl true) H
theorem JcO (h : X.K = K) (hu : X.A.units + 2 < cLine) : OpR X (compareOp .Eq) (rAlL K) := by
 subst h
 intro pins s σ H x y v u Q I rx ry h
 obtain ⟨p,r,xs,ys,rfl,rfl,hp,hr,hal,q⟩ := h
 cases rx; cases ry
 obtain ⟨ia,ra,pa,za⟩ := I.list hp
 obtain ⟨ib,rb,pb,zb⟩ := I.list hr
 have la := ra.length
 have lb := rb.length
 have := hal.1
 refine SeqAt.eq_listAt (e := fun _ => true) pa.isList pb.isList (by simp; omega) (Nat.lt_of_succ_lt (Nat.lt_of_succ_lt hu)) (JaJ I hal ra rb (by first | exact hu | exact Nat.lt_of_succ_lt hu)) ⟨.bl _,H,I,rfl,?_⟩
 rw [J9Q]
 exact q
end
end L2
namespace L2
open PySem
theorem Jfv {A : Around} {k : Nat} (hr : Room k A) : A.units + 2 < cLine := Nat.lt_of_le_of_lt (Nat.add_le_add_left (by decide : 2 ≤ 64) _) hr.units
end L2
set_option maxHeartbeats 4000000
namespace K35
open PySem L2
noncomputable def top (i : Nat) : Stmt := PySem.Challenge.pw_rotafair_k35_whole_faults_in_order.main.body.getD i (.Pass ⟨0,0,0,0⟩)
noncomputable abbrev J5d : Stmt := top 6
noncomputable abbrev J1B : Stmt := top 7
noncomputable abbrev J2V : Stmt := top 8
noncomputable abbrev J0M : Stmt := top 9
noncomputable abbrev J1I : Stmt := J0K (top 13) 0
noncomputable abbrev J1r : Stmt := J0K (top 13) 2
noncomputable abbrev J29 : Stmt := J0K (top 14) 0
noncomputable abbrev J2s : Stmt := J0K (top 14) 2
noncomputable abbrev J1C : Stmt := J0K (top 15) 0
noncomputable abbrev J25 : Stmt := J0K (top 15) 2
noncomputable abbrev J27 : Stmt := J0K (top 16) 0
noncomputable abbrev J1h : Stmt := J0K (top 17) 0
noncomputable abbrev J2x : Stmt := J0K (top 18) 0
noncomputable abbrev J2u : Stmt := J0K (top 16) 2
noncomputable abbrev J1D : Stmt := J0K (top 17) 2
noncomputable abbrev J2P : Stmt := J0K (top 18) 2
noncomputable abbrev J2r : Stmt := top 49
noncomputable abbrev J2e : Stmt := top 46
noncomputable abbrev J2O : Stmt := top 47
noncomputable abbrev J2f : Stmt := top 48
noncomputable abbrev J0T : Stmt := top 43
noncomputable abbrev J2t : Stmt := top 45
noncomputable abbrev J1H : Stmt := top 44
noncomputable abbrev J1E : Stmt := top 42
noncomputable abbrev J2a : Stmt := top 41
noncomputable abbrev J1X : Stmt := top 20
noncomputable abbrev J1k : Stmt := J0K (top 22) 0
noncomputable abbrev J1z : Stmt := J0K (top 23) 0
noncomputable abbrev J1M : Stmt := J0K (top 23) 1
noncomputable abbrev J1w : Stmt := top 24
noncomputable abbrev J0u : Stmt := J0K (top 23) 3
noncomputable abbrev J2w : Stmt := top 27
noncomputable abbrev J0w : Stmt := top 28
noncomputable abbrev J0y : Stmt := top 29
noncomputable abbrev J0S : Stmt := top 30
noncomputable abbrev J1d : Stmt := top 31
noncomputable abbrev J0e : Stmt := J0K (top 23) 4
noncomputable abbrev J0O : Stmt := top 32
noncomputable abbrev J1a : Stmt := top 34
noncomputable abbrev J1g : Stmt := top 33
noncomputable abbrev J3d : Stmt := top 26
noncomputable abbrev J1i : Stmt := top 51
noncomputable abbrev J1K : Stmt := top 52
noncomputable abbrev J1s : Stmt := top 53
noncomputable abbrev J20 : Stmt := top 54
noncomputable abbrev J21 : Stmt := top 62
noncomputable abbrev J1Z : Stmt := top 56
noncomputable abbrev J24 : Stmt := top 55
noncomputable abbrev J0t : Stmt := top 57
noncomputable abbrev J1W : Stmt := top 58
noncomputable abbrev J2v : Stmt := top 60
noncomputable abbrev J11 : Stmt := top 59
noncomputable abbrev J1q : Stmt := top 61
noncomputable abbrev J0h : Stmt := top 66
noncomputable abbrev J1e : Stmt := top 63
noncomputable abbrev JY : Stmt := top 64
noncomputable abbrev J03 : Stmt := top 65
noncomputable abbrev J0g : Stmt := top 67
noncomputable abbrev J22 : Stmt := top 68
noncomputable abbrev J14 : Stmt := top 69
noncomputable abbrev J3J : Stmt := top 70
theorem JdM : Jr ["sign","mark"] ["sign","mark"] (J4 J5d) := ⟨rfl,rfl,rfl,by decide +kernel,rfl,by decide +kernel,by decide +kernel⟩
theorem J7o : Jr ["marks","many"] ["marks","many"] (J4 J1B) := ⟨rfl,rfl,rfl,by decide +kernel,rfl,by decide +kernel,by decide +kernel⟩
theorem Jbx : Jr ["signs","mark"] ["signs","mark"] (J4 J2V) := ⟨rfl,rfl,rfl,by decide +kernel,rfl,by decide +kernel,by decide +kernel⟩
theorem J6p : Jr ["signs","marks"] ["signs","marks"] (J4 J0M) := ⟨rfl,rfl,rfl,by decide +kernel,rfl,by decide +kernel,by decide +kernel⟩
theorem J7s : Jr ["self","word"] ["self","word"] (J4 J1I) := ⟨rfl,rfl,rfl,by decide +kernel,rfl,by decide +kernel,by decide +kernel⟩
theorem J4K : Jr ["self","marks","nearest"] ["self","marks"] (J4 J1r) := ⟨rfl,rfl,rfl,by decide +kernel,rfl,by decide +kernel,by decide +kernel⟩
theorem J8h : Jr ["self","many","marks","days"] ["self","many","marks","days"] (J4 J29) := ⟨rfl,rfl,rfl,by decide +kernel,rfl,by decide +kernel,by decide +kernel⟩
theorem J9p : Jr ["self","marks"] ["self","marks"] (J4 J2s) := ⟨rfl,rfl,rfl,by decide +kernel,rfl,by decide +kernel,by decide +kernel⟩
theorem J7e : Jr ["self","many","marks","days"] ["self","many","marks","days"] (J4 J1C) := ⟨rfl,rfl,rfl,by decide +kernel,rfl,by decide +kernel,by decide +kernel⟩
theorem J8d : Jr ["self","marks"] ["self","marks"] (J4 J25) := ⟨rfl,rfl,rfl,by decide +kernel,rfl,by decide +kernel,by decide +kernel⟩
theorem J8i : Jr ["self","left","right"] ["self","left","right"] (J4 J27) := ⟨rfl,rfl,rfl,by decide +kernel,rfl,by decide +kernel,by decide +kernel⟩
theorem J6C : Jr ["self","left","right"] ["self","left","right"] (J4 J1h) := ⟨rfl,rfl,rfl,by decide +kernel,rfl,by decide +kernel,by decide +kernel⟩
theorem J99 : Jr ["self","inner"] ["self","inner"] (J4 J2x) := ⟨rfl,rfl,rfl,by decide +kernel,rfl,by decide +kernel,by decide +kernel⟩
theorem J9q : Jr ["self","marks"] ["self","marks"] (J4 J2u) := ⟨rfl,rfl,rfl,by decide +kernel,rfl,by decide +kernel,by decide +kernel⟩
theorem J7m : Jr ["self","marks"] ["self","marks"] (J4 J1D) := ⟨rfl,rfl,rfl,by decide +kernel,rfl,by decide +kernel,by decide +kernel⟩
theorem Jaf : Jr ["self","marks"] ["self","marks"] (J4 J2P) := ⟨rfl,rfl,rfl,by decide +kernel,rfl,by decide +kernel,by decide +kernel⟩
theorem Ja4 : Jr ["word","signs"] ["word","signs"] (J4 J2r) := ⟨rfl,rfl,rfl,by decide +kernel,rfl,by decide +kernel,by decide +kernel⟩
theorem J7X : Jr ["word","figures"] ["word","figures"] (J4 J2e) := ⟨rfl,rfl,rfl,by decide +kernel,rfl,by decide +kernel,by decide +kernel⟩
theorem Jai : Jr ["word"] ["word"] (J4 J2O) := ⟨rfl,rfl,rfl,by decide +kernel,rfl,by decide +kernel,by decide +kernel⟩
theorem J8j : Jr ["word"] ["word"] (J4 J2f) := ⟨rfl,rfl,rfl,by decide +kernel,rfl,by decide +kernel,by decide +kernel⟩
theorem J0j : Jr ["words","wanted","found","height","place","word"] ["words","wanted"] (J4 J0T) := ⟨rfl,rfl,rfl,by decide +kernel,rfl,by decide +kernel,by decide +kernel⟩
theorem J8Y : Jr ["words","first"] ["words","first"] (J4 J2t) := ⟨rfl,rfl,rfl,by decide +kernel,rfl,by decide +kernel,by decide +kernel⟩
theorem J7b : Jr ["words"] ["words"] (J4 J1H) := ⟨rfl,rfl,rfl,by decide +kernel,rfl,by decide +kernel,by decide +kernel⟩
theorem J2A : Jr ["words","place"] ["words"] (J4 J1E) := ⟨rfl,rfl,rfl,by decide +kernel,rfl,by decide +kernel,by decide +kernel⟩
theorem J4D : Jr ["text","words"] ["text"] (J4 J2a) := ⟨rfl,rfl,rfl,by decide +kernel,rfl,by decide +kernel,by decide +kernel⟩
theorem J96 : Jr ["rule","past","row"] ["rule","past","row"] (J4 J1X) := ⟨rfl,rfl,rfl,by decide +kernel,rfl,by decide +kernel,by decide +kernel⟩
theorem J6u : Jr ["self","name","skills","most","carried","past"] ["self","name","skills","most","carried","past"] (J4 J1k) := ⟨rfl,rfl,rfl,by decide +kernel,rfl,by decide +kernel,by decide +kernel⟩
theorem J7u : Jr ["self","days","kinds","needs","persons","leave","wishes","rules","pairs"] ["self","days","kinds","needs","persons","leave","wishes","rules","pairs"] (J4 J1z) := ⟨rfl,rfl,rfl,by decide +kernel,rfl,by decide +kernel,by decide +kernel⟩
theorem J1S : Jr ["self","day","kind","need_day","need_kind","least","most"] ["self","day","kind"] (J4 J1M) := ⟨rfl,rfl,rfl,by decide +kernel,rfl,by decide +kernel,by decide +kernel⟩
theorem J84 : Jr ["marks"] ["marks"] (J4 J1w) := ⟨rfl,rfl,rfl,by decide +kernel,rfl,by decide +kernel,by decide +kernel⟩
theorem J2k : Jr ["self","name","p","person"] ["self","name"] (J4 J0u) := ⟨rfl,rfl,rfl,by decide +kernel,rfl,by decide +kernel,by decide +kernel⟩
theorem Jah : Jr ["house","rota","day"] ["house","rota","day"] (J4 J2w) := ⟨rfl,rfl,rfl,by decide +kernel,rfl,by decide +kernel,by decide +kernel⟩
theorem J3C : Jr ["house","rota","day","having"] ["house","rota","day"] (J4 J0w) := ⟨rfl,rfl,rfl,by decide +kernel,rfl,by decide +kernel,by decide +kernel⟩
theorem J3D : Jr ["house","rota","day","having"] ["house","rota","day"] (J4 J0y) := ⟨rfl,rfl,rfl,by decide +kernel,rfl,by decide +kernel,by decide +kernel⟩
theorem J1t : Jr ["house","rota","day","found","kind","need","many"] ["house","rota","day"] (J4 J0S) := ⟨rfl,rfl,rfl,by decide +kernel,rfl,by decide +kernel,by decide +kernel⟩
theorem J1n : Jr ["house","rota","day","found","person","row","many"] ["house","rota","day"] (J4 J1d) := ⟨rfl,rfl,rfl,by decide +kernel,rfl,by decide +kernel,by decide +kernel⟩
theorem J2W : Jr ["self","p","names"] ["self","p"] (J4 J0e) := ⟨rfl,rfl,rfl,by decide +kernel,rfl,by decide +kernel,by decide +kernel⟩
theorem J0x : Jr ["house","rota","day","found","p","person","marks","bound"] ["house","rota","day"] (J4 J0O) := ⟨rfl,rfl,rfl,by decide +kernel,rfl,by decide +kernel,by decide +kernel⟩
theorem J6j : Jr ["word","mark","other"] ["word","mark","other"] (J4 J1a) := ⟨rfl,rfl,rfl,by decide +kernel,rfl,by decide +kernel,by decide +kernel⟩
theorem J0W : Jr ["house","rota","day","found","number","pair","mark","other"] ["house","rota","day"] (J4 J1g) := ⟨rfl,rfl,rfl,by decide +kernel,rfl,by decide +kernel,by decide +kernel⟩
theorem J1A : Jr ["house","rota","found","day"] ["house","rota"] (J4 J3d) := ⟨rfl,rfl,rfl,by decide +kernel,rfl,by decide +kernel,by decide +kernel⟩
theorem J6z : Jr ["_law_script","_law_k"] ["_law_script","_law_k"] (J4 J1i) := ⟨rfl,rfl,rfl,by decide +kernel,rfl,by decide +kernel,by decide +kernel⟩
theorem J0N : Jr ["_law_cell","_law_many","_law_found","_law_digits","_law_number","_law_k"] ["_law_cell","_law_many"] (J4 J1K) := ⟨rfl,rfl,rfl,by decide +kernel,rfl,by decide +kernel,by decide +kernel⟩
theorem J3q : Jr ["_law_cell","_law_some_here","_law_many"] ["_law_cell"] (J4 J1s) := ⟨rfl,rfl,rfl,by decide +kernel,rfl,by decide +kernel,by decide +kernel⟩
theorem J2E : Jr ["_law_cell","_law_p","_law_some_here","_law_body","_law_at","_law_name_here"] ["_law_cell","_law_p"] (J4 J20) := ⟨rfl,rfl,rfl,by decide +kernel,rfl,by decide +kernel,by decide +kernel⟩
theorem J2F : Jr ["_law_cell","_law_many","_law_days","_law_marks","_law_numbers","_law_rota_here","_law_p","_law_row"] ["_law_cell","_law_many","_law_days","_law_marks"] (J4 J21) := ⟨rfl,rfl,rfl,by decide +kernel,rfl,by decide +kernel,by decide +kernel⟩
theorem J5N : Jr ["_law_signs","_law_number","_law_found"] ["_law_signs","_law_number"] (J4 J1Z) := ⟨rfl,rfl,rfl,by decide +kernel,rfl,by decide +kernel,by decide +kernel⟩
theorem J13 : Jr ["_law_cell","_law_days","_law_kinds_here","_law_found","_law_numbers","_law_day","_law_k","_law_number","_law_most"] ["_law_cell","_law_days","_law_kinds_here"] (J4 J24) := ⟨rfl,rfl,rfl,by decide +kernel,rfl,by decide +kernel,by decide +kernel⟩
theorem J0d : Jr ["_law_number","_law_signs","_law_one","_law_two","_law_marks","_law_words"] ["_law_number"] (J4 J0t) := ⟨rfl,rfl,rfl,by decide +kernel,rfl,by decide +kernel,by decide +kernel⟩
theorem J32 : Jr ["_law_cell","_law_one","_law_two","_law_both"] ["_law_cell"] (J4 J1W) := ⟨rfl,rfl,rfl,by decide +kernel,rfl,by decide +kernel,by decide +kernel⟩
theorem J3K : Jr ["_law_name_here","_law_cell","_law_days","_law_kinds_here","_law_marks"] ["_law_name_here","_law_cell","_law_days","_law_kinds_here"] (J4 J2v) := ⟨rfl,rfl,rfl,by decide +kernel,rfl,by decide +kernel,by decide +kernel⟩
theorem J0s : Jr ["_law_script","_law_p","_law_kinds_here","_law_cell","_law_numbers","_law_marks","_law_past","_law_carried","_law_skills"] ["_law_script","_law_p","_law_kinds_here"] (J4 J11) := ⟨rfl,rfl,rfl,by decide +kernel,rfl,by decide +kernel,by decide +kernel⟩
theorem JR : Jr ["_law_script","_law_days","_law_kinds_here","_law_needs_here","_law_many","_law_persons","_law_leave","_law_wishes","_law_rules","_law_pairs","_law_cell","_law_name_here","_law_other"] ["_law_script"] (J4 J1q) := ⟨rfl,rfl,rfl,by decide +kernel,rfl,by decide +kernel,by decide +kernel⟩
theorem JA : Jr ["_law_parts_here","_law_read","_law_rota_here","_law_days","_law_kinds_here","_law_needs_here","_law_persons","_law_leave","_law_wishes","_law_rules","_law_pairs","_law_found","_law_person_here","_law_row","_law_k","_law_day"] ["_law_parts_here","_law_read","_law_rota_here"] (J4 J0h) := ⟨rfl,rfl,rfl,by decide +kernel,rfl,by decide +kernel,by decide +kernel⟩
theorem J1o : Jr ["_law_needs_here","_law_day","_law_kind","_law_at","_law_sort","_law_least","_law_most"] ["_law_needs_here","_law_day","_law_kind"] (J4 J1e) := ⟨rfl,rfl,rfl,by decide +kernel,rfl,by decide +kernel,by decide +kernel⟩
theorem JG : Jr ["_law_day","_law_row","_law_person_here","_law_leave","_law_name_here","_law_skills","_law_most","_law_carried","_law_past","_law_skill","_law_away","_law_beyond","_law_many"] ["_law_day","_law_row","_law_person_here","_law_leave"] (J4 JY) := ⟨rfl,rfl,rfl,by decide +kernel,rfl,by decide +kernel,by decide +kernel⟩
theorem Jj : Jr ["_law_day","_law_parts_here","_law_rota_here","_law_days","_law_kinds_here","_law_needs_here","_law_persons","_law_leave","_law_wishes","_law_rules","_law_pairs","_law_skill","_law_away","_law_beyond","_law_person_here","_law_row","_law_one","_law_two","_law_three","_law_short","_law_kind","_law_many","_law_least","_law_most"] ["_law_day","_law_parts_here","_law_rota_here"] (J4 J03) := ⟨rfl,rfl,rfl,by decide +kernel,rfl,by decide +kernel,by decide +kernel⟩
theorem JQ : Jr ["_law_day","_law_parts_here","_law_rota_here","_law_names","_law_found","_law_k","_law_word","_law_name_here","_law_other","_law_one","_law_two"] ["_law_day","_law_parts_here","_law_rota_here"] (J4 J0g) := ⟨rfl,rfl,rfl,by decide +kernel,rfl,by decide +kernel,by decide +kernel⟩
theorem J3N : Jr ["_law_found","_law_due","_law_one","_law_other"] ["_law_found","_law_due"] (J4 J22) := ⟨rfl,rfl,rfl,by decide +kernel,rfl,by decide +kernel,by decide +kernel⟩
theorem JF : Jr ["_law_script","_law_parts_here","_law_days","_law_kinds_here","_law_needs_here","_law_persons","_law_leave","_law_wishes","_law_rules","_law_pairs","_law_cell","_law_marks","_law_rota_here","_law_some_here","_law_read","_law_bound","_law_by_rules","_law_due","_law_day"] ["_law_script"] (J4 J14) := ⟨rfl,rfl,rfl,by decide +kernel,rfl,by decide +kernel,by decide +kernel⟩
theorem J3r : Jr ["_law_script","_law_house","_law_rota_here","_law_due","_law_other","_law_rows","_law_less","_law_handed","_law_kept"] ["_law_script"] (J4 J3J) := ⟨rfl,rfl,rfl,by decide +kernel,rfl,by decide +kernel,by decide +kernel⟩
structure Tx (K : PySem.W.Frag) (mg : Str → Option Value) (Jb Jf Ja Jh J8 Jn J5 J3 : Addr) : Prop where
 JeL : GF K mg "fits" J5d
 J8f : GF K mg "last_marks" J1B
 Jcm : GF K mg "let_by" J2V
 J7k : GF K mg "count_among" J0M
 J8s : MF K Jb "__init__" "Never.__init__" J1I
 J91 : MF K Jb "bad" "Never.bad" J1r
 J90 : MF K Jf "__init__" "Most.__init__" J29
 Ja3 : MF K Jf "bad" "Most.bad" J2s
 J8p : MF K Ja "__init__" "Least.__init__" J1C
 J9j : MF K Ja "bad" "Least.bad" J25
 J9k : MF K Jh "__init__" "Both.__init__" J27
 J7d : MF K J8 "__init__" "Either.__init__" J1h
 Jan : MF K Jn "__init__" "Not.__init__" J2x
 Ja5 : MF K Jh "bad" "Both.bad" J2u
 J7U : MF K J8 "bad" "Either.bad" J1D
 Jby : MF K Jn "bad" "Not.bad" J2P
 JbD : GF K mg "made_of" J2r
 J9b : GF K mg "is_figure" J2e
 JbF : GF K mg "is_word" J2O
 J9a : GF K mg "are_marks" J2f
 J6l : GF K mg "last_outside" J0T
 Ja7 : GF K mg "is_count" J2t
 J7V : GF K mg "read_plain" J1H
 J4E : GF K mg "read_words" J1E
 J93 : GF K mg "read_rule" J2a
 Jac : GF K mg "bad_days" J1X
 J7g : MF K J5 "__init__" "Person.__init__" J1k
 J8n : MF K J3 "__init__" "House.__init__" J1z
 J88 : MF K J3 "need" "House.need" J1M
 J9r : GF K mg "duties_in" J1w
 J5h : MF K J3 "place_of" "House.place_of" J0u
 JbA : GF K mg "on_duty" J2w
 J6v : GF K mg "skill_faults" J0w
 J6g : GF K mg "leave_faults" J0y
 J7p : GF K mg "need_faults" J0S
 J7f : GF K mg "most_faults" J1d
 J4A : MF K J3 "rules_for" "House.rules_for" J0e
 J7t : GF K mg "rule_faults" J0O
 J7q : GF K mg "breaks_pair" J1a
 J7r : GF K mg "pair_faults" J1g
 Jcz : GF K mg "faults" J3d
 J7i : GF K mg "_law_cell_at" J1i
 J7T : GF K mg "_law_stream" J1K
 J8Z : GF K mg "_law_kinds" J1s
 Jag : GF K mg "_law_name" J20
 Jal : GF K mg "_law_rota" J21
 Jak : GF K mg "_law_some" J1Z
 J8T : GF K mg "_law_needs" J24
 J5l : GF K mg "_law_plain_rule" J0t
 Ja0 : GF K mg "_law_rule" J1W
 J9X : GF K mg "_law_wish" J2v
 J87 : GF K mg "_law_person" J11
 J8U : GF K mg "_law_parts" J1q
 J4z : GF K mg "_law_rule_faults" J0h
 J77 : GF K mg "_law_need_by" J1e
 J45 : GF K mg "_law_person_faults" JY
 J4p : GF K mg "_law_plain_faults" J03
 J4J : GF K mg "_law_pair_faults" J0g
 J9Y : GF K mg "_law_same" J22
 Ja9 : GF K mg "_law_case" J14
 Jgb : GF K mg "law" J3J
 J3s : CF K mg "Never" Jb
 J3t : CF K mg "Most" Jf
 J2B : CF K mg "Least" Ja
 J4n : CF K mg "Both" Jh
 J2T : CF K mg "Either" J8
 J8X : CF K mg "Not" Jn
 J0U : CF K mg "Person" J5
 J0f : CF K mg "House" J3
 J26 : J04 K Jh "left"
 J1F : J04 K Jh "right"
 J1b : J04 K J8 "left"
 J0V : J04 K J8 "right"
 J1G : J04 K J3 "days"
 J19 : J04 K J3 "kinds"
 J0R : J04 K J3 "needs"
 J02 : J04 K J3 "persons"
 J0P : J04 K J3 "leave"
 J1v : J04 K J3 "wishes"
 J1j : J04 K J3 "rules"
 J0Q : J04 K J3 "pairs"
 J1L : J04 K Ja "many"
 J18 : J04 K Ja "marks"
 J10 : J04 K Ja "days"
 J2c : J04 K Jf "many"
 J1J : J04 K Jf "marks"
 J2b : J04 K Jf "days"
 J0G : J04 K Jb "word"
 J28 : J04 K Jn "inner"
 J00 : J04 K J5 "name"
 J0F : J04 K J5 "skills"
 J1c : J04 K J5 "most"
 J0X : J04 K J5 "carried"
 J1f : J04 K J5 "past"
 J7A : mg "all" = none
 J7x : mg "any" = none
 J6h : mg "bool" = none
 J0H : mg "enumerate" = none
 J5P : mg "int" = none
 J12 : mg "isinstance" = none
 J05 : mg "len" = none
 J1Y : mg "list" = none
 J9n : mg "max" = none
 J0m : mg "range" = none
 J98 : mg "set" = none
 J7y : mg "str" = none
 J4M : mg "tuple" = none
 J4L : mg "zip" = none
 J2o : ∃ t,mg "MOST_WORDS" = some (.int 60 t)
 J1p : ∃ t,mg "DAYS_FIGURES" = some (.str ⟨[49,50,51,52,53,54,55].toArray⟩ t)
 J1u : ∃ t,mg "MANY_FIGURES" = some (.str ⟨[48,49,50,51,52,53,54,55].toArray⟩ t)
 J2l : ∃ t,mg "MARK_SIGNS" = some (.str ⟨[65,66,67,68,69,70,71,72,73,74,75,76,77,78,79,80,81,82,83,84,85,86,87,88,89,90,45,35].toArray⟩ t)
 J2m : ∃ t,mg "WORD_SIGNS" = some (.str ⟨[65,66,67,68,69,70,71,72,73,74,75,76,77,78,79,80,81,82,83,84,85,86,87,88,89,90,45,35,63].toArray⟩ t)
theorem J5C {n : Nat} (h : n ≤ 1000) : n ≤ sizeLine := Nat.le_trans h (by decide)
theorem J3S {α : Type} (l : List α) (k : Int) (h0 : 0 ≤ k) : cutN l (some k) none = l.drop k.toNat := by
 unfold cutN
 have e : HT.sIx l.length 0 (some k) = min k.toNat l.length := by
  show (if k < 0 then _ else min k.toNat l.length) = _
  rw [if_neg (by omega)]
 rw [e,HT.sIx_none]
 by_cases h : k.toNat ≤ l.length
 ·rw [Nat.min_eq_left h]
  exact List.take_of_length_le (by rw [List.length_drop]; omega)
 ·rw [Nat.min_eq_right (by omega),List.drop_eq_nil_of_le (Nat.le_refl _),List.drop_eq_nil_of_le (by omega),List.take_nil]
theorem J4u {α : Type} (l : List α) (k : Int) (h0 : 0 ≤ k) : cutN l none (some k) = l.take k.toNat := by
 unfold cutN
 have e : HT.sIx l.length l.length (some k) = min k.toNat l.length := by
  show (if k < 0 then _ else min k.toNat l.length) = _
  rw [if_neg (by omega)]
 rw [e,HT.sIx_none,List.drop_zero,Nat.sub_zero]
 by_cases h : k.toNat ≤ l.length
 ·rw [Nat.min_eq_left h]
 ·rw [Nat.min_eq_right (by omega),List.take_of_length_le (Nat.le_refl _),List.take_of_length_le (by omega)]
theorem J2M {α : Type} (l : List α) (lo hi : Option Int) : (cutN l lo hi).length ≤ l.length := by
 unfold cutN
 rw [List.length_take,List.length_drop]
 omega
theorem J2C {α : Type} (l : List α) (i : Int) (h0 : 0 ≤ i) (h : i < l.length) : ∃ c,atI l i = some c ∧ l[i.toNat]? = some c := by
 have hi : i.toNat < l.length := by omega
 have e : i = ((i.toNat : Nat) : Int) := by omega
 have q : atI l ((i.toNat : Nat) : Int) = some l[i.toNat] := J15 (by simp [hi])
 rw [← e] at q
 exact ⟨l[i.toNat],q,List.getElem?_eq_getElem hi⟩
theorem J5s (ns : List Int) (i : Int) (h0 : 0 ≤ i) (h : i < ns.length) : ∃ z,atI (ns.map V.int) i = some (.int z) ∧ ns[i.toNat]? = some z := by
 obtain ⟨c,h1,h2⟩ := J2C (ns.map V.int) i h0 (by rw [List.length_map]; exact h)
 rw [List.getElem?_map] at h2
 cases hz : ns[i.toNat]? with
 | none => rw [hz] at h2; cases h2
 | some z =>
  rw [hz] at h2
  have e : c = .int z := (Option.some.inj h2).symm
  subst e
  exact ⟨z,h1,rfl⟩
theorem J6K {ys : List V} (h : ∀ y ∈ ys,∃ c,y = T [c]) : ∃ cs : List Nat,ys = (cs.map fun c => [c]).map T ∧ cs.length = ys.length := by
 induction ys with
 | nil => exact ⟨[],rfl,rfl⟩
 | cons y r ih =>
  obtain ⟨c,rfl⟩ := h y List.mem_cons_self
  obtain ⟨cs,e,hl⟩ := ih fun z hz => h z (List.mem_cons_of_mem _ hz)
  exact ⟨c :: cs,by rw [e]; rfl,by simp [hl]⟩
noncomputable def J36 (x y : V) : Bool := if decide (x = T [63]) = true then true else if decide (x = T [35]) = true then !decide (y = T [45]) else decide (x = y)
noncomputable def JdI : Sp := fun vs H Q _ => ∃ a b,vs = [T a,T b] ∧ Q (.bl (J36 (T a) (T b))) H
noncomputable def JdQ : Sp := fun vs H Q _ => ∃ l n,vs = [T l,.int n] ∧ l.length ≤ 1000 ∧ 0 ≤ n ∧ Q (T (l.drop (l.length - n.toNat))) H
noncomputable def sp_law (K : PySem.W.Frag) : Sp := fun vs H Q _ => ∃ (a : Addr) (ns : List Int),vs = [.ref a] ∧ SqL K H a (ns.map V.int) ∧ ns.length ≤ 63 ∧ ∀ H',Q (.bl true) H'
theorem Jf6 {p : (Nat → Nat → St → Hp → Prop) → Prop} (h : ∃ W,p W) : ∃ W,p W := h
theorem Jet {p : (Nat → St → Hp → Prop) → Prop} (h : ∃ W,p W) : ∃ W,p W := h
theorem Jga {A B : Prop} (h : B) : if (!true) = true then A else B := h
theorem Jg5 {A B : Prop} (h : A) : if (!false) = true then A else B := h
theorem Jeh {i j : Int} (h1 : 0 < j) (h2 : j < 1073741824) : CDiv i j := ⟨h1,h2⟩
theorem JfV {i j : Int} (h1 : -(2 ^ 64) < i) (h2 : i < 2 ^ 64) : CMul i j := .inl ⟨h1,h2⟩
theorem JfX {i j : Int} (h1 : -(2 ^ 64) < j) (h2 : j < 2 ^ 64) : CMul i j := .inr ⟨h1,h2⟩
theorem Jf5 {n : Int} (h : 0 < n) : 0 < n := h
@[irreducible] def Here (p : Prop) : Prop := p
theorem Here.mk {p : Prop} (h : p) : Here p := by unfold Here; exact h
theorem Here.out {p : Prop} (h : Here p) : p := by unfold Here at h; exact h
theorem Jdf {i : Nat} {v : V} {σ σ' : St} {H : Hp} {Q : St → Hp → Prop} (e : σ.set i (some v) = σ') (h : Q σ' H) : J3e i v σ H Q := by subst e; exact h
theorem JcE {n : Nat} (h : n ≤ 100000) : n ≤ sizeLine := Nat.le_trans h (by decide)
theorem JcK {n : Nat} (h : n ≤ 100000) : n < sizeLine := Nat.lt_of_le_of_lt h (by decide)
local macro_rules | `(tactic| walk_at "len") => `(tactic| (simp only [List.length_append,List.length_cons,List.length_nil,List.length_singleton,List.length_take,List.length_drop,List.length_map,List.length_reverse,List.length_range] <;> omega))
local macro_rules | `(tactic| walk_at "st") => `(tactic| (try simp only [L2.start,List.map_cons,List.map_nil,List.length_cons,List.length_nil,Nat.reduceAdd,Nat.reduceSub,List.replicate_succ,List.replicate_zero,List.cons_append,List.nil_append]))
local macro_rules | `(tactic| walk_at "lk") => `(tactic| fail)
local macro_rules | `(tactic| walk_at "cl") => `(tactic| first
 | (with_reducible assumption) | rfl
 | (with_reducible show @LE.le Nat _ _ _; first | omega | (walk_at "len") | exact JcE (by omega) | exact JcE (by walk_at "len"))
 | (with_reducible show @LT.lt Nat _ _ _; first | omega | (walk_at "len") | exact JcK (by omega) | exact JcK (by walk_at "len"))
 | (with_reducible show @LE.le Int _ _ _; omega) | (with_reducible show @LT.lt Int _ _ _; omega)
 | ((with_reducible refine Jeh ?_ ?_) <;> omega) | ((with_reducible refine JfV ?_ ?_) <;> omega) | ((with_reducible refine JfX ?_ ?_) <;> omega) | ((with_reducible refine Jf5 ?_) <;> omega)
 | exact J7 | exact Ji (by with_reducible assumption) _ _ _ J7 | exact SqL.of (by with_reducible assumption) | exact SqL.of J7 | exact SqT.of J7 | exact SqT.of (by with_reducible assumption) | exact Or.inl (by with_reducible assumption) | exact Or.inl (SqL.of (by with_reducible assumption)) | exact Or.inl (SqL.of J7)
 | exact Or.inl ⟨rfl,_,SqL.of (by with_reducible assumption)⟩ | exact Or.inl ⟨rfl,_,SqL.of J7⟩ | exact Or.inl ⟨rfl,_,by with_reducible assumption⟩ | exact ⟨_,by with_reducible assumption⟩ | exact ⟨_,SqL.of (by with_reducible assumption)⟩ | exact ⟨_,SqL.of J7⟩
 | exact ⟨by omega,by omega⟩ | assumption | walk_at "lk")
local macro_rules | `(tactic| walk_at "rd1") => `(tactic| first
 | (with_reducible refine Jdf (by first | (simp only [List.set_cons_zero,List.set_cons_succ]; done) | (simp only [List.set_cons_zero,List.set_cons_succ]; rfl)) ?_)
 | (with_reducible refine iteT ?_) | (with_reducible refine iteF ?_) | (with_reducible refine Jga ?_) | (with_reducible refine Jg5 ?_)
 | ((fail_if_success apply Jf6); (fail_if_success apply Jet); apply Exists.intro)
 | (apply And.intro; (· walk_at "cl"))
 | (refine Or.inl ⟨_,rfl,?_⟩) | (refine Or.inr (Or.inl ⟨_,rfl,?_⟩)) | (refine Or.inr (Or.inr (Or.inl ⟨_,rfl,?_⟩))) | (refine Or.inr (Or.inr (Or.inr (Or.inl ⟨_,rfl,?_⟩)))) | (refine Or.inr (Or.inr (Or.inr (Or.inr ⟨_,_,rfl,by with_reducible assumption,?_⟩)))))
local macro_rules | `(tactic| walk_at "rd") => `(tactic| repeat (walk_at "rd1"))
noncomputable def letV (m : List Nat) (c : Nat) : Bool := (m.map fun s => J36 (T [s]) (T [c])).any id
noncomputable def cntV (m l : List Nat) : Nat := (l.filter (letV m)).length
noncomputable def JeB (n : Int) (m : List Nat) (d : Int) (l : List Nat) : Bool := decide (n < (cntV m (l.drop (l.length - d.toNat)) : Int))
noncomputable def J5t (n : Int) (m : List Nat) (d : Int) (l : List Nat) : Bool := if (l.length : Int) < d then false else decide ((cntV m (l.drop (l.length - d.toNat)) : Int) < n)
noncomputable def J7R (C : Addr) (H : Hp) (p : Addr) (n : Int) (m : List Nat) (d : Int) : Prop := ∃ dx,H p = some (.ins C dx [("many",.int n),("marks",T m),("days",.int d)])
theorem J7R.same {C : Addr} {H H' : Hp} {p : Addr} {n d : Int} {m : List Nat} (h : J7R C H p n m d) (s : Same H H') : J7R C H' p n m d := let ⟨dx,e⟩ := h; ⟨dx,s _ _ e⟩
theorem Jbr (x y z : V) : List.lookup ("many" : Str) [(("many" : Str),x),("marks",y),("days",z)] = some x := by rw [List.lookup_cons,beq_self_eq_true]
theorem J9H (x y z : V) : List.lookup ("marks" : Str) [(("many" : Str),x),("marks",y),("days",z)] = some y := by
 rw [List.lookup_cons,beq_eq_false_iff_ne.mpr (by decide +kernel),List.lookup_cons,beq_self_eq_true]
theorem J8O (x y z : V) : List.lookup ("days" : Str) [(("many" : Str),x),("marks",y),("days",z)] = some z := by
 rw [List.lookup_cons,beq_eq_false_iff_ne.mpr (by decide +kernel),List.lookup_cons,beq_eq_false_iff_ne.mpr (by decide +kernel),List.lookup_cons,beq_self_eq_true]
theorem put3 (n : Int) (m : List Nat) (d : Int) : putF "days" (.int d) (putF "marks" (T m) (putF "many" (.int n) [])) = ([("many",.int n),("marks",T m),("days",.int d)] : List (Str × V)) := by
 have h1 : ¬ (("many" : Str) = "marks") := by decide +kernel
 have h2 : ¬ (("many" : Str) = "days") := by decide +kernel
 have h3 : ¬ (("marks" : Str) = "days") := by decide +kernel
 simp [putF,h1,h2,h3]
noncomputable def JeI : Sp := fun vs H Q _ => ∃ m c,vs = [T m,T [c]] ∧ m.length ≤ 1000 ∧ ∀ H',Same H H' → Q (.bl (letV m c)) H'
noncomputable def Jcr : Sp := fun vs H Q _ => ∃ m l,vs = [T m,T l] ∧ m.length ≤ 1000 ∧ l.length ≤ 1000 ∧ ∀ H',Same H H' → Q (.int (cntV m l)) H'
noncomputable def J4F (C : Addr) : Sp := fun vs H Q _ => ∃ p dx n m d,vs = [.ref p,.int n,T m,.int d] ∧ H p = some (.ins C dx []) ∧ Q .non (upd (upd (upd H p (.ins C dx (putF "many" (.int n) []))) p (.ins C dx (putF "marks" (T m) (putF "many" (.int n) [])))) p (.ins C dx [("many",.int n),("marks",T m),("days",.int d)]))
noncomputable def Jb2 (C : Addr) (B : Int → List Nat → Int → List Nat → Bool) : Sp := fun vs H Q _ => ∃ p n m d l,vs = [.ref p,T l] ∧ J7R C H p n m d ∧ m.length ≤ 1000 ∧ 0 ≤ d ∧ l.length ≤ 1000 ∧ ∀ H',Same H H' → Q (.bl (B n m d l)) H'
noncomputable def nevB (w l : List Nat) : Bool := if l.length < w.length then false else ((w.zip (l.drop (l.length - w.length))).map fun p => J36 (T [p.1]) (T [p.2])).all id
noncomputable def J9F (C : Addr) (H : Hp) (p : Addr) (w : List Nat) : Prop := ∃ dx,H p = some (.ins C dx [("word",T w)])
theorem J9F.same {C : Addr} {H H' : Hp} {p : Addr} {w : List Nat} (h : J9F C H p w) (s : Same H H') : J9F C H' p w := let ⟨dx,e⟩ := h; ⟨dx,s _ _ e⟩
theorem wl (v : V) : List.lookup ("word" : Str) [(("word" : Str),v)] = some v := by rw [List.lookup_cons,beq_self_eq_true]
theorem Jbt (x y : V) : List.lookup ("left" : Str) [(("left" : Str),x),("right",y)] = some x := by rw [List.lookup_cons,beq_self_eq_true]
theorem J9O (x y : V) : List.lookup ("right" : Str) [(("left" : Str),x),("right",y)] = some y := by
 rw [List.lookup_cons,beq_eq_false_iff_ne.mpr (by decide +kernel),List.lookup_cons,beq_self_eq_true]
theorem Jdq (x : V) : List.lookup ("inner" : Str) [(("inner" : Str),x)] = some x := by rw [List.lookup_cons,beq_self_eq_true]
theorem put2 (x y : V) : putF "right" y (putF "left" x []) = ([("left",x),("right",y)] : List (Str × V)) := by
 have h1 : ¬ (("left" : Str) = "right") := by decide +kernel
 simp [putF,h1]
noncomputable def Jb3 (C : Addr) : Sp := fun vs H Q _ => ∃ p dx w,vs = [.ref p,T w] ∧ H p = some (.ins C dx []) ∧ Q .non (upd H p (.ins C dx [("word",T w)]))
noncomputable def JeU (C : Addr) : Sp := fun vs H Q _ => ∃ p w l,vs = [.ref p,T l] ∧ J9F C H p w ∧ w.length ≤ 1000 ∧ l.length ≤ 1000 ∧ ∀ H',Same H H' → Q (.bl (nevB w l)) H'
noncomputable def J4H (C : Addr) : Sp := fun vs H Q _ => ∃ p dx a b,vs = [.ref p,.ref a,.ref b] ∧ H p = some (.ins C dx []) ∧ Q .non (upd (upd H p (.ins C dx (putF "left" (.ref a) []))) p (.ins C dx [("left",.ref a),("right",.ref b)]))
noncomputable def J9d (C : Addr) : Sp := fun vs H Q _ => ∃ p dx a,vs = [.ref p,.ref a] ∧ H p = some (.ins C dx []) ∧ Q .non (upd H p (.ins C dx [("inner",.ref a)]))
inductive R where
 | nev (w : List Nat)
 | most (n : Int) (m : List Nat) (d : Int)
 | least (n : Int) (m : List Nat) (d : Int)
 | both (l r : R)
 | either (l r : R)
 | neg (i : R)
noncomputable def R.depth : R → Nat
 | .nev _ => 0
 | .most _ _ _ => 0
 | .least _ _ _ => 0
 | .both l r => max l.depth r.depth + 1
 | .either l r => max l.depth r.depth + 1
 | .neg i => i.depth + 1
noncomputable def R.bad : R → List Nat → Bool
 | .nev w,x => nevB w x
 | .most n m d,x => JeB n m d x
 | .least n m d,x => J5t n m d x
 | .both l r,x => l.bad x || r.bad x
 | .either l r,x => l.bad x && r.bad x
 | .neg i,x => !i.bad x
structure Cs where
 nev : Addr
 most : Addr
 least : Addr
 both : Addr
 either : Addr
 neg : Addr
noncomputable def R.cls (c : Cs) : R → Addr
 | .nev _ => c.nev
 | .most _ _ _ => c.most
 | .least _ _ _ => c.least
 | .both _ _ => c.both
 | .either _ _ => c.either
 | .neg _ => c.neg
noncomputable def JL (c : Cs) (H : Hp) : R → Addr → Prop
 | .nev w,p => J9F c.nev H p w ∧ w.length ≤ 1000
 | .most n m d,p => J7R c.most H p n m d ∧ m.length ≤ 1000 ∧ 0 ≤ d
 | .least n m d,p => J7R c.least H p n m d ∧ m.length ≤ 1000 ∧ 0 ≤ d
 | .both l r,p => ∃ dx a b,H p = some (.ins c.both dx [("left",.ref a),("right",.ref b)]) ∧ JL c H l a ∧ JL c H r b
 | .either l r,p => ∃ dx a b,H p = some (.ins c.either dx [("left",.ref a),("right",.ref b)]) ∧ JL c H l a ∧ JL c H r b
 | .neg i,p => ∃ dx a,H p = some (.ins c.neg dx [("inner",.ref a)]) ∧ JL c H i a
theorem JL.same {c : Cs} {H H' : Hp} (s : Same H H') : ∀ {r : R} {p : Addr},JL c H r p → JL c H' r p
 | .nev _,_,h => ⟨h.1.same s,h.2⟩
 | .most _ _ _,_,h => ⟨h.1.same s,h.2⟩
 | .least _ _ _,_,h => ⟨h.1.same s,h.2⟩
 | .both _ _,_,⟨dx,a,b,e,h1,h2⟩ => ⟨dx,a,b,s _ _ e,JL.same s h1,JL.same s h2⟩
 | .either _ _,_,⟨dx,a,b,e,h1,h2⟩ => ⟨dx,a,b,s _ _ e,JL.same s h1,JL.same s h2⟩
 | .neg _,_,⟨dx,a,e,h1⟩ => ⟨dx,a,s _ _ e,JL.same s h1⟩
theorem JL.obj {c : Cs} {H : Hp} {r : R} {p : Addr} (h : JL c H r p) : ∃ dx fs,H p = some (.ins (r.cls c) dx fs) ∧ fs.lookup ("bad" : Str) = none ∧ fs.lookup ("reach" : Str) = none ∧ fs.lookup ("text" : Str) = none := by
 have no1 : ∀ (x m : Str) (v : V),m ≠ x → List.lookup m [(x,v)] = none := fun x m v hm => by rw [List.lookup_cons,beq_eq_false_iff_ne.mpr hm]; rfl
 have no2 : ∀ (x y m : Str) (v u : V),m ≠ x → m ≠ y → List.lookup m [(x,v),(y,u)] = none := fun x y m v u h1 h2 => by rw [List.lookup_cons,beq_eq_false_iff_ne.mpr h1]; exact no1 _ _ _ h2
 have no3 : ∀ (x y z m : Str) (v u t : V),m ≠ x → m ≠ y → m ≠ z → List.lookup m [(x,v),(y,u),(z,t)] = none := fun x y z m v u t h1 h2 h3 => by rw [List.lookup_cons,beq_eq_false_iff_ne.mpr h1]; exact no2 _ _ _ _ _ h2 h3
 cases r with
 | nev w =>
  obtain ⟨⟨dx,e⟩,_⟩ := h
  exact ⟨dx,_,e,no1 _ _ _ (by decide +kernel),no1 _ _ _ (by decide +kernel),no1 _ _ _ (by decide +kernel)⟩
 | most n m d =>
  obtain ⟨⟨dx,e⟩,_⟩ := h
  exact ⟨dx,_,e,no3 _ _ _ _ _ _ _ (by decide +kernel) (by decide +kernel) (by decide +kernel),no3 _ _ _ _ _ _ _ (by decide +kernel) (by decide +kernel) (by decide +kernel),no3 _ _ _ _ _ _ _ (by decide +kernel) (by decide +kernel) (by decide +kernel)⟩
 | least n m d =>
  obtain ⟨⟨dx,e⟩,_⟩ := h
  exact ⟨dx,_,e,no3 _ _ _ _ _ _ _ (by decide +kernel) (by decide +kernel) (by decide +kernel),no3 _ _ _ _ _ _ _ (by decide +kernel) (by decide +kernel) (by decide +kernel),no3 _ _ _ _ _ _ _ (by decide +kernel) (by decide +kernel) (by decide +kernel)⟩
 | both l r =>
  obtain ⟨dx,a,b,e,_⟩ := h
  exact ⟨dx,_,e,no2 _ _ _ _ _ (by decide +kernel) (by decide +kernel),no2 _ _ _ _ _ (by decide +kernel) (by decide +kernel),no2 _ _ _ _ _ (by decide +kernel) (by decide +kernel)⟩
 | either l r =>
  obtain ⟨dx,a,b,e,_⟩ := h
  exact ⟨dx,_,e,no2 _ _ _ _ _ (by decide +kernel) (by decide +kernel),no2 _ _ _ _ _ (by decide +kernel) (by decide +kernel),no2 _ _ _ _ _ (by decide +kernel) (by decide +kernel)⟩
 | neg i =>
  obtain ⟨dx,a,e,_⟩ := h
  exact ⟨dx,_,e,no1 _ _ _ (by decide +kernel),no1 _ _ _ (by decide +kernel),no1 _ _ _ (by decide +kernel)⟩
noncomputable def JfF (c : Cs) (r : R) : Sp := fun vs H Q _ => ∃ p l,vs = [.ref p,T l] ∧ JL c H r p ∧ l.length ≤ 1000 ∧ ∀ H',Same H H' → Q (.bl (r.bad l)) H'
theorem J9S (ns : List Int) (lo hi : Option Int) : cutV (ns.map V.int) lo hi = (cutN ns lo hi).map V.int := by
 unfold cutV cutN
 rw [List.length_map,List.map_take,List.map_drop]
noncomputable def rNev (c6 : Cs) : List V → Hp → VK → Prop := fun vs H Q => ∃ w,vs = [T w] ∧ w.length ≤ 1000 ∧ ∀ p H',Same H H' → JL c6 H' (.nev w) p → Q (.ref p) H'
noncomputable def JeC (c6 : Cs) : List V → Hp → VK → Prop := fun vs H Q => ∃ n m d,vs = [.int n,T m,.int d] ∧ m.length ≤ 1000 ∧ 0 ≤ d ∧ ∀ p H',Same H H' → JL c6 H' (.most n m d) p → Q (.ref p) H'
noncomputable def JcY (c6 : Cs) : List V → Hp → VK → Prop := fun vs H Q => ∃ n m d,vs = [.int n,T m,.int d] ∧ m.length ≤ 1000 ∧ 0 ≤ d ∧ ∀ p H',Same H H' → JL c6 H' (.least n m d) p → Q (.ref p) H'
noncomputable def Jez (c6 : Cs) : List V → Hp → VK → Prop := fun vs H Q => ∃ a b x y,vs = [.ref a,.ref b] ∧ JL c6 H x a ∧ JL c6 H y b ∧ ∀ p dx H',Same H H' → JL c6 H' (.both x y) p → H' p = some (.ins c6.both dx [("left",.ref a),("right",.ref b)]) → Q (.ref p) H'
noncomputable def Jbv (c6 : Cs) : List V → Hp → VK → Prop := fun vs H Q => ∃ a b x y,vs = [.ref a,.ref b] ∧ JL c6 H x a ∧ JL c6 H y b ∧ ∀ p dx H',Same H H' → JL c6 H' (.either x y) p → H' p = some (.ins c6.either dx [("left",.ref a),("right",.ref b)]) → Q (.ref p) H'
noncomputable def rNot (c6 : Cs) : List V → Hp → VK → Prop := fun vs H Q => ∃ a x,vs = [.ref a] ∧ JL c6 H x a ∧ ∀ p dx H',Same H H' → JL c6 H' (.neg x) p → H' p = some (.ins c6.neg dx [("inner",.ref a)]) → Q (.ref p) H'
theorem Jfo {c6 : Cs} : ∀ vs H Q,rNev c6 vs H Q → ∀ x dx,H x = none → H dx = none → dx ≠ x → Jb3 c6.nev (.ref x :: (vs ++ [])) (upd (upd H dx (.own x)) x (.ins c6.nev dx [])) (fun v H2 => v = .non ∧ Q (.ref x) H2) E0 := by
 rintro _ H Q ⟨w,rfl,hw,q⟩ x dx nx ndx _
 exact ⟨x,dx,w,rfl,J7,rfl,q x _ (((Ji ndx _).upd nx).upd nx) ⟨⟨dx,J7⟩,hw⟩⟩
theorem Je5 {c6 : Cs} : ∀ vs H Q,JeC c6 vs H Q → ∀ x dx,H x = none → H dx = none → dx ≠ x → J4F c6.most (.ref x :: (vs ++ [])) (upd (upd H dx (.own x)) x (.ins c6.most dx [])) (fun v H2 => v = .non ∧ Q (.ref x) H2) E0 := by
 rintro _ H Q ⟨n,m,d,rfl,hm,hd,q⟩ x dx nx ndx _
 exact ⟨x,dx,n,m,d,rfl,J7,rfl,q x _ (((((Ji ndx _).upd nx).upd nx).upd nx).upd nx) ⟨⟨dx,J7⟩,hm,hd⟩⟩
theorem JcJ {c6 : Cs} : ∀ vs H Q,JcY c6 vs H Q → ∀ x dx,H x = none → H dx = none → dx ≠ x → J4F c6.least (.ref x :: (vs ++ [])) (upd (upd H dx (.own x)) x (.ins c6.least dx [])) (fun v H2 => v = .non ∧ Q (.ref x) H2) E0 := by
 rintro _ H Q ⟨n,m,d,rfl,hm,hd,q⟩ x dx nx ndx _
 exact ⟨x,dx,n,m,d,rfl,J7,rfl,q x _ (((((Ji ndx _).upd nx).upd nx).upd nx).upd nx) ⟨⟨dx,J7⟩,hm,hd⟩⟩
theorem Jeq {c6 : Cs} : ∀ vs H Q,Jez c6 vs H Q → ∀ x dx,H x = none → H dx = none → dx ≠ x → J4H c6.both (.ref x :: (vs ++ [])) (upd (upd H dx (.own x)) x (.ins c6.both dx [])) (fun v H2 => v = .non ∧ Q (.ref x) H2) E0 := by
 rintro _ H Q ⟨a,b,y,z,rfl,ha,hb,q⟩ x dx nx ndx _
 have ss := ((((Ji ndx (.own x)).upd nx (o := .ins c6.both dx [])).upd nx (o := .ins c6.both dx (putF "left" (.ref a) []))).upd nx (o := .ins c6.both dx [("left",.ref a),("right",.ref b)]))
 exact ⟨x,dx,a,b,rfl,J7,rfl,q x dx _ ss ⟨dx,a,b,J7,ha.same ss,hb.same ss⟩ J7⟩
theorem JbK {c6 : Cs} : ∀ vs H Q,Jbv c6 vs H Q → ∀ x dx,H x = none → H dx = none → dx ≠ x → J4H c6.either (.ref x :: (vs ++ [])) (upd (upd H dx (.own x)) x (.ins c6.either dx [])) (fun v H2 => v = .non ∧ Q (.ref x) H2) E0 := by
 rintro _ H Q ⟨a,b,y,z,rfl,ha,hb,q⟩ x dx nx ndx _
 have ss := ((((Ji ndx (.own x)).upd nx (o := .ins c6.either dx [])).upd nx (o := .ins c6.either dx (putF "left" (.ref a) []))).upd nx (o := .ins c6.either dx [("left",.ref a),("right",.ref b)]))
 exact ⟨x,dx,a,b,rfl,J7,rfl,q x dx _ ss ⟨dx,a,b,J7,ha.same ss,hb.same ss⟩ J7⟩
theorem Jf7 {c6 : Cs} : ∀ vs H Q,rNot c6 vs H Q → ∀ x dx,H x = none → H dx = none → dx ≠ x → J9d c6.neg (.ref x :: (vs ++ [])) (upd (upd H dx (.own x)) x (.ins c6.neg dx [])) (fun v H2 => v = .non ∧ Q (.ref x) H2) E0 := by
 rintro _ H Q ⟨a,y,rfl,ha,q⟩ x dx nx ndx _
 have ss := (((Ji ndx (.own x)).upd nx (o := .ins c6.neg dx [])).upd nx (o := .ins c6.neg dx [("inner",.ref a)]))
 exact ⟨x,dx,a,rfl,J7,rfl,q x dx _ ss ⟨dx,a,J7,ha.same ss⟩ J7⟩
theorem J3i {f : Str} {v : V} {r : List (Str × V)} : List.lookup f ((f,v) :: r) = some v := by rw [List.lookup_cons,beq_self_eq_true]
theorem JN {f g : Str} {v : V} {r : List (Str × V)} (h : f ≠ g) : List.lookup f ((g,v) :: r) = List.lookup f r := by rw [List.lookup_cons,beq_eq_false_iff_ne.mpr h]
theorem putN {f : Str} {v : V} : ∀ {fs : List (Str × V)},(∀ g ∈ fs.map (·.1),g ≠ f) → putF f v fs = fs ++ [(f,v)]
 | [],_ => rfl
 | (g,x) :: r,h => by
  have h1 : ¬ g = f := h g (by simp)
  have ih := putN (f := f) (v := v) (fs := r) fun g hg => h g (by rw [List.map_cons]; exact List.mem_cons_of_mem _ hg)
  show (if g = f then (g,v) :: r else (g,x) :: putF f v r) = _
  rw [if_neg h1,ih]
  rfl
noncomputable abbrev fP (a b c d e : V) : List (Str × V) := [("name",a),("skills",b),("most",c),("carried",d),("past",e)]
noncomputable abbrev fH (a b c d e f g h : V) : List (Str × V) := [("days",a),("kinds",b),("needs",c),("persons",d),("leave",e),("wishes",f),("rules",g),("pairs",h)]
theorem J62 (a b c d e : V) : List.lookup ("name" : Str) (fP a b c d e) = some a := J3i
theorem J5x (a b c d e : V) : List.lookup ("skills" : Str) (fP a b c d e) = some b := by rw [JN (by decide +kernel),J3i]
theorem J8Q (a b c d e : V) : List.lookup ("most" : Str) (fP a b c d e) = some c := by rw [JN (by decide +kernel),JN (by decide +kernel),J3i]
theorem JaQ (a b c d e : V) : List.lookup ("carried" : Str) (fP a b c d e) = some d := by rw [JN (by decide +kernel),JN (by decide +kernel),JN (by decide +kernel),J3i]
theorem Jb8 (a b c d e : V) : List.lookup ("past" : Str) (fP a b c d e) = some e := by rw [JN (by decide +kernel),JN (by decide +kernel),JN (by decide +kernel),JN (by decide +kernel),J3i]
theorem Jb4 (a b c d e f g h : V) : List.lookup ("days" : Str) (fH a b c d e f g h) = some a := J3i
theorem J6T (a b c d e f g h : V) : List.lookup ("kinds" : Str) (fH a b c d e f g h) = some b := by rw [JN (by decide +kernel),J3i]
theorem J51 (a b c d e f g h : V) : List.lookup ("needs" : Str) (fH a b c d e f g h) = some c := by rw [JN (by decide +kernel),JN (by decide +kernel),J3i]
theorem J3B (a b c d e f g h : V) : List.lookup ("persons" : Str) (fH a b c d e f g h) = some d := by rw [JN (by decide +kernel),JN (by decide +kernel),JN (by decide +kernel),J3i]
theorem J50 (a b c d e f g h : V) : List.lookup ("leave" : Str) (fH a b c d e f g h) = some e := by rw [JN (by decide +kernel),JN (by decide +kernel),JN (by decide +kernel),JN (by decide +kernel),J3i]
theorem JbQ (a b c d e f g h : V) : List.lookup ("wishes" : Str) (fH a b c d e f g h) = some f := by rw [JN (by decide +kernel),JN (by decide +kernel),JN (by decide +kernel),JN (by decide +kernel),JN (by decide +kernel),J3i]
theorem J9T (a b c d e f g h : V) : List.lookup ("rules" : Str) (fH a b c d e f g h) = some g := by rw [JN (by decide +kernel),JN (by decide +kernel),JN (by decide +kernel),JN (by decide +kernel),JN (by decide +kernel),JN (by decide +kernel),J3i]
theorem J6J (a b c d e f g h : V) : List.lookup ("pairs" : Str) (fH a b c d e f g h) = some h := by rw [JN (by decide +kernel),JN (by decide +kernel),JN (by decide +kernel),JN (by decide +kernel),JN (by decide +kernel),JN (by decide +kernel),JN (by decide +kernel),J3i]
noncomputable def J6O (C : Addr) (H : Hp) (p : Addr) (nm sk : List Nat) (m c : Int) (pa : List Nat) : Prop := ∃ dx,H p = some (.ins C dx (fP (T nm) (T sk) (.int m) (.int c) (T pa)))
theorem J6O.keeps {C : Addr} {H H' : Hp} {p : Addr} {nm sk pa : List Nat} {m c : Int} (h : J6O C H p nm sk m c pa) (k : JV H H') : J6O C H' p nm sk m c pa := let ⟨dx,e⟩ := h; ⟨dx,k _ _ e fun zs z => by cases z⟩
noncomputable def J5W (C : Addr) (H : Hp) (p : Addr) (d : Int) (k : List Nat) (a1 a2 a3 a4 a5 a6 : Addr) : Prop := ∃ dx,H p = some (.ins C dx (fH (.int d) (T k) (.ref a1) (.ref a2) (.ref a3) (.ref a4) (.ref a5) (.ref a6)))
theorem J5W.keeps {C : Addr} {H H' : Hp} {p : Addr} {d : Int} {k : List Nat} {a1 a2 a3 a4 a5 a6 : Addr} (h : J5W C H p d k a1 a2 a3 a4 a5 a6) (kk : JV H H') : J5W C H' p d k a1 a2 a3 a4 a5 a6 := let ⟨dx,e⟩ := h; ⟨dx,kk _ _ e fun zs z => by cases z⟩
noncomputable def But (p : Addr) (H H' : Hp) : Prop := ∀ a o,a ≠ p → H a = some o → H' a = some o
theorem But.refl (p : Addr) (H : Hp) : But p H H := fun _ _ _ h => h
theorem But.at {p : Addr} {H H' : Hp} {o : HO} (b : But p H H') : But p H (upd H' p o) := fun a u n e => by rw [Jg n]; exact b a u n e
theorem But.new {p l : Addr} {H H' : Hp} {o : HO} (b : But p H H') (hl : H' l = none) : But p H (upd H' l o) := fun a u n e => by
 have := b a u n e
 rw [Jg (Jc this hl)]; exact this
noncomputable def J94 (C : Addr) : Sp := fun vs H Q _ => ∃ p dx a b c d e,vs = [.ref p,a,b,c,d,e] ∧ H p = some (.ins C dx []) ∧ ∀ H',But p H H' → H' p = some (.ins C dx (fP a b c d e)) → Q .non H'
noncomputable def J9o (C : Addr) : Sp := fun vs H Q _ => ∃ p dx d k b1 b2 b3 b4 b5 b6 x1 x2 x3 x4 x5 x6,vs = [.ref p,d,k,.ref b1,.ref b2,.ref b3,.ref b4,.ref b5,.ref b6] ∧ H p = some (.ins C dx []) ∧
 H b1 = some (.lst x1) ∧ H b2 = some (.lst x2) ∧ H b3 = some (.lst x3) ∧ H b4 = some (.lst x4) ∧ H b5 = some (.lst x5) ∧ H b6 = some (.lst x6) ∧
 ∀ H' a1 a2 a3 a4 a5 a6,But p H H' → H' p = some (.ins C dx (fH d k (.ref a1) (.ref a2) (.ref a3) (.ref a4) (.ref a5) (.ref a6))) → H' a1 = some (.lst x1) → H' a2 = some (.lst x2) → H' a3 = some (.lst x3) → H' a4 = some (.lst x4) → H' a5 = some (.lst x5) → H' a6 = some (.lst x6) →
  H a1 = none → H a2 = none → H a3 = none → H a4 = none → H a5 = none → H a6 = none → Q .non H'
noncomputable def rPer (C : Addr) : List V → Hp → VK → Prop := fun vs H Q => ∃ nm sk m c pa,vs = [T nm,T sk,.int m,.int c,T pa] ∧ ∀ p H',Same H H' → H p = none → J6O C H' p nm sk m c pa → Q (.ref p) H'
noncomputable def rHou (C : Addr) : List V → Hp → VK → Prop := fun vs H Q => ∃ d k b1 b2 b3 b4 b5 b6 x1 x2 x3 x4 x5 x6,vs = [.int d,T k,.ref b1,.ref b2,.ref b3,.ref b4,.ref b5,.ref b6] ∧
 H b1 = some (.lst x1) ∧ H b2 = some (.lst x2) ∧ H b3 = some (.lst x3) ∧ H b4 = some (.lst x4) ∧ H b5 = some (.lst x5) ∧ H b6 = some (.lst x6) ∧
 ∀ p H' a1 a2 a3 a4 a5 a6,Same H H' → J5W C H' p d k a1 a2 a3 a4 a5 a6 → H' a1 = some (.lst x1) → H' a2 = some (.lst x2) → H' a3 = some (.lst x3) → H' a4 = some (.lst x4) → H' a5 = some (.lst x5) → H' a6 = some (.lst x6) →
  H a1 = none → H a2 = none → H a3 = none → H a4 = none → H a5 = none → H a6 = none → Q (.ref p) H'
theorem J7B {H H' : Hp} {x dx : Addr} {u o : HO} (nx : H x = none) (nd : H dx = none) (b : But x (upd (upd H dx u) x o) H') : Same H H' := fun a v e => by
 have h1 : a ≠ x := Jc e nx
 refine b a v h1 ?_
 rw [Jg h1,Jg (Jc e nd)]
 exact e
theorem J2Q {H : Hp} {x dx a : Addr} {u o : HO} (h : upd (upd H dx u) x o a = none) : H a = none := by
 have h1 : a ≠ x := fun z => by subst z; rw [J7] at h; cases h
 rw [Jg h1] at h
 have h2 : a ≠ dx := fun z => by subst z; rw [J7] at h; cases h
 rw [Jg h2] at h
 exact h
theorem J3Y {H : Hp} {x dx a : Addr} {u o v : HO} (nx : H x = none) (nd : H dx = none) (e : H a = some v) : upd (upd H dx u) x o a = some v := by
 rw [Jg (Jc e nx),Jg (Jc e nd)]; exact e
theorem Jf9 {C : Addr} : ∀ vs H Q,rPer C vs H Q → ∀ x dx,H x = none → H dx = none → dx ≠ x → J94 C (.ref x :: (vs ++ [])) (upd (upd H dx (.own x)) x (.ins C dx [])) (fun v H2 => v = .non ∧ Q (.ref x) H2) E0 := by
 rintro _ H Q ⟨nm,sk,m,c,pa,rfl,q⟩ x dx nx nd _
 exact ⟨x,dx,_,_,_,_,_,rfl,J7,fun H' b e => ⟨rfl,q x H' (J7B nx nd b) nx ⟨dx,e⟩⟩⟩
theorem Jfi {C : Addr} : ∀ vs H Q,rHou C vs H Q → ∀ x dx,H x = none → H dx = none → dx ≠ x → J9o C (.ref x :: (vs ++ [])) (upd (upd H dx (.own x)) x (.ins C dx [])) (fun v H2 => v = .non ∧ Q (.ref x) H2) E0 := by
 rintro _ H Q ⟨d,k,b1,b2,b3,b4,b5,b6,x1,x2,x3,x4,x5,x6,rfl,h1,h2,h3,h4,h5,h6,q⟩ x dx nx nd _
 exact ⟨x,dx,_,_,b1,b2,b3,b4,b5,b6,x1,x2,x3,x4,x5,x6,rfl,J7,J3Y nx nd h1,J3Y nx nd h2,J3Y nx nd h3,J3Y nx nd h4,J3Y nx nd h5,J3Y nx nd h6,
  fun H' a1 a2 a3 a4 a5 a6 b e e1 e2 e3 e4 e5 e6 n1 n2 n3 n4 n5 n6 => ⟨rfl,q x H' a1 a2 a3 a4 a5 a6 (J7B nx nd b) ⟨dx,e⟩ e1 e2 e3 e4 e5 e6 (J2Q n1) (J2Q n2) (J2Q n3) (J2Q n4) (J2Q n5) (J2Q n6)⟩⟩
noncomputable def J0i (ns : List Int) (k : Int) : Int := ns.getD k.toNat 0
noncomputable def JcC (K : PySem.W.Frag) : Sp := fun vs H Q _ => ∃ (a : Addr) (ns : List Int) (k : Int),vs = [.ref a,.int k] ∧ SqL K H a (ns.map V.int) ∧ 0 ≤ k ∧ Q (.int (J0i ns k)) H
noncomputable def Ja6 : Sp := fun vs H Q _ => ∃ (c m : Int),vs = [.int c,.int m] ∧ 0 ≤ m ∧ m ≤ 500 ∧ ∀ (a : Addr) (H' : Hp) (xs : List Int),Same H H' → H a = none → H' a = some (.lst (xs.map V.int)) → (xs.length : Int) = m → Q (.ref a) H'
noncomputable abbrev abc : List Nat := [97,98,99,100,101,102,103,104,105,106,107,108,109,110,111,112,113,114,115,116,117,118,119,120,121,122]
noncomputable abbrev ABC : List Nat := [65,66,67,68,69,70,71,72,73,74,75,76,77,78,79,80,81,82,83,84,85,86,87,88,89,90]
noncomputable def ltr (i : Int) : Nat := 97 + i.toNat
noncomputable def cap (i : Int) : Nat := 65 + i.toNat
theorem JdB (i : Int) (h0 : 0 ≤ i) (h1 : i < 26) : atI abc i = some (ltr i) := by
 obtain ⟨c,h2,h3⟩ := J2C abc i h0 (by show i < 26; exact h1)
 have key : ∀ n : Nat,n < 26 → abc[n]? = some (97 + n) := by decide
 rw [h2]
 rw [key i.toNat (by omega)] at h3
 exact h3.symm
theorem Jfg (i : Int) (h0 : 0 ≤ i) (h1 : i < 26) : atI ABC i = some (cap i) := by
 obtain ⟨c,h2,h3⟩ := J2C ABC i h0 (by show i < 26; exact h1)
 have key : ∀ n : Nat,n < 26 → ABC[n]? = some (65 + n) := by decide
 rw [h2]
 rw [key i.toNat (by omega)] at h3
 exact h3.symm
noncomputable def J74 (c : Int) : List Nat := (List.range (1 + c % 4).toNat).map fun (k : Nat) => cap ((c / 4 + (0 + (k : Int)) * (1 + c / 104 % 6)) % 26)
theorem JaX (c : Int) : 1 ≤ (J74 c).length ∧ (J74 c).length ≤ 4 := by
 unfold J74
 rw [List.length_map,List.length_range]
 have h0 : 0 ≤ c % 4 := Int.emod_nonneg _ (by decide)
 have h1 : c % 4 < 4 := Int.emod_lt_of_pos _ (by decide)
 omega
noncomputable def J3E (c : Int) : List Nat := (List.range (c / 3 % 8).toNat).map fun (k : Nat) => ltr (c / (16 + 5 * (0 + (k : Int))) % 26)
theorem JbR (c : Int) : (J3E c).length ≤ 7 := by
 unfold J3E
 rw [List.length_map,List.length_range]
 have h1 : c / 3 % 8 < 8 := Int.emod_lt_of_pos _ (by decide)
 omega
noncomputable def J31 (c p : Int) : List Nat := cutN (J3E c) none (some (c / 7 % ((J3E c).length + 1))) ++ [ltr ((c + p) % 26)] ++ cutN (J3E c) (some (c / 7 % ((J3E c).length + 1))) none
noncomputable def J3G (c p : Int) : List Nat := if J31 c p = [97,108,108] then [97,108,108,101] else J31 c p
theorem J6R {c p q : Int} (hp : 0 ≤ p ∧ p < 26) (hq : 0 ≤ q ∧ q < 26) (h : J31 c p = J31 c q) : p = q := by
 unfold J31 at h
 have h1 := List.append_cancel_right h
 have h2 := List.append_cancel_left h1
 have h3 : ltr ((c + p) % 26) = ltr ((c + q) % 26) := by simpa using h2
 unfold ltr at h3
 have a0 : 0 ≤ (c + p) % 26 := Int.emod_nonneg _ (by decide)
 have b0 : 0 ≤ (c + q) % 26 := Int.emod_nonneg _ (by decide)
 omega
theorem Jcg {c p q : Int} (hp : 0 ≤ p ∧ p < 26) (hq : 0 ≤ q ∧ q < 26) (h : J3G c p = J3G c q) : p = q := by
 have hl : ∀ p q : Int,0 ≤ p → J31 c p = [97,108,108] → J31 c q = [97,108,108,101] → False := fun p q _ e1 e2 => by
  have l1 := congrArg List.length e1
  have l2 := congrArg List.length e2
  unfold J31 at l1 l2
  simp only [List.length_append,List.length_cons,List.length_nil] at l1 l2
  omega
 unfold J3G at h
 by_cases h1 : J31 c p = [97,108,108] <;> by_cases h2 : J31 c q = [97,108,108]
 ·exact J6R hp hq (h1.trans h2.symm)
 ·rw [if_pos h1,if_neg h2] at h
  exact (hl p q hp.1 h1 h.symm).elim
 ·rw [if_neg h1,if_pos h2] at h
  exact (hl q p hq.1 h2 h).elim
 ·rw [if_neg h1,if_neg h2] at h
  exact J6R hp hq h
noncomputable def Jcx : Sp := fun vs H Q _ => ∃ (c : Int),vs = [.int c] ∧ ∀ H',Same H H' → Q (T (J74 c)) H'
noncomputable def JdU : Sp := fun vs H Q _ => ∃ (c p : Int),vs = [.int c,.int p] ∧ ∀ H',Same H H' → Q (T (J3G c p)) H'
noncomputable def JdO : Sp := fun vs H Q _ => ∃ (c m d : Int) (ms : List Nat),vs = [.int c,.int m,.int d,T ms] ∧ 0 ≤ m ∧ m ≤ 8 ∧ 1 ≤ d ∧ d ≤ 14 ∧ 1 ≤ ms.length ∧ ms.length ≤ 100 ∧
 ∀ (a : Addr) (H' : Hp) (rows : List (List Nat)),Same H H' → H a = none → H' a = some (.lst (rows.map T)) → (rows.length : Int) = m → (∀ r ∈ rows,(r.length : Int) = d ∧ ∀ x ∈ r,x ∈ ms) → Q (.ref a) H'
noncomputable def onI (g : Int → Nat) : V → V
 | .int i => T [g i]
 | v => v
theorem J9G (n : Nat) (g : Int → Nat) : (((List.range n).map fun (i : Nat) => V.int (0 + (i : Int))).map (onI g)) = (((List.range n).map fun (i : Nat) => g (0 + (i : Int))).map fun c => [c]).map T := by
 simp only [List.map_map]
 rfl
theorem JcF {ns : List Int} {k : Int} (h0 : 0 ≤ k) (h : k < ns.length) : atI (ns.map V.int) k = some (.int (J0i ns k)) := by
 obtain ⟨z,h1,h2⟩ := J5s ns k h0 h
 unfold J0i
 rw [h1,List.getD_eq_getElem?_getD,h2]
 rfl
theorem Jd6 {ns : List Int} {k : Int} (h : (ns.length : Int) ≤ k) : J0i ns k = 0 := by
 unfold J0i
 rw [List.getD_eq_getElem?_getD,List.getElem?_eq_none (by omega)]
 rfl
noncomputable def JdH : Sp := fun vs H Q _ => ∃ (l : List Nat) (n : Int),vs = [T l,.int n] ∧ l.length ≤ 10 ∧ ∀ (cs : List Nat) (H' : Hp),Same H H' → cs.length ≤ l.length → Q (T cs) H'
noncomputable def PerN (C : Addr) : List Nat → V → Hp → Prop := fun nm y H => ∃ a sk m c pa,y = .ref a ∧ J6O C H a nm sk m c pa
theorem PerN.keeps {C : Addr} (nm : List Nat) (y : V) (Ha Hb : Hp) (k : JV Ha Hb) (h : PerN C nm y Ha) : PerN C nm y Hb := by
 obtain ⟨a,sk,m,c,pa,e,h⟩ := h
 exact ⟨a,sk,m,c,pa,e,h.keeps k⟩
noncomputable def HouN (C1 C2 : Addr) (H : Hp) (h : Addr) (nms : List (List Nat)) : Prop := ∃ d k a1 a2 a3 a4 a5 a6 qs,J5W C2 H h d k a1 a2 a3 a4 a5 a6 ∧ H a2 = some (.lst qs) ∧ All2 (PerN C1) H nms qs
theorem HouN.same {C1 C2 : Addr} {H H' : Hp} {h : Addr} {nms : List (List Nat)} (x : HouN C1 C2 H h nms) (s : Same H H') : HouN C1 C2 H' h nms := by
 obtain ⟨d,k,a1,a2,a3,a4,a5,a6,qs,h1,h2,h3⟩ := x
 exact ⟨d,k,a1,a2,a3,a4,a5,a6,qs,h1.keeps s.keeps,s _ _ h2,h3.imp fun a y => PerN.keeps a y _ _ s.keeps⟩
noncomputable def Jcs (C1 C2 : Addr) : Sp := fun vs H Q _ => ∃ (h : Addr) (nm : List Nat) (nms : List (List Nat)) (k : Nat),vs = [.ref h,T nm] ∧ HouN C1 C2 H h nms ∧ nms[k]? = some nm ∧ (∀ j < k,¬ nms[j]? = some nm) ∧ ∀ H',Same H H' → Q (.int (k : Nat)) H'
structure Nd where
 day : Int
 kind : Nat
 least : Int
 most : Int
noncomputable def NdAt : Nd → V → Hp → Prop := fun n y H => ∃ t,y = .ref t ∧ H t = some (.tup [.int n.day,T [n.kind],.int n.least,.int n.most])
theorem NdAt.keeps (n : Nd) (y : V) (Ha Hb : Hp) (k : JV Ha Hb) (h : NdAt n y Ha) : NdAt n y Hb := let ⟨t,e,h⟩ := h; ⟨t,e,k _ _ h fun zs z => by cases z⟩
noncomputable def J1y : List Nd → Int → Nat → Int × Int
 | [],_,_ => (0,0)
 | n :: r,d,k => if n.day = d ∧ n.kind = k then (n.least,n.most) else J1y r d k
noncomputable def LvT : List Nat × Int → V → Hp → Prop := fun l y H => ∃ t,y = .ref t ∧ H t = some (.tup [T l.1,.int l.2])
theorem LvT.keeps (n : List Nat × Int) (y : V) (Ha Hb : Hp) (k : JV Ha Hb) (h : LvT n y Ha) : LvT n y Hb := let ⟨t,e,h⟩ := h; ⟨t,e,k _ _ h fun zs z => by cases z⟩
noncomputable def lvI (l : List Nat × Int) : List V := [T l.1,.int l.2]
theorem JcS {K : PySem.W.Frag} {H : Hp} : ∀ {ls : List (List Nat × Int)} {vs : List V},All2 LvT H ls vs → All2 (TpAt K) H (ls.map lvI) vs
 | [],[],_ => trivial
 | l :: ls,v :: vs,h => ⟨by obtain ⟨t,e,h⟩ := h.1; exact ⟨t,e,SqT.of h,rfl⟩,JcS h.2⟩
 | [],_ :: _,h => h.elim
 | _ :: _,[],h => h.elim
noncomputable def Jg4 (ls : List (List Nat × Int)) (nm : List Nat) (d : Int) : Bool := (ls.map lvI).any fun ys => eqVs ys [T nm,.int d]
theorem J6S {nds : List Nd} {i : Nat} {d : Int} {k : Nat} (h : ∀ j < i,∀ n,nds[j]? = some n → ¬ (n.day = d ∧ n.kind = k)) : J1y nds d k = J1y (nds.drop i) d k := by
 induction i generalizing nds with
 | zero => rfl
 | succ i ih =>
  cases nds with
  | nil => rfl
  | cons n r =>
   rw [List.drop_succ_cons,← ih (nds := r) fun j hj m hm => h (j + 1) (by omega) m (by simpa using hm)]
   rw [J1y,if_neg (h 0 (by omega) n rfl)]
theorem J7J {nds : List Nd} {i : Nat} {d : Int} {k : Nat} {n : Nd} (h : ∀ j < i,∀ n,nds[j]? = some n → ¬ (n.day = d ∧ n.kind = k)) (hi : nds[i]? = some n) (e : n.day = d ∧ n.kind = k) : J1y nds d k = (n.least,n.most) := by
 rw [J6S h,List.drop_eq_getElem_cons (List.getElem?_eq_some_iff.mp hi).1,J1y]
 have : nds[i]'(List.getElem?_eq_some_iff.mp hi).1 = n := (List.getElem?_eq_some_iff.mp hi).2
 rw [this,if_pos e]
theorem J6W {nds : List Nd} {d : Int} {k : Nat} (h : ∀ j < nds.length,∀ n,nds[j]? = some n → ¬ (n.day = d ∧ n.kind = k)) : J1y nds d k = (0,0) := by
 rw [J6S h,List.drop_eq_nil_of_le (Nat.le_refl _)]
 rfl
noncomputable def dut (l : List Nat) : Nat := (l.filter fun c => !decide (c = 45)).length
theorem Jbj (l : List Nat) : ((((l.map fun c => T [c]).filter (fun x => !decide (x = T [45]))).map (fun x => x)).length) = dut l := by
 rw [List.length_map,List.filter_map,List.length_map]
 unfold dut
 congr 1
 refine List.filter_congr fun c _ => ?_
 show (!decide (T [c] = T [45])) = _
 by_cases h : c = 45
 ·subst h; simp
 ·rw [decide_eq_false h,decide_eq_false fun z => h (by simpa using J1V z)]
noncomputable def JeS : Sp := fun vs H Q _ => ∃ l,vs = [T l] ∧ l.length ≤ 1000 ∧ ∀ H',Same H H' → Q (.int (dut l)) H'
structure Ps where
 nm : List Nat
 sk : List Nat
 most : Int
 car : Int
 past : List Nat
noncomputable def PsO (C : Addr) : Ps → V → Hp → Prop := fun n y H => ∃ a,y = .ref a ∧ J6O C H a n.nm n.sk n.most n.car n.past
theorem PsO.keeps {C : Addr} (n : Ps) (y : V) (Ha Hb : Hp) (k : JV Ha Hb) (h : PsO C n y Ha) : PsO C n y Hb := let ⟨a,e,h⟩ := h; ⟨a,e,h.keeps k⟩
noncomputable def PsT : Ps → V → Hp → Prop := fun n y H => ∃ t,y = .ref t ∧ H t = some (.tup [T n.nm,T n.sk,.int n.most,.int n.car,T n.past])
theorem PsT.keeps (n : Ps) (y : V) (Ha Hb : Hp) (k : JV Ha Hb) (h : PsT n y Ha) : PsT n y Hb := let ⟨t,e,h⟩ := h; ⟨t,e,k _ _ h fun zs z => by cases z⟩
theorem Jda {n i a : Nat} (h : (List.range n)[i]? = some a) : a = i ∧ i < n := by
 have hi := (List.getElem?_eq_some_iff.mp h).1
 rw [List.length_range] at hi
 rw [List.getElem?_range hi] at h
 exact ⟨(Option.some.inj h).symm,hi⟩
theorem newl {H : Hp} {l : Addr} {xs : List V} (h : H l = none) : ∃ H',H' = upd H l (.lst xs) ∧ H' l = some (.lst xs) ∧ Same H H' := ⟨_,rfl,J7,Ji h _⟩
theorem newt {H : Hp} {l : Addr} {xs : List V} (h : H l = none) : ∃ H',H' = upd H l (.tup xs) ∧ H' l = some (.tup xs) ∧ Same H H' := ⟨_,rfl,J7,Ji h _⟩
theorem JL.keeps {c : Cs} {H H' : Hp} (k : JV H H') : ∀ {r : R} {p : Addr},JL c H r p → JL c H' r p
 | .nev _,_,⟨⟨dx,e⟩,l⟩ => ⟨⟨dx,k _ _ e fun zs z => by cases z⟩,l⟩
 | .most _ _ _,_,⟨⟨dx,e⟩,l⟩ => ⟨⟨dx,k _ _ e fun zs z => by cases z⟩,l⟩
 | .least _ _ _,_,⟨⟨dx,e⟩,l⟩ => ⟨⟨dx,k _ _ e fun zs z => by cases z⟩,l⟩
 | .both _ _,_,⟨dx,a,b,e,h1,h2⟩ => ⟨dx,a,b,k _ _ e (fun zs z => by cases z),JL.keeps k h1,JL.keeps k h2⟩
 | .either _ _,_,⟨dx,a,b,e,h1,h2⟩ => ⟨dx,a,b,k _ _ e (fun zs z => by cases z),JL.keeps k h1,JL.keeps k h2⟩
 | .neg _,_,⟨dx,a,e,h1⟩ => ⟨dx,a,k _ _ e (fun zs z => by cases z),JL.keeps k h1⟩
noncomputable abbrev Wd := List Nat
noncomputable abbrev wOr : Wd := [111,114]
noncomputable abbrev wAnd : Wd := [97,110,100]
noncomputable abbrev wNot : Wd := [110,111,116]
noncomputable abbrev wL : Wd := [40]
noncomputable abbrev wR : Wd := [41]
noncomputable abbrev J3X : Wd := [110,101,118,101,114]
noncomputable abbrev J30 : Wd := [109,111,115,116]
noncomputable abbrev J1Q : Wd := [108,101,97,115,116]
noncomputable abbrev wOf : Wd := [111,102]
noncomputable abbrev wIn : Wd := [105,110]
noncomputable def JK (wanted : Wd) (i : Nat) (st : Int × Int) (w : Wd) : Int × Int :=
 if w = wL then (st.1,st.2 + 1) else if w = wR then (st.1,st.2 - 1) else if w = wanted ∧ st.2 = 0 then ((i : Int),st.2) else st
noncomputable def lo (wanted : Wd) : Nat → Int × Int → List Wd → Int × Int
 | _,st,[] => st
 | i,st,w :: r => lo wanted (i + 1) (JK wanted i st w) r
noncomputable def JI (ws : List Wd) (wanted : Wd) : Int := (lo wanted 0 (-1,0) ws).1
theorem J2J (wanted : Wd) : ∀ (a b : List Wd) (i : Nat) (st : Int × Int),lo wanted i st (a ++ b) = lo wanted (i + a.length) (lo wanted i st a) b
 | [],b,i,st => rfl
 | w :: r,b,i,st => by
  show lo wanted (i + 1) (JK wanted i st w) (r ++ b) = _
  rw [J2J wanted r b]
  show lo wanted (i + 1 + r.length) _ b = lo wanted (i + (r.length + 1)) _ b
  rw [show i + 1 + r.length = i + (r.length + 1) by omega]
  rfl
noncomputable def isUp (c : Nat) : Bool := 65 ≤ c && c ≤ 90
noncomputable def J4j (c : Nat) : Bool := isUp c || c == 45 || c == 35 || c == 63
noncomputable def J3P (c : Nat) : Bool := isUp c || c == 45 || c == 35
noncomputable def J2h (w : Wd) : Bool := 1 ≤ w.length && w.length ≤ 7 && w.all J4j
noncomputable def J0z (w : Wd) : Bool := 1 ≤ w.length && w.length ≤ 8 && w.all J3P && decide w.Nodup
noncomputable def fig (lo hi : Nat) (w : Wd) : Option Nat := match w with
 | [c] => if 48 + lo ≤ c ∧ c ≤ 48 + hi then some (c - 48) else none
 | _ => none
noncomputable def J4r : List Wd → Option R
 | [a,w] => if a = J3X ∧ J2h w = true then some (.nev w) else none
 | [a,n,o,m,i,d] => if o = wOf ∧ i = wIn ∧ J0z m = true then
   match fig 0 7 n,fig 1 7 d with
   | some n,some d => if a = J30 then some (.most n m d) else if a = J1Q then some (.least n m d) else none
   | _,_ => none
  else none
 | _ => none
inductive Rds : Nat → List Wd → R → Prop where
 | plain {ws r} : J4r ws = some r → Rds 0 ws r
 | neg {ws r} : Rds 0 ws r → Rds 0 (wNot :: ws) (.neg r)
 | br {ws r} : Rds 2 ws r → Rds 0 (wL :: (ws ++ [wR])) r
 | up1 {ws r} : Rds 0 ws r → Rds 1 ws r
 | both {a b x y} : Rds 1 a x → Rds 0 b y → Rds 1 (a ++ wAnd :: b) (.both x y)
 | up2 {ws r} : Rds 1 ws r → Rds 2 ws r
 | either {a b x y} : Rds 2 a x → Rds 1 b y → Rds 2 (a ++ wOr :: b) (.either x y)
noncomputable def rdW : Nat → List Wd → Option R
 | 0,_ => none
 | n + 1,ws =>
  if 0 ≤ JI ws wOr then
   match rdW n (ws.take (JI ws wOr).toNat),rdW n (ws.drop ((JI ws wOr).toNat + 1)) with
   | some x,some y => some (.either x y)
   | _,_ => none
  else if 0 ≤ JI ws wAnd then
   match rdW n (ws.take (JI ws wAnd).toNat),rdW n (ws.drop ((JI ws wAnd).toNat + 1)) with
   | some x,some y => some (.both x y)
   | _,_ => none
  else if ws.take 1 = [wNot] then
   match rdW n (ws.drop 1) with
   | some x => some (.neg x)
   | none => none
  else if ws.take 1 = [wL] ∧ ws.drop (ws.length - 1) = [wR] then rdW n ((ws.drop 1).take (ws.length - 2))
  else J4r ws
theorem J3g {w x : Wd} (h : J2h w = true) (c : Nat) (hc : c ∈ x) (hs : J4j c = false) : w ≠ x := by
 rintro rfl
 unfold J2h at h
 have h2 := ((Bool.and_eq_true _ _).mp h).2
 have := List.all_eq_true.mp h2 c hc
 rw [hs] at this
 cases this
theorem J3n {w x : Wd} (h : J0z w = true) (c : Nat) (hc : c ∈ x) (hs : J3P c = false) : w ≠ x := by
 rintro rfl
 unfold J0z at h
 have h2 := ((Bool.and_eq_true _ _).mp ((Bool.and_eq_true _ _).mp h).1).2
 have := List.all_eq_true.mp h2 c hc
 rw [hs] at this
 cases this
theorem Jdv {lo hi : Nat} {w : Wd} {n : Nat} (h : fig lo hi w = some n) (hh : hi ≤ 9) : w ≠ wL ∧ w ≠ wR ∧ w ≠ wOr ∧ w ≠ wAnd ∧ w ≠ wNot := by
 unfold fig at h
 split at h
 ·rename_i c
  split at h
  ·rename_i hc
   refine ⟨?_,?_,?_,?_,?_⟩ <;> intro e <;> simp at e
   ·omega
   ·omega
  ·cases h
 ·cases h
theorem J1T {ws : List Wd} {r : R} (h : J4r ws = some r) : (∀ w ∈ ws,w ≠ wL ∧ w ≠ wR ∧ w ≠ wOr ∧ w ≠ wAnd ∧ w ≠ wNot) ∧ ws ≠ [] := by
 unfold J4r at h
 split at h
 ·rename_i a w
  split at h
  ·rename_i hh
   obtain ⟨rfl,hw⟩ := hh
   refine ⟨fun v hv => ?_,by simp⟩
   simp only [List.mem_cons,List.not_mem_nil,or_false] at hv
   rcases hv with rfl | rfl
   ·decide
   ·exact ⟨J3g hw 40 (by decide) (by decide),J3g hw 41 (by decide) (by decide),J3g hw 111 (by decide) (by decide),J3g hw 97 (by decide) (by decide),J3g hw 110 (by decide) (by decide)⟩
  ·cases h
 ·rename_i a n o m i d
  split at h
  ·rename_i hh
   obtain ⟨rfl,rfl,hm⟩ := hh
   split at h
   ·rename_i n' d' h1 h2
    have ha : a = J30 ∨ a = J1Q := by
     split at h
     ·rename_i e; exact .inl e
     ·split at h
      ·rename_i e; exact .inr e
      ·cases h
    refine ⟨fun v hv => ?_,by simp⟩
    simp only [List.mem_cons,List.not_mem_nil,or_false] at hv
    rcases hv with rfl | rfl | rfl | rfl | rfl | rfl
    ·rcases ha with rfl | rfl <;> decide
    ·exact Jdv h1 (by decide)
    ·decide
    ·exact ⟨J3n hm 40 (by decide) (by decide),J3n hm 41 (by decide) (by decide),J3n hm 111 (by decide) (by decide),J3n hm 97 (by decide) (by decide),J3n hm 110 (by decide) (by decide)⟩
    ·decide
    ·exact Jdv h2 (by decide)
   ·cases h
  ·cases h
 ·cases h
theorem J2j {wanted w : Wd} {i : Nat} {st : Int × Int} (h1 : w ≠ wL) (h2 : w ≠ wR) (h3 : w ≠ wanted ∨ st.2 ≠ 0) : JK wanted i st w = st := by
 unfold JK
 rw [if_neg h1,if_neg h2,if_neg]
 rintro ⟨a,b⟩
 rcases h3 with h3 | h3
 ·exact h3 a
 ·exact h3 b
theorem J64 {wanted : Wd} : ∀ {ws : List Wd} {i : Nat} {st : Int × Int},(∀ w ∈ ws,w ≠ wL ∧ w ≠ wR ∧ (w ≠ wanted ∨ st.2 ≠ 0)) → lo wanted i st ws = st
 | [],_,_,_ => rfl
 | w :: r,i,st,h => by
  obtain ⟨a,b,c⟩ := h w List.mem_cons_self
  show lo wanted (i + 1) (JK wanted i st w) r = st
  rw [J2j a b c]
  exact J64 fun v hv => h v (List.mem_cons_of_mem _ hv)
theorem Jee {n : Nat} {ws : List Wd} {r : R} (d : Rds n ws r) : ∀ (wanted : Wd) (i : Nat) (f h : Int),0 < h → lo wanted i (f,h) ws = (f,h) := by
 induction d with
 | plain hp =>
  intro wanted i f h hh
  exact J64 fun w hw => ⟨((J1T hp).1 w hw).1,((J1T hp).1 w hw).2.1,.inr (by show h ≠ 0; omega)⟩
 | neg _ ih =>
  intro wanted i f h hh
  show lo wanted (i + 1) (JK wanted i (f,h) wNot) _ = _
  rw [J2j (by decide) (by decide) (.inr (by show h ≠ 0; omega))]
  exact ih wanted _ f h hh
 | br _ ih =>
  intro wanted i f h hh
  show lo wanted (i + 1) (JK wanted i (f,h) wL) _ = _
  have e : JK wanted i (f,h) wL = (f,h + 1) := by unfold JK; rw [if_pos rfl]
  rw [e,J2J,ih wanted (i + 1) f (h + 1) (by omega)]
  rw [lo,lo]
  unfold JK
  rw [if_neg (by decide),if_pos rfl]
  show (f,h + 1 - 1) = (f,h)
  rw [show h + 1 - 1 = h by omega]
 | up1 _ ih => exact ih
 | both _ _ i1 i2 =>
  intro wanted i f h hh
  rw [J2J,i1 wanted i f h hh]
  show lo wanted _ (JK wanted _ (f,h) wAnd) _ = _
  rw [J2j (by decide) (by decide) (.inr (by show h ≠ 0; omega))]
  exact i2 wanted _ f h hh
 | up2 _ ih => exact ih
 | either _ _ i1 i2 =>
  intro wanted i f h hh
  rw [J2J,i1 wanted i f h hh]
  show lo wanted _ (JK wanted _ (f,h) wOr) _ = _
  rw [J2j (by decide) (by decide) (.inr (by show h ≠ 0; omega))]
  exact i2 wanted _ f h hh
theorem J3f {n : Nat} {ws : List Wd} {r : R} (d : Rds n ws r) : ∀ (i : Nat) (f : Int),
  (∃ g,lo wOr i (f,0) ws = (g,0)) ∧ (∃ g,lo wAnd i (f,0) ws = (g,0)) ∧ (n ≤ 1 → lo wOr i (f,0) ws = (f,0)) ∧ (n = 0 → lo wAnd i (f,0) ws = (f,0)) := by
 induction d with
 | @plain ws r hp =>
  intro i f
  have a : lo wOr i (f,0) ws = (f,0) := J64 fun w hw => ⟨((J1T hp).1 w hw).1,((J1T hp).1 w hw).2.1,.inl ((J1T hp).1 w hw).2.2.1⟩
  have b : lo wAnd i (f,0) ws = (f,0) := J64 fun w hw => ⟨((J1T hp).1 w hw).1,((J1T hp).1 w hw).2.1,.inl ((J1T hp).1 w hw).2.2.2.1⟩
  exact ⟨⟨_,a⟩,⟨_,b⟩,fun _ => a,fun _ => b⟩
 | @neg ws r _ ih =>
  intro i f
  have a : lo wOr i (f,0) (wNot :: ws) = (f,0) := by
   show lo wOr (i + 1) (JK wOr i (f,0) wNot) ws = _
   rw [J2j (by decide) (by decide) (.inl (by decide))]
   exact (ih (i + 1) f).2.2.1 (by decide)
  have b : lo wAnd i (f,0) (wNot :: ws) = (f,0) := by
   show lo wAnd (i + 1) (JK wAnd i (f,0) wNot) ws = _
   rw [J2j (by decide) (by decide) (.inl (by decide))]
   exact (ih (i + 1) f).2.2.2 rfl
  exact ⟨⟨_,a⟩,⟨_,b⟩,fun _ => a,fun _ => b⟩
 | @br ws r hd _ =>
  intro i f
  have key : ∀ wanted,lo wanted i (f,0) (wL :: (ws ++ [wR])) = (f,0) := fun wanted => by
   show lo wanted (i + 1) (JK wanted i (f,0) wL) _ = _
   have e : JK wanted i (f,0) wL = (f,1) := by unfold JK; rw [if_pos rfl]; rfl
   rw [e,J2J,Jee hd wanted (i + 1) f 1 (by decide)]
   rw [lo,lo]
   unfold JK
   rw [if_neg (by decide),if_pos rfl]
   rfl
  exact ⟨⟨_,key _⟩,⟨_,key _⟩,fun _ => key _,fun _ => key _⟩
 | @up1 ws r _ ih =>
  intro i f
  obtain ⟨a,b,c,d⟩ := ih i f
  exact ⟨a,b,fun _ => c (by decide),fun z => by cases z⟩
 | @both a b x y _ _ i1 i2 =>
  intro i f
  have p : lo wOr i (f,0) (a ++ wAnd :: b) = (f,0) := by
   rw [J2J,(i1 i f).2.2.1 (by decide)]
   show lo wOr _ (JK wOr _ (f,0) wAnd) b = _
   rw [J2j (by decide) (by decide) (.inl (by decide))]
   exact (i2 _ f).2.2.1 (by decide)
  obtain ⟨g,hg⟩ := (i1 i f).2.1
  refine ⟨⟨_,p⟩,⟨((i + a.length : Nat) : Int),?_⟩,fun _ => p,fun z => by cases z⟩
  rw [J2J,hg]
  show lo wAnd _ (JK wAnd _ (g,0) wAnd) b = _
  have e : JK wAnd (i + a.length) (g,0) wAnd = (((i + a.length : Nat) : Int),0) := by
   unfold JK
   rw [if_neg (by decide),if_neg (by decide),if_pos ⟨rfl,rfl⟩]
  rw [e]
  exact (i2 _ _).2.2.2 rfl
 | @up2 ws r _ ih =>
  intro i f
  obtain ⟨a,b,c,d⟩ := ih i f
  exact ⟨a,b,fun z => by omega,fun z => by cases z⟩
 | @either a b x y _ _ i1 i2 =>
  intro i f
  obtain ⟨g,hg⟩ := (i1 i f).1
  obtain ⟨g2,hg2⟩ := (i1 i f).2.1
  refine ⟨⟨((i + a.length : Nat) : Int),?_⟩,?_,fun z => by omega,fun z => by cases z⟩
  ·rw [J2J,hg]
   show lo wOr _ (JK wOr _ (g,0) wOr) b = _
   have e : JK wOr (i + a.length) (g,0) wOr = (((i + a.length : Nat) : Int),0) := by
    unfold JK
    rw [if_neg (by decide),if_neg (by decide),if_pos ⟨rfl,rfl⟩]
   rw [e]
   exact (i2 _ _).2.2.1 (by decide)
  ·obtain ⟨g3,hg3⟩ := (i2 (i + a.length + 1) g2).2.1
   refine ⟨g3,?_⟩
   rw [J2J,hg2]
   show lo wAnd _ (JK wAnd _ (g2,0) wOr) b = _
   rw [J2j (by decide) (by decide) (.inl (by decide))]
   exact hg3
theorem Jfm {a b : List Wd} {x y : R} (h1 : Rds 2 a x) (h2 : Rds 1 b y) : JI (a ++ wOr :: b) wOr = (a.length : Int) := by
 unfold JI
 obtain ⟨g,hg⟩ := (J3f h1 0 (-1)).1
 rw [J2J,hg]
 show (lo wOr _ (JK wOr _ (g,0) wOr) b).1 = _
 have e : JK wOr (0 + a.length) (g,0) wOr = (((0 + a.length : Nat) : Int),0) := by
  unfold JK
  rw [if_neg (by decide),if_neg (by decide),if_pos ⟨rfl,rfl⟩]
 rw [e,(J3f h2 _ _).2.2.1 (by decide)]
 show ((0 + a.length : Nat) : Int) = _
 rw [Nat.zero_add]
theorem Jej {a b : List Wd} {x y : R} (h1 : Rds 1 a x) (h2 : Rds 0 b y) : JI (a ++ wAnd :: b) wAnd = (a.length : Int) := by
 unfold JI
 obtain ⟨g,hg⟩ := (J3f h1 0 (-1)).2.1
 rw [J2J,hg]
 show (lo wAnd _ (JK wAnd _ (g,0) wAnd) b).1 = _
 have e : JK wAnd (0 + a.length) (g,0) wAnd = (((0 + a.length : Nat) : Int),0) := by
  unfold JK
  rw [if_neg (by decide),if_neg (by decide),if_pos ⟨rfl,rfl⟩]
 rw [e,(J3f h2 _ _).2.2.2 rfl]
 show ((0 + a.length : Nat) : Int) = _
 rw [Nat.zero_add]
theorem Jbw {n : Nat} {ws : List Wd} {r : R} (h : Rds n ws r) (hn : n ≤ 1) : JI ws wOr = -1 := by unfold JI; rw [(J3f h 0 (-1)).2.2.1 hn]
theorem JaV {ws : List Wd} {r : R} (h : Rds 0 ws r) : JI ws wAnd = -1 := by unfold JI; rw [(J3f h 0 (-1)).2.2.2 rfl]
theorem Rds.pos {n : Nat} {ws : List Wd} {r : R} (d : Rds n ws r) : 0 < ws.length := by
 induction d with
 | plain hp => exact List.length_pos_iff.mpr (J1T hp).2
 | neg _ _ => simp
 | br _ _ => simp
 | up1 _ ih => exact ih
 | both _ _ _ _ => simp; omega
 | up2 _ ih => exact ih
 | either _ _ _ _ => simp; omega
theorem Jey {n : Nat} {ws : List Wd} {r : R} (d : Rds n ws r) : ∀ m,ws.length ≤ m → rdW m ws = some r := by
 induction d with
 | @plain ws r hp =>
  intro m hm
  have h1 := J1T hp
  have h2 : Rds 0 ws r := .plain hp
  cases m with
  | zero => have := h2.pos; omega
  | succ m =>
   rw [rdW,Jbw h2 (by decide),if_neg (by decide),JaV h2,if_neg (by decide)]
   obtain ⟨w,t,rfl⟩ : ∃ w t,ws = w :: t := by
    cases ws with
    | nil => exact absurd rfl h1.2
    | cons w t => exact ⟨w,t,rfl⟩
   obtain ⟨a,_,_,_,e⟩ := h1.1 w List.mem_cons_self
   rw [if_neg (by simpa using e),if_neg (by intro z; exact a (by simpa using z.1))]
   exact hp
 | @neg ws r hd ih =>
  intro m hm
  have h2 : Rds 0 (wNot :: ws) (.neg r) := .neg hd
  cases m with
  | zero => simp at hm
  | succ m =>
   rw [rdW,Jbw h2 (by decide),if_neg (by decide),JaV h2,if_neg (by decide),if_pos (show List.take 1 (wNot :: ws) = [wNot] from rfl)]
   show (match rdW m ws with | some x => some (R.neg x) | none => none) = _
   rw [ih m (by simpa using hm)]
 | @br ws r hd ih =>
  intro m hm
  have h2 : Rds 0 (wL :: (ws ++ [wR])) r := .br hd
  cases m with
  | zero => simp at hm
  | succ m =>
   rw [rdW,Jbw h2 (by decide),if_neg (by decide),JaV h2,if_neg (by decide),if_neg (by simp),if_pos]
   ·have e : ((wL :: (ws ++ [wR])).drop 1).take ((wL :: (ws ++ [wR])).length - 2) = ws := by
     simp
    rw [e]
    exact ih m (by simp at hm; omega)
   ·refine ⟨rfl,?_⟩
    simp
 | @up1 ws r _ ih => exact ih
 | @both a b x y h1 h2 i1 i2 =>
  intro m hm
  have h3 : Rds 1 (a ++ wAnd :: b) (.both x y) := .both h1 h2
  cases m with
  | zero => simp at hm
  | succ m =>
   have hl : a.length + (b.length + 1) ≤ m + 1 := by simpa using hm
   rw [rdW,Jbw h3 (by decide),if_neg (by decide),Jej h1 h2,if_pos (by omega)]
   have e1 : (a ++ wAnd :: b).take ((a.length : Int).toNat) = a := by simp
   have e2 : (a ++ wAnd :: b).drop ((a.length : Int).toNat + 1) = b := by
    rw [Int.toNat_natCast,← List.drop_drop]
    simp
   rw [e1,e2,i1 m (by omega),i2 m (by omega)]
 | @up2 ws r _ ih => exact ih
 | @either a b x y h1 h2 i1 i2 =>
  intro m hm
  cases m with
  | zero => simp at hm
  | succ m =>
   have hl : a.length + (b.length + 1) ≤ m + 1 := by simpa using hm
   rw [rdW,Jfm h1 h2,if_pos (by omega)]
   have e1 : (a ++ wOr :: b).take ((a.length : Int).toNat) = a := by simp
   have e2 : (a ++ wOr :: b).drop ((a.length : Int).toNat + 1) = b := by
    rw [Int.toNat_natCast,← List.drop_drop]
    simp
   rw [e1,e2,i1 m (by omega),i2 m (by omega)]
noncomputable abbrev sgM : Wd := [65,66,67,68,69,70,71,72,73,74,75,76,77,78,79,80,81,82,83,84,85,86,87,88,89,90,45,35]
noncomputable abbrev sgW : Wd := [65,66,67,68,69,70,71,72,73,74,75,76,77,78,79,80,81,82,83,84,85,86,87,88,89,90,45,35,63]
noncomputable abbrev fgN : Wd := [48,49,50,51,52,53,54,55]
noncomputable abbrev fgD : Wd := [49,50,51,52,53,54,55]
noncomputable def R.sz : R → Nat
 | .nev _ => 1
 | .most _ _ _ => 1
 | .least _ _ _ => 1
 | .both l r => l.sz + r.sz + 1
 | .either l r => l.sz + r.sz + 1
 | .neg i => i.sz + 1
theorem R.sz_pos : ∀ r : R,1 ≤ r.sz
 | .nev _ => Nat.le_refl _
 | .most _ _ _ => Nat.le_refl _
 | .least _ _ _ => Nat.le_refl _
 | .both _ _ => Nat.le_add_left _ _
 | .either _ _ => Nat.le_add_left _ _
 | .neg _ => Nat.le_add_left _ _
noncomputable def R.lvl : R → Nat
 | .both _ _ => 1
 | .either _ _ => 2
 | _ => 0
theorem R.lvl2 : ∀ r : R,r.lvl ≤ 2
 | .nev _ => Nat.zero_le _
 | .most _ _ _ => Nat.zero_le _
 | .least _ _ _ => Nat.zero_le _
 | .both _ _ => Nat.le_succ 1
 | .either _ _ => Nat.le_refl 2
 | .neg _ => Nat.zero_le _
noncomputable def cnT (w : List Nat) (n : Int) (m : List Nat) (d : Int) : List Nat := w ++ [32] ++ [48 + n.toNat] ++ [32,111,102,32] ++ m ++ [32,105,110,32] ++ [48 + d.toNat]
noncomputable def brT (b : Bool) (t : List Nat) : List Nat := if b = true then [40,32] ++ t ++ [32,41] else t
noncomputable def R.tx : R → List Nat
 | .nev w => [110,101,118,101,114,32] ++ w
 | .most n m d => cnT [109,111,115,116] n m d
 | .least n m d => cnT [108,101,97,115,116] n m d
 | .both l r => brT (decide (1 < l.lvl)) l.tx ++ [32,97,110,100,32] ++ brT (decide (0 < r.lvl)) r.tx
 | .either l r => brT (decide (2 < l.lvl)) l.tx ++ [32,111,114,32] ++ brT (decide (1 < r.lvl)) r.tx
 | .neg i => [110,111,116,32] ++ brT (decide (0 < i.lvl)) i.tx
noncomputable def R.ok : R → Prop
 | .nev w => J2h w = true
 | .most n m d => (0 ≤ n ∧ n ≤ 7) ∧ (1 ≤ d ∧ d ≤ 7) ∧ J0z m = true
 | .least n m d => (0 ≤ n ∧ n ≤ 7) ∧ (1 ≤ d ∧ d ≤ 7) ∧ J0z m = true
 | .both l r => l.ok ∧ r.ok
 | .either l r => l.ok ∧ r.ok
 | .neg i => i.ok
theorem J7Q {w : Wd} (h : J2h w = true) : 1 ≤ w.length ∧ w.length ≤ 7 := by
 unfold J2h at h
 simp only [Bool.and_eq_true,decide_eq_true_eq] at h
 exact h.1
theorem J43 {w : Wd} (h : J0z w = true) : 1 ≤ w.length ∧ w.length ≤ 8 := by
 unfold J0z at h
 simp only [Bool.and_eq_true,decide_eq_true_eq] at h
 exact h.1.1
theorem J1m (a b : List Nat) : Jx 32 (a ++ 32 :: b) = Jx 32 a ++ Jx 32 b := by
 induction a with
 | nil => rfl
 | cons x r ih =>
  show Jx 32 (x :: (r ++ 32 :: b)) = Jx 32 (x :: r) ++ Jx 32 b
  by_cases e : x = 32
  ·rw [Jx,if_pos e,ih,Jx,if_pos e]
   rfl
  ·rw [Jx,if_neg e,ih,Jx,if_neg e]
   obtain ⟨h,t,eq⟩ := J3j 32 r
   rw [eq]
   rfl
theorem J2D {w : List Nat} (h : 32 ∉ w) : Jx 32 w = [w] := by
 induction w with
 | nil => rfl
 | cons x r ih =>
  rw [Jx,if_neg (fun e => h (by rw [e]; exact List.mem_cons_self)),ih (fun z => h (List.mem_cons_of_mem _ z))]
noncomputable def wcN (t : List Nat) : Nat := (Jx 32 t).length
theorem J9y {w : Wd} (h : J2h w = true) : 32 ∉ w := fun z => J3g h 32 z (by decide) rfl
theorem J4U {w : Wd} (h : J0z w = true) : 32 ∉ w := fun z => J3n h 32 z (by decide) rfl
theorem J8E {a m : List Nat} {n d : Int} (ha : 32 ∉ a) (hm : 32 ∉ m) : Jx 32 (cnT a n m d) = [a,[48 + n.toNat],wOf,m,wIn,[48 + d.toNat]] := by
 have e : cnT a n m d = a ++ 32 :: ([48 + n.toNat] ++ 32 :: ([111,102] ++ 32 :: (m ++ 32 :: ([105,110] ++ 32 :: [48 + d.toNat])))) := by
  unfold cnT
  simp [List.append_assoc]
 have one : ∀ k : Nat,32 ∉ [48 + k] := fun k z => by
  have := List.mem_singleton.mp z
  omega
 rw [e,J1m,J1m,J1m,J1m,J1m,J2D ha,J2D (one _),J2D (w := [111,102]) (by decide),J2D hm,J2D (w := [105,110]) (by decide),J2D (one _)]
 rfl
theorem J4O (t : List Nat) : Jx 32 ([110,111,116,32] ++ t) = wNot :: Jx 32 t := by
 rw [show [110,111,116,32] ++ t = [110,111,116] ++ 32 :: t from rfl,J1m]
 rfl
theorem J5E (t : List Nat) : Jx 32 ([40,32] ++ t ++ [32,41]) = wL :: (Jx 32 t ++ [wR]) := by
 rw [show [40,32] ++ t ++ [32,41] = [40] ++ 32 :: (t ++ 32 :: [41]) by simp,J1m,J1m]
 rfl
theorem J56 (a b : List Nat) : Jx 32 (a ++ [32,97,110,100,32] ++ b) = Jx 32 a ++ wAnd :: Jx 32 b := by
 rw [show a ++ [32,97,110,100,32] ++ b = a ++ 32 :: ([97,110,100] ++ 32 :: b) by simp,J1m,J1m]
 rfl
theorem J6P (a b : List Nat) : Jx 32 (a ++ [32,111,114,32] ++ b) = Jx 32 a ++ wOr :: Jx 32 b := by
 rw [show a ++ [32,111,114,32] ++ b = a ++ 32 :: ([111,114] ++ 32 :: b) by simp,J1m,J1m]
 rfl
theorem Rds.up {n m : Nat} {ws : List Wd} {r : R} (h : Rds n ws r) (h1 : n ≤ m) (h2 : m ≤ 2) : Rds m ws r := by
 have : (n = 0 ∨ n = 1 ∨ n = 2) ∧ (m = 0 ∨ m = 1 ∨ m = 2) := by omega
 obtain ⟨rfl | rfl | rfl,rfl | rfl | rfl⟩ := this
 ·exact h
 ·exact .up1 h
 ·exact .up2 (.up1 h)
 ·omega
 ·exact h
 ·exact .up2 h
 ·omega
 ·omega
 ·exact h
theorem Jfs {w : Wd} (h : J2h w = true) : Rds 0 (Jx 32 ([110,101,118,101,114,32] ++ w)) (.nev w) := by
 rw [show [110,101,118,101,114,32] ++ w = [110,101,118,101,114] ++ 32 :: w from rfl,J1m,J2D (w := [110,101,118,101,114]) (by decide),J2D (J9y h)]
 refine .plain ?_
 show (if J3X = J3X ∧ J2h w = true then some (R.nev w) else none) = _
 rw [if_pos ⟨rfl,h⟩]
theorem J8z {lo hi : Nat} {n : Int} (h0 : (lo : Int) ≤ n) (h1 : n ≤ (hi : Int)) : fig lo hi [48 + n.toNat] = some n.toNat := by
 show (if 48 + lo ≤ 48 + n.toNat ∧ 48 + n.toNat ≤ 48 + hi then some (48 + n.toNat - 48) else none) = _
 rw [if_pos ⟨by omega,by omega⟩,show 48 + n.toNat - 48 = n.toNat by omega]
theorem Jef {n d : Int} {m : Wd} (hn : 0 ≤ n ∧ n ≤ 7) (hd : 1 ≤ d ∧ d ≤ 7) (hm : J0z m = true) : Rds 0 (Jx 32 (cnT [109,111,115,116] n m d)) (.most n m d) := by
 rw [J8E (by decide) (J4U hm)]
 refine .plain ?_
 show (if wOf = wOf ∧ wIn = wIn ∧ J0z m = true then
   match fig 0 7 [48 + n.toNat],fig 1 7 [48 + d.toNat] with
   | some n,some d => if J30 = J30 then some (R.most n m d) else if J30 = J1Q then some (.least n m d) else none
   | _,_ => none
  else none) = _
 rw [if_pos ⟨rfl,rfl,hm⟩,J8z (lo := 0) (hi := 7) (by omega) (by omega),J8z (lo := 1) (hi := 7) (by omega) (by omega)]
 show (if J30 = J30 then some (R.most (n.toNat : Int) m (d.toNat : Int)) else _) = _
 rw [if_pos rfl,show ((n.toNat : Nat) : Int) = n by omega,show ((d.toNat : Nat) : Int) = d by omega]
theorem Jdo {n d : Int} {m : Wd} (hn : 0 ≤ n ∧ n ≤ 7) (hd : 1 ≤ d ∧ d ≤ 7) (hm : J0z m = true) : Rds 0 (Jx 32 (cnT [108,101,97,115,116] n m d)) (.least n m d) := by
 rw [J8E (by decide) (J4U hm)]
 refine .plain ?_
 show (if wOf = wOf ∧ wIn = wIn ∧ J0z m = true then
   match fig 0 7 [48 + n.toNat],fig 1 7 [48 + d.toNat] with
   | some n,some d => if J1Q = J30 then some (R.most n m d) else if J1Q = J1Q then some (.least n m d) else none
   | _,_ => none
  else none) = _
 rw [if_pos ⟨rfl,rfl,hm⟩,J8z (lo := 0) (hi := 7) (by omega) (by omega),J8z (lo := 1) (hi := 7) (by omega) (by omega)]
 show (if J1Q = J30 then _ else if J1Q = J1Q then some (R.least (n.toNat : Int) m (d.toNat : Int)) else _) = _
 rw [if_neg (by decide),if_pos rfl,show ((n.toNat : Nat) : Int) = n by omega,show ((d.toNat : Nat) : Int) = d by omega]
structure TxW (h : Nat) (r : R) (t : List Nat) : Prop where
 rd : Rds h (Jx 32 t) r
 ln : t.length ≤ 32 * r.sz + 4
 wc : wcN (brT (decide (h < r.lvl)) r.tx) ≤ wcN t
structure TxA (r : R) (t : List Nat) : Prop where
 rd : Rds r.lvl (Jx 32 t) r
 ln : t.length ≤ 32 * r.sz
 wc : wcN r.tx ≤ wcN t
theorem Jew (t : List Nat) : wcN ([40,32] ++ t ++ [32,41]) = wcN t + 2 := by
 unfold wcN
 rw [J5E]
 simp
theorem Jdn (b : Bool) (t : List Nat) : wcN (brT b t) = if b = true then wcN t + 2 else wcN t := by
 unfold brT
 cases b
 ·rfl
 ·exact Jew t
theorem TxA.br {r : R} {t : List Nat} (x : TxA r t) (h : Nat) (h2 : h ≤ 2) : TxW h r ([40,32] ++ t ++ [32,41]) := by
 refine ⟨?_,?_,?_⟩
 ·rw [J5E]
  exact (Rds.br (x.rd.up (R.lvl2 r) (Nat.le_refl _))).up (Nat.zero_le _) h2
 ·have := x.ln
  simp
  omega
 ·have := x.wc
  rw [Jew,Jdn]
  split <;> omega
theorem TxA.in {r : R} {t : List Nat} (x : TxA r t) {h : Nat} (h2 : h ≤ 2) (hl : r.lvl ≤ h) : TxW h r t := by
 refine ⟨x.rd.up hl h2,by have := x.ln; omega,?_⟩
 rw [Jdn,decide_eq_false (by omega),if_neg Bool.false_ne_true]
 exact x.wc
theorem Jfc {w : Wd} (h : J2h w = true) : TxA (.nev w) ([110,101,118,101,114,32] ++ w) := by
 refine ⟨Jfs h,?_,Nat.le_refl _⟩
 have := J7Q h
 rw [List.length_append]
 show 6 + w.length ≤ 32 * 1
 omega
theorem JcT (a m : List Nat) (n d : Int) : (cnT a n m d).length = a.length + m.length + 11 := by
 unfold cnT
 simp
 omega
theorem Jen {n d : Int} {m : Wd} (hn : 0 ≤ n ∧ n ≤ 7) (hd : 1 ≤ d ∧ d ≤ 7) (hm : J0z m = true) : TxA (.most n m d) (cnT [109,111,115,116] n m d) := by
 refine ⟨Jef hn hd hm,?_,Nat.le_refl _⟩
 have := J43 hm
 rw [JcT]
 show 4 + m.length + 11 ≤ 32 * 1
 omega
theorem Jd8 {n d : Int} {m : Wd} (hn : 0 ≤ n ∧ n ≤ 7) (hd : 1 ≤ d ∧ d ≤ 7) (hm : J0z m = true) : TxA (.least n m d) (cnT [108,101,97,115,116] n m d) := by
 refine ⟨Jdo hn hd hm,?_,Nat.le_refl _⟩
 have := J43 hm
 rw [JcT]
 show 5 + m.length + 11 ≤ 32 * 1
 omega
theorem JaP {i : R} {t : List Nat} (x : TxW 0 i t) : TxA (.neg i) ([110,111,116,32] ++ t) := by
 refine ⟨?_,?_,?_⟩
 ·rw [J4O]
  exact .neg x.rd
 ·have := x.ln
  rw [List.length_append]
  show 4 + t.length ≤ 32 * (i.sz + 1)
  omega
 ·have := x.wc
  unfold wcN at this ⊢
  show (Jx 32 ([110,111,116,32] ++ brT (decide (0 < i.lvl)) i.tx)).length ≤ _
  rw [J4O,J4O,List.length_cons,List.length_cons]
  omega
theorem Jbp {l r : R} {a b : List Nat} (x : TxW 1 l a) (y : TxW 0 r b) : TxA (.both l r) (a ++ [32,97,110,100,32] ++ b) := by
 refine ⟨?_,?_,?_⟩
 ·rw [J56]
  exact .both x.rd y.rd
 ·have := x.ln
  have := y.ln
  rw [List.length_append,List.length_append]
  show a.length + 5 + b.length ≤ 32 * (l.sz + r.sz + 1)
  omega
 ·have := x.wc
  have := y.wc
  unfold wcN at *
  show (Jx 32 (brT (decide (1 < l.lvl)) l.tx ++ [32,97,110,100,32] ++ brT (decide (0 < r.lvl)) r.tx)).length ≤ _
  rw [J56,J56,List.length_append,List.length_append,List.length_cons,List.length_cons]
  omega
theorem J5B {l r : R} {a b : List Nat} (x : TxW 2 l a) (y : TxW 1 r b) : TxA (.either l r) (a ++ [32,111,114,32] ++ b) := by
 refine ⟨?_,?_,?_⟩
 ·rw [J6P]
  exact .either x.rd y.rd
 ·have := x.ln
  have := y.ln
  rw [List.length_append,List.length_append]
  show a.length + 4 + b.length ≤ 32 * (l.sz + r.sz + 1)
  omega
 ·have := x.wc
  have := y.wc
  unfold wcN at *
  show (Jx 32 (brT (decide (2 < l.lvl)) l.tx ++ [32,111,114,32] ++ brT (decide (1 < r.lvl)) r.tx)).length ≤ _
  rw [J6P,J6P,List.length_append,List.length_append,List.length_cons,List.length_cons]
  omega
theorem TxA.wt {r : R} {t : List Nat} (x : TxA r t) (h : Nat) (h2 : h ≤ 2) : TxW h r (brT (decide (h < r.lvl)) t) := by
 unfold brT
 by_cases e : h < r.lvl
 ·rw [decide_eq_true e,if_pos rfl]
  exact x.br h h2
 ·rw [decide_eq_false e,if_neg Bool.false_ne_true]
  exact x.in h2 (by omega)
theorem R.tx_ok : ∀ {r : R},r.ok → TxA r r.tx
 | .nev _,h => Jfc h
 | .most _ _ _,h => Jen h.1 h.2.1 h.2.2
 | .least _ _ _,h => Jd8 h.1 h.2.1 h.2.2
 | .both _ _,h => Jbp ((R.tx_ok h.1).wt 1 (by decide)) ((R.tx_ok h.2).wt 0 (by decide))
 | .either _ _,h => J5B ((R.tx_ok h.1).wt 2 (by decide)) ((R.tx_ok h.2).wt 1 (by decide))
 | .neg i,h => JaP ((R.tx_ok (r := i) h).wt 0 (by decide))
theorem JcN {w : Wd} (h1 : 1 ≤ w.length) (h2 : w.length ≤ 7) (h3 : ∀ c ∈ w,J4j c = true) : J2h w = true := by
 unfold J2h
 rw [decide_eq_true h1,decide_eq_true h2,List.all_eq_true.mpr h3]
 rfl
theorem J9x {w : Wd} (h1 : 1 ≤ w.length) (h2 : w.length ≤ 8) (h3 : ∀ c ∈ w,J3P c = true) (h4 : w.Nodup) : J0z w = true := by
 unfold J0z
 rw [decide_eq_true h1,decide_eq_true h2,List.all_eq_true.mpr h3,decide_eq_true h4]
 rfl
section
variable {P : Program} {w : World} {K : PySem.W.Frag} {mg : Str → Option Value} {base : Heap} {Jb Jf Ja Jh J8 Jn J5 J3 : Addr}
theorem Jcv (tx : Tx K mg Jb Jf Ja Jh J8 Jn J5 J3) : FnG P w K mg base "fits" 1 ["sign","mark"] JdI := by
 refine tx.JeL.g JdM (fun _ _ _ _ _ _ us hl => match us,hl with | [_,_],_ => rfl) (fun vs H Q E h => ?_) (fun f cdv A outer s H vs Q E hr h => ?_)
 ·obtain ⟨a,b,rfl,_⟩ := h
  rfl
 ·obtain ⟨a,b,rfl,q⟩ := h
  refine ⟨_,(J2 (JO (Jl J0c (pv 0) (Js (l := [63]) (by decide +kernel)) (Jq _)) (J9 (Jt J4k)) Jw)
   (J2 (JO (Jl J0c (pv 0) (Js (l := [35]) (by decide +kernel)) (Jq _)) (J9 (Jt (J2q J2Y (pv 1) (Js (l := [45]) (by decide +kernel)) (Jq _)))) Jw)
   (J9 (Jt (J2q J0c (pv 0) (pv 1) (Jq _)))))),?_⟩
  walk_at "st"
  refine ⟨_,rfl,rfl,_,rfl,?_⟩
  refine ite2 (fun c => ?_) (fun c => ?_)
  ·have e : J36 (T a) (T b) = true := by unfold J36; rw [if_pos c]
   rw [e] at q
   exact q
  ·refine ⟨_,rfl,rfl,_,rfl,?_⟩
   refine ite2 (fun c2 => ?_) (fun c2 => ?_)
   ·have e : J36 (T a) (T b) = !decide (T b = T [45]) := by unfold J36; rw [if_neg c,if_pos c2]
    rw [e] at q
    exact ⟨_,rfl,rfl,q⟩
   ·have e : J36 (T a) (T b) = decide (T a = T b) := by unfold J36; rw [if_neg c,if_neg c2]
    rw [e] at q
    exact ⟨_,rfl,_,rfl,rfl,q⟩
theorem J3u (tx : Tx K mg Jb Jf Ja Jh J8 Jn J5 J3) : FnG P w K mg base "last_marks" 1 ["marks","many"] JdQ := by
 refine tx.J8f.g J7o (fun _ _ _ _ _ _ us hl => match us,hl with | [_,_],_ => rfl) (fun vs H Q E h => ?_) (fun f cdv A outer s H vs Q E hr h => ?_)
 ·obtain ⟨a,b,rfl,_⟩ := h
  rfl
 ·obtain ⟨l,n,rfl,hl,hn,q⟩ := h
  refine ⟨_,(J9 (Jt (JJ J3T (pv 0) (JT (Ju (Jcc rfl) rfl tx.J9n Jfz (J0 J6 (J0 (Jd JaD (Ju JX rfl tx.J05 PySem.boot_len (J0 (pv 0) J1)) (pv 1)) J1)))) J09))),?_⟩
  walk_at "st"
  refine ⟨_,rfl,_,rfl,l,rfl,J5C hl,_,rfl,_,_,rfl,rfl,_,_,rfl,_,rfl,l,rfl,J5C hl,?_⟩
  have e : cutN l (some (if (l.length : Int) - n > 0 then (l.length : Int) - n else 0)) none = l.drop (l.length - n.toNat) := by
   rw [J3S _ _ (by split <;> omega)]
   congr 1
   split <;> omega
  rw [e]
  exact q
theorem Jcy (tx : Tx K mg Jb Jf Ja Jh J8 Jn J5 J3) : FnG P w K mg base "let_by" 2 ["signs","mark"] JeI := by
 have Jaq := Jcv (P := P) (w := w) (base := base) tx
 refine tx.Jcm.g Jbx (fun _ _ _ _ _ _ us hl => match us,hl with | [_,_],_ => rfl) (fun vs H Q E h => ?_) (fun f cdv A outer s H vs Q E hr h => ?_)
 ·obtain ⟨m,c,rfl,_⟩ := h
  rfl
 ·obtain ⟨m,c,rfl,hm,q⟩ := h
  refine ⟨_,(J9 (Jt (Ju (J6L (K := K) rfl rfl) rfl tx.J7x Jdc (J0 (J0p (osc := J4 J2V) (ON := ["signs","mark"]) (N := ["sign","mark"]) (js := [none,some 1]) ⟨rfl,by decide +kernel,by decide +kernel,by decide +kernel,rfl,by decide +kernel⟩ rfl rfl rfl (J4x (pv 0)) (fun _ _ _ _ _ => Je (i := 0) (show List.Nodup (["sign","mark"] : List Str) from by decide +kernel) rfl (Or.inl rfl)) (fun _ _ _ _ _ => J0A) (fun _ _ _ _ _ => (JB Jaq (hr.mono (by decide)) (J0 (pv 0) (J0 (pv 1) J1))))) J1)))),?_⟩
  walk_at "st"
  refine ⟨_,rfl,m,rfl,?_⟩
  refine J4X (fun x => match x with | .str z => .bl (J36 (.str z) (T [c])) | v => v) (J3o m) ?_ (fun x hx H' s' R hR => ?_) (fun D H' hD s' hDD => ?_)
  ·rw [List.length_map]; omega
  ·obtain ⟨k,_,rfl⟩ := List.mem_map.mp hx
   exact ⟨_,rfl,_,rfl,[k],[c],rfl,hR H' (Same.refl _)⟩
  refine ⟨D,m.map fun s => J36 (T [s]) (T [c]),rfl,SqL.of ?_,?_⟩
  ·rw [hDD,List.map_map,List.map_map]
   rfl
  ·exact q H' s'
theorem J49 (tx : Tx K mg Jb Jf Ja Jh J8 Jn J5 J3) : FnG P w K mg base "count_among" 3 ["signs","marks"] Jcr := by
 have Jcp := Jcy (P := P) (w := w) (base := base) tx
 refine tx.J7k.g J6p (fun _ _ _ _ _ _ us hl => match us,hl with | [_,_],_ => rfl) (fun vs H Q E h => ?_) (fun f cdv A outer s H vs Q E hr h => ?_)
 ·obtain ⟨m,c,rfl,_⟩ := h
  rfl
 ·obtain ⟨m,l,rfl,hm,hl,q⟩ := h
  refine ⟨_,(J9 (Jt (Ju (JH (K := K) rfl) rfl tx.J05 PySem.boot_len (J0 (J0p (osc := J4 J0M) (ON := ["signs","marks"]) (N := ["mark","signs"]) (js := [none,some 0]) ⟨rfl,by decide +kernel,by decide +kernel,by decide +kernel,rfl,by decide +kernel⟩ rfl rfl rfl (J4x (pv 1)) (fun _ _ _ _ _ => Je (i := 0) (show List.Nodup (["mark","signs"] : List Str) from by decide +kernel) rfl (Or.inl rfl)) (fun _ _ _ _ _ => J17 (J2z (JB Jcp (hr.mono (by decide)) (J0 (pv 1) (J0 (pv 0) J1))))) (fun _ _ _ _ _ => (pv 0))) J1)))),?_⟩
  walk_at "st"
  refine ⟨_,rfl,l,rfl,?_⟩
  refine J52 (fun x => match x with | .str ⟨⟨[c]⟩⟩ => letV m c | _ => false) (fun x => x) (J3o l) ?_ (fun x hx H' s' R hR => ?_) (fun x hx hp H' s' R hR => ?_) (fun D H' hD s' hDD => ?_)
  ·rw [List.length_map]; omega
  ·obtain ⟨k,_,rfl⟩ := List.mem_map.mp hx
   exact ⟨_,rfl,_,rfl,m,k,rfl,hm,fun H2 s2 => ⟨_,rfl,hR H2 s2⟩⟩
  ·exact ⟨_,rfl,hR H' (Same.refl _)⟩
  refine ⟨D,_,rfl,.inl (SqL.of hDD),?_⟩
  have e : ((((l.map fun c => T [c]).filter (fun x => match x with | .str ⟨⟨[c]⟩⟩ => letV m c | _ => false)).map (fun x => x)).length : Int) = (cntV m l : Int) := by
   rw [List.length_map,List.filter_map,List.length_map]
   rfl
  rw [e]
  exact q H' s'
theorem J80 (tx : Tx K mg Jb Jf Ja Jh J8 Jn J5 J3) : MtG P w K mg base Jb "__init__" 1 ["self","word"] (Jb3 Jb) := by
 refine tx.J8s.g tx.J3s.cl J7s (fun _ _ _ _ _ _ us hl => match us,hl with | [_,_],_ => rfl) (fun vs H Q E h => ?_) (fun f cdv A outer s H vs Q E hr h => ?_)
 ·obtain ⟨p,dx,w,rfl,_⟩ := h
  rfl
 ·obtain ⟨p,dx,w,rfl,hp,q⟩ := h
  refine ⟨_,(J9 (J0q (pv 0) (pv 1) rfl)),?_⟩
  walk_at "st"
  exact ⟨_,rfl,_,rfl,p,Jb,dx,[],rfl,hp,tx.J3s.cl,tx.J0G,by decide,q⟩
theorem J8V (tx : Tx K mg Jb Jf Ja Jh J8 Jn J5 J3) : MtG P w K mg base Jb "bad" 2 ["self","marks"] (JeU Jb) := by
 have Jaq := Jcv (P := P) (w := w) (base := base) tx
 have J2n := J3u (P := P) (w := w) (base := base) tx
 refine tx.J91.g tx.J3s.cl J4K (fun _ _ _ _ _ _ us hl => match us,hl with | [_,_],_ => rfl) (fun vs H Q E h => ?_) (fun f cdv A outer s H vs Q E hr h => ?_)
 ·obtain ⟨p,w,l,rfl,_⟩ := h
  rfl
 ·obtain ⟨p,w,l,rfl,⟨dx,hp⟩,hw,hl,q⟩ := h
  refine ⟨_,(J2 (JO (Jl J5Q (Ju JX rfl tx.J05 PySem.boot_len (J0 (pv 1) J1)) (Ju JX rfl tx.J05 PySem.boot_len (J0 (JC (K := K) rfl (pv 0) rfl) J1)) (Jq _)) (J9 (Jt J4k)) Jw)
   (J2 (Jm (i := 2) J4K.nd rfl (Or.inl rfl) (JB J2n (hr.mono (by decide)) (J0 (pv 1) (J0 (Ju JX rfl tx.J05 PySem.boot_len (J0 (JC (K := K) rfl (pv 0) rfl) J1)) J1))))
   (J9 (Jt (Ju (J6V (K := K) rfl rfl) rfl tx.J7A Jd7 (J0 (J0p (osc := J4 J1r) (ON := ["self","marks","nearest"]) (N := ["sign","mark"]) (js := [none,none]) ⟨rfl,by decide +kernel,by decide +kernel,by decide +kernel,rfl,by decide +kernel⟩ rfl rfl rfl (Je4 rfl tx.J4L (J0 (JC (K := K) rfl (pv 0) rfl) (J0 (pv 2) J1))) (fun _ _ _ _ _ => J5w (K := K) (i := 0) (j := 1) rfl rfl (show List.Nodup (["sign","mark"] : List Str) from by decide +kernel) rfl rfl (Or.inl rfl) (Or.inl rfl)) (fun _ _ _ _ _ => J0A) (fun _ _ _ _ _ => (JB Jaq (hr.mono (by decide)) (J0 (pv 0) (J0 (pv 1) J1))))) J1)))))),?_⟩
  walk_at "st"
  refine ⟨_,rfl,l,rfl,J5C hl,_,rfl,p,Jb,dx,_,_,rfl,hp,tx.J3s.cl,tx.J0G,wl _,w,rfl,J5C hw,_,_,rfl,rfl,_,rfl,?_⟩
  refine ite2 (fun c => ?_) (fun c => ?_)
  ·have c' := of_decide_eq_true c
   have e : nevB w l = false := by unfold nevB; rw [if_pos (by omega)]
   have q' := q H (Same.refl _)
   rw [e] at q'
   exact q'
  ·have c' : ¬ ((l.length : Int) < (w.length : Int)) := of_decide_eq_false (Bool.eq_false_iff.mpr c)
   refine ⟨_,rfl,_,rfl,p,Jb,dx,_,_,rfl,hp,tx.J3s.cl,tx.J0G,wl _,w,rfl,J5C hw,l,_,rfl,hl,by omega,?_⟩
   refine ⟨_,rfl,p,Jb,dx,_,_,rfl,hp,tx.J3s.cl,tx.J0G,wl _,_,rfl,w,_,rfl,?_⟩
   refine JbY (fun c d => .bl (J36 (T [c]) (T [d]))) ?_ (fun c d H' s' R hR => ?_) (fun D H' hD s' hDD => ?_)
   ·omega
   ·exact ⟨_,rfl,_,rfl,_,_,rfl,hR H' (Same.refl _)⟩
   refine ⟨D,((w.zip (l.drop (l.length - (w.length : Int).toNat))).map fun p => J36 (T [p.1]) (T [p.2])),rfl,SqL.of ?_,?_⟩
   ·rw [hDD,List.map_map]
    rfl
   ·have e : nevB w l = ((w.zip (l.drop (l.length - (w.length : Int).toNat))).map fun p => J36 (T [p.1]) (T [p.2])).all id := by
     unfold nevB
     rw [if_neg (by omega),Int.toNat_natCast]
    have q' := q H' s'
    rw [e] at q'
    exact q'
theorem J8W (tx : Tx K mg Jb Jf Ja Jh J8 Jn J5 J3) : MtG P w K mg base Jf "__init__" 1 ["self","many","marks","days"] (J4F Jf) := by
 refine tx.J90.g tx.J3t.cl J8h (fun _ _ _ _ _ _ us hl => match us,hl with | [_,_,_,_],_ => rfl) (fun vs H Q E h => ?_) (fun f cdv A outer s H vs Q E hr h => ?_)
 ·obtain ⟨p,dx,n,m,d,rfl,_⟩ := h
  rfl
 ·obtain ⟨p,dx,n,m,d,rfl,hp,q⟩ := h
  refine ⟨_,(J2 (J0q (pv 0) (pv 1) rfl)
   (J2 (J0q (pv 0) (pv 2) rfl)
   (J9 (J0q (pv 0) (pv 3) rfl)))),?_⟩
  walk_at "st"
  refine ⟨_,rfl,_,rfl,p,Jf,dx,[],rfl,hp,tx.J3t.cl,tx.J2c,by decide,?_⟩
  refine ⟨_,rfl,_,rfl,p,Jf,dx,_,rfl,J7,tx.J3t.cl,tx.J1J,by show 1 < 1000; decide,?_⟩
  refine ⟨_,rfl,_,rfl,p,Jf,dx,_,rfl,J7,tx.J3t.cl,tx.J2b,?_,?_⟩
  ·have := J2i "marks" (T m) (putF "many" (.int n) [])
   have h2 := J2i "many" (V.int n) []
   have h3 : ([] : List (Str × V)).length = 0 := rfl
   omega
  rw [put3]
  exact q
theorem Jar (tx : Tx K mg Jb Jf Ja Jh J8 Jn J5 J3) : MtG P w K mg base Jf "bad" 4 ["self","marks"] (Jb2 Jf JeB) := by
 have J37 := J49 (P := P) (w := w) (base := base) tx
 have J2n := J3u (P := P) (w := w) (base := base) tx
 refine tx.Ja3.g tx.J3t.cl J9p (fun _ _ _ _ _ _ us hl => match us,hl with | [_,_],_ => rfl) (fun vs H Q E h => ?_) (fun f cdv A outer s H vs Q E hr h => ?_)
 ·obtain ⟨p,n,m,d,l,rfl,_⟩ := h
  rfl
 ·obtain ⟨p,n,m,d,l,rfl,⟨dx,hp⟩,hm,hd,hl,q⟩ := h
  refine ⟨_,(J9 (Jt (J2q J3m (JB J37 (hr.mono (by decide)) (J0 (JC (K := K) rfl (pv 0) rfl) (J0 (JB J2n (hr.mono (by decide)) (J0 (pv 1) (J0 (JC (K := K) rfl (pv 0) rfl) J1))) J1))) (JC (K := K) rfl (pv 0) rfl) (Jq _)))),?_⟩
  walk_at "st"
  refine ⟨_,rfl,p,Jf,dx,_,_,rfl,hp,tx.J3t.cl,tx.J1J,J9H _ _ _,_,rfl,_,rfl,p,Jf,dx,_,_,rfl,hp,tx.J3t.cl,tx.J2b,J8O _ _ _,l,d,rfl,hl,hd,m,_,rfl,hm,?_,fun H' s' => ?_⟩
  ·rw [List.length_drop]; omega
  exact ⟨_,rfl,p,Jf,dx,_,_,rfl,s' _ _ hp,tx.J3t.cl,tx.J2c,Jbr _ _ _,_,_,rfl,rfl,q H' s'⟩
theorem J8a (tx : Tx K mg Jb Jf Ja Jh J8 Jn J5 J3) : MtG P w K mg base Ja "__init__" 1 ["self","many","marks","days"] (J4F Ja) := by
 refine tx.J8p.g tx.J2B.cl J7e (fun _ _ _ _ _ _ us hl => match us,hl with | [_,_,_,_],_ => rfl) (fun vs H Q E h => ?_) (fun f cdv A outer s H vs Q E hr h => ?_)
 ·obtain ⟨p,dx,n,m,d,rfl,_⟩ := h
  rfl
 ·obtain ⟨p,dx,n,m,d,rfl,hp,q⟩ := h
  refine ⟨_,(J2 (J0q (pv 0) (pv 1) rfl)
   (J2 (J0q (pv 0) (pv 2) rfl)
   (J9 (J0q (pv 0) (pv 3) rfl)))),?_⟩
  walk_at "st"
  refine ⟨_,rfl,_,rfl,p,Ja,dx,[],rfl,hp,tx.J2B.cl,tx.J1L,by decide,?_⟩
  refine ⟨_,rfl,_,rfl,p,Ja,dx,_,rfl,J7,tx.J2B.cl,tx.J18,by show 1 < 1000; decide,?_⟩
  refine ⟨_,rfl,_,rfl,p,Ja,dx,_,rfl,J7,tx.J2B.cl,tx.J10,?_,?_⟩
  ·have := J2i "marks" (T m) (putF "many" (.int n) [])
   have h2 := J2i "many" (V.int n) []
   have h3 : ([] : List (Str × V)).length = 0 := rfl
   omega
  rw [put3]
  exact q
theorem J97 (tx : Tx K mg Jb Jf Ja Jh J8 Jn J5 J3) : MtG P w K mg base Ja "bad" 4 ["self","marks"] (Jb2 Ja J5t) := by
 have J37 := J49 (P := P) (w := w) (base := base) tx
 have J2n := J3u (P := P) (w := w) (base := base) tx
 refine tx.J9j.g tx.J2B.cl J8d (fun _ _ _ _ _ _ us hl => match us,hl with | [_,_],_ => rfl) (fun vs H Q E h => ?_) (fun f cdv A outer s H vs Q E hr h => ?_)
 ·obtain ⟨p,n,m,d,l,rfl,_⟩ := h
  rfl
 ·obtain ⟨p,n,m,d,l,rfl,⟨dx,hp⟩,hm,hd,hl,q⟩ := h
  refine ⟨_,(J2 (JO (Jl J5Q (Ju JX rfl tx.J05 PySem.boot_len (J0 (pv 1) J1)) (JC (K := K) rfl (pv 0) rfl) (Jq _)) (J9 (Jt J4k)) Jw)
   (J9 (Jt (J2q J5Q (JB J37 (hr.mono (by decide)) (J0 (JC (K := K) rfl (pv 0) rfl) (J0 (JB J2n (hr.mono (by decide)) (J0 (pv 1) (J0 (JC (K := K) rfl (pv 0) rfl) J1))) J1))) (JC (K := K) rfl (pv 0) rfl) (Jq _))))),?_⟩
  walk_at "st"
  refine ⟨_,rfl,l,rfl,J5C hl,_,rfl,p,Ja,dx,_,_,rfl,hp,tx.J2B.cl,tx.J10,J8O _ _ _,_,_,rfl,rfl,_,rfl,?_⟩
  refine ite2 (fun c => ?_) (fun c => ?_)
  ·have c' := of_decide_eq_true c
   have e : J5t n m d l = false := by unfold J5t; rw [if_pos c']
   have q' := q H (Same.refl _)
   rw [e] at q'
   exact q'
  have c' : ¬ ((l.length : Int) < d) := of_decide_eq_false (Bool.eq_false_iff.mpr c)
  have e : J5t n m d l = decide ((cntV m (l.drop (l.length - d.toNat)) : Int) < n) := by unfold J5t; rw [if_neg c']
  refine ⟨_,rfl,p,Ja,dx,_,_,rfl,hp,tx.J2B.cl,tx.J18,J9H _ _ _,_,rfl,_,rfl,p,Ja,dx,_,_,rfl,hp,tx.J2B.cl,tx.J10,J8O _ _ _,l,d,rfl,hl,hd,m,_,rfl,hm,?_,fun H' s' => ?_⟩
  ·rw [List.length_drop]; omega
  have q' := q H' s'
  rw [e] at q'
  exact ⟨_,rfl,p,Ja,dx,_,_,rfl,s' _ _ hp,tx.J2B.cl,tx.J1L,Jbr _ _ _,_,_,rfl,rfl,q'⟩
theorem J9l (tx : Tx K mg Jb Jf Ja Jh J8 Jn J5 J3) : MtG P w K mg base Jh "__init__" 1 ["self","left","right"] (J4H Jh) := by
 refine tx.J9k.g tx.J4n.cl J8i (fun _ _ _ _ _ _ us hl => match us,hl with | [_,_,_],_ => rfl) (fun vs H Q E h => ?_) (fun f cdv A outer s H vs Q E hr h => ?_)
 ·obtain ⟨p,dx,a,b,rfl,_⟩ := h
  rfl
 ·obtain ⟨p,dx,a,b,rfl,hp,q⟩ := h
  refine ⟨_,(J2 (J0q (pv 0) (pv 1) rfl)
   (J9 (J0q (pv 0) (pv 2) rfl))),?_⟩
  walk_at "st"
  refine ⟨_,rfl,_,rfl,p,Jh,dx,[],rfl,hp,tx.J4n.cl,tx.J26,by decide,?_⟩
  refine ⟨_,rfl,_,rfl,p,Jh,dx,_,rfl,J7,tx.J4n.cl,tx.J1F,by show 1 < 1000; decide,?_⟩
  rw [put2]
  exact q
theorem J7a (tx : Tx K mg Jb Jf Ja Jh J8 Jn J5 J3) : MtG P w K mg base J8 "__init__" 1 ["self","left","right"] (J4H J8) := by
 refine tx.J7d.g tx.J2T.cl J6C (fun _ _ _ _ _ _ us hl => match us,hl with | [_,_,_],_ => rfl) (fun vs H Q E h => ?_) (fun f cdv A outer s H vs Q E hr h => ?_)
 ·obtain ⟨p,dx,a,b,rfl,_⟩ := h
  rfl
 ·obtain ⟨p,dx,a,b,rfl,hp,q⟩ := h
  refine ⟨_,(J2 (J0q (pv 0) (pv 1) rfl)
   (J9 (J0q (pv 0) (pv 2) rfl))),?_⟩
  walk_at "st"
  refine ⟨_,rfl,_,rfl,p,J8,dx,[],rfl,hp,tx.J2T.cl,tx.J1b,by decide,?_⟩
  refine ⟨_,rfl,_,rfl,p,J8,dx,_,rfl,J7,tx.J2T.cl,tx.J0V,by show 1 < 1000; decide,?_⟩
  rw [put2]
  exact q
theorem Ja1 (tx : Tx K mg Jb Jf Ja Jh J8 Jn J5 J3) : MtG P w K mg base Jn "__init__" 1 ["self","inner"] (J9d Jn) := by
 refine tx.Jan.g tx.J8X.cl J99 (fun _ _ _ _ _ _ us hl => match us,hl with | [_,_],_ => rfl) (fun vs H Q E h => ?_) (fun f cdv A outer s H vs Q E hr h => ?_)
 ·obtain ⟨p,dx,a,rfl,_⟩ := h
  rfl
 ·obtain ⟨p,dx,a,rfl,hp,q⟩ := h
  refine ⟨_,(J9 (J0q (pv 0) (pv 1) rfl)),?_⟩
  walk_at "st"
  exact ⟨_,rfl,_,rfl,p,Jn,dx,[],rfl,hp,tx.J8X.cl,tx.J28,by decide,q⟩
noncomputable abbrev cs6 (Jb Jf Ja Jh J8 Jn _Person _House : Addr) : Cs := ⟨Jb,Jf,Ja,Jh,J8,Jn⟩
theorem J6e (tx : Tx K mg Jb Jf Ja Jh J8 Jn J5 J3) : ∀ r : R,MtG P w K mg base (r.cls (cs6 Jb Jf Ja Jh J8 Jn J5 J3)) "bad" (5 + r.depth) ["self","marks"] (JfF (cs6 Jb Jf Ja Jh J8 Jn J5 J3) r)
 | .nev w => (J8V tx).imp (fun vs H Q E ⟨p,l,e,h,hl,q⟩ => ⟨p,w,l,e,h.1,h.2,hl,q⟩) |>.mono (by show 2 ≤ 5 + _; omega)
 | .most n m d => (Jar tx).imp (fun vs H Q E ⟨p,l,e,h,hl,q⟩ => ⟨p,n,m,d,l,e,h.1,h.2.1,h.2.2,hl,q⟩) |>.mono (by show 4 ≤ 5 + _; omega)
 | .least n m d => (J97 tx).imp (fun vs H Q E ⟨p,l,e,h,hl,q⟩ => ⟨p,n,m,d,l,e,h.1,h.2.1,h.2.2,hl,q⟩) |>.mono (by show 4 ≤ 5 + _; omega)
 | .both x y => by
  have Gx := J6e tx x
  have Gy := J6e tx y
  refine MtG.mono (j := (5 + max x.depth y.depth) + 1) (tx.Ja5.g tx.J4n.cl J9q (fun _ _ _ _ _ _ us hl => match us,hl with | [_,_],_ => rfl) (fun vs H Q E h => ?_) (fun f cdv A outer s H vs Q E hr h => ?_)) (by show _ ≤ 5 + (max x.depth y.depth + 1); omega)
  ·obtain ⟨p,l,rfl,_⟩ := h
   rfl
  ·obtain ⟨p,l,rfl,⟨dx,a,b,e,ha,hb⟩,hl,q⟩ := h
   refine ⟨_,(J9 (Jt (JfT (J4w (P := P) (w := w) (K := K) (mg := mg) (base := base) hr (JC (K := K) rfl (pv 0) rfl) (J0 (pv 1) J1) rfl rfl rfl rfl rfl) (J5v (J4w (P := P) (w := w) (K := K) (mg := mg) (base := base) hr (JC (K := K) rfl (pv 0) rfl) (J0 (pv 1) J1) rfl rfl rfl rfl rfl))))),?_⟩
   walk_at "st"
   obtain ⟨dx1,fs1,o1,n1,_⟩ := ha.obj
   refine ⟨_,rfl,p,Jh,dx,_,_,rfl,e,tx.J4n.cl,tx.J26,Jbt _ _,a,_,dx1,fs1,_,_,_,rfl,o1,n1,Gx,by omega,_,rfl,a,l,rfl,ha,hl,fun H1 s1 => ⟨_,rfl,?_⟩⟩
   refine ite2 (fun c => ?_) (fun c => ?_)
   ·have q' := q H1 s1
    rw [show (R.both x y).bad l = true by show (x.bad l || y.bad l) = true; rw [c,Bool.true_or]] at q'
    exact q'
   ·obtain ⟨dx2,fs2,o2,n2,_⟩ := (hb.same s1).obj
    refine ⟨_,rfl,p,Jh,dx,_,_,rfl,s1 _ _ e,tx.J4n.cl,tx.J1F,J9O _ _,b,_,dx2,fs2,_,_,_,rfl,o2,n2,Gy,by omega,_,rfl,b,l,rfl,hb.same s1,hl,fun H2 s2 => ?_⟩
    have q' := q H2 (s1.trans s2)
    rw [show (R.both x y).bad l = y.bad l by show (x.bad l || y.bad l) = y.bad l; rw [Bool.eq_false_iff.mpr c,Bool.false_or]] at q'
    exact q'
 | .either x y => by
  have Gx := J6e tx x
  have Gy := J6e tx y
  refine MtG.mono (j := (5 + max x.depth y.depth) + 1) (tx.J7U.g tx.J2T.cl J7m (fun _ _ _ _ _ _ us hl => match us,hl with | [_,_],_ => rfl) (fun vs H Q E h => ?_) (fun f cdv A outer s H vs Q E hr h => ?_)) (by show _ ≤ 5 + (max x.depth y.depth + 1); omega)
  ·obtain ⟨p,l,rfl,_⟩ := h
   rfl
  ·obtain ⟨p,l,rfl,⟨dx,a,b,e,ha,hb⟩,hl,q⟩ := h
   refine ⟨_,(J9 (Jt (J4y (J4w (P := P) (w := w) (K := K) (mg := mg) (base := base) hr (JC (K := K) rfl (pv 0) rfl) (J0 (pv 1) J1) rfl rfl rfl rfl rfl) (J5v (J4w (P := P) (w := w) (K := K) (mg := mg) (base := base) hr (JC (K := K) rfl (pv 0) rfl) (J0 (pv 1) J1) rfl rfl rfl rfl rfl))))),?_⟩
   walk_at "st"
   obtain ⟨dx1,fs1,o1,n1,_⟩ := ha.obj
   refine ⟨_,rfl,p,J8,dx,_,_,rfl,e,tx.J2T.cl,tx.J1b,Jbt _ _,a,_,dx1,fs1,_,_,_,rfl,o1,n1,Gx,by omega,_,rfl,a,l,rfl,ha,hl,fun H1 s1 => ⟨_,rfl,?_⟩⟩
   refine ite2 (fun c => ?_) (fun c => ?_)
   ·obtain ⟨dx2,fs2,o2,n2,_⟩ := (hb.same s1).obj
    refine ⟨_,rfl,p,J8,dx,_,_,rfl,s1 _ _ e,tx.J2T.cl,tx.J0V,J9O _ _,b,_,dx2,fs2,_,_,_,rfl,o2,n2,Gy,by omega,_,rfl,b,l,rfl,hb.same s1,hl,fun H2 s2 => ?_⟩
    have q' := q H2 (s1.trans s2)
    rw [show (R.either x y).bad l = y.bad l by show (x.bad l && y.bad l) = y.bad l; rw [c,Bool.true_and]] at q'
    exact q'
   ·have q' := q H1 s1
    rw [show (R.either x y).bad l = false by show (x.bad l && y.bad l) = false; rw [Bool.eq_false_iff.mpr c,Bool.false_and]] at q'
    exact q'
 | .neg x => by
  have Gx := J6e tx x
  refine MtG.mono (j := (5 + x.depth) + 1) (tx.Jby.g tx.J8X.cl Jaf (fun _ _ _ _ _ _ us hl => match us,hl with | [_,_],_ => rfl) (fun vs H Q E h => ?_) (fun f cdv A outer s H vs Q E hr h => ?_)) (by show _ ≤ 5 + (x.depth + 1); omega)
  ·obtain ⟨p,l,rfl,_⟩ := h
   rfl
  ·obtain ⟨p,l,rfl,⟨dx,a,e,ha⟩,hl,q⟩ := h
   refine ⟨_,(J9 (Jt (Jf4 (J4w (P := P) (w := w) (K := K) (mg := mg) (base := base) hr (JC (K := K) rfl (pv 0) rfl) (J0 (pv 1) J1) rfl rfl rfl rfl rfl)))),?_⟩
   walk_at "st"
   obtain ⟨dx1,fs1,o1,n1,_⟩ := ha.obj
   exact ⟨_,rfl,p,Jn,dx,_,_,rfl,e,tx.J8X.cl,tx.J28,Jdq _,a,_,dx1,fs1,_,_,_,rfl,o1,n1,Gx,Nat.le_refl _,_,rfl,a,l,rfl,ha,hl,fun H1 s1 => ⟨_,rfl,q H1 s1⟩⟩
end
theorem Jdw : ∀ c : Nat,decide (c ∈ sgM) = J3P c := by
 intro c
 by_cases h : c < 128
 ·have key : ∀ c < 128,decide (c ∈ sgM) = J3P c := by decide +kernel
  exact key c h
 ·have n1 : ¬ c ∈ sgM := fun z => by
   have key : ∀ x ∈ sgM,x < 128 := by decide +kernel
   exact h (key c z)
  have n2 : J3P c = false := by
   unfold J3P isUp
   rw [decide_eq_false (p := c ≤ 90) (by omega),Bool.and_false,Bool.false_or]
   rw [show (c == 45) = false from beq_eq_false_iff_ne.mpr (by omega),show (c == 35) = false from beq_eq_false_iff_ne.mpr (by omega)]
   rfl
  rw [decide_eq_false n1,n2]
theorem Jdu : ∀ c : Nat,decide (c ∈ sgW) = J4j c := by
 intro c
 by_cases h : c < 128
 ·have key : ∀ c < 128,decide (c ∈ sgW) = J4j c := by decide +kernel
  exact key c h
 ·have n1 : ¬ c ∈ sgW := fun z => by
   have key : ∀ x ∈ sgW,x < 128 := by decide +kernel
   exact h (key c z)
  have n2 : J4j c = false := by
   unfold J4j isUp
   rw [decide_eq_false (p := c ≤ 90) (by omega),Bool.and_false,Bool.false_or]
   rw [show (c == 45) = false from beq_eq_false_iff_ne.mpr (by omega),show (c == 35) = false from beq_eq_false_iff_ne.mpr (by omega),show (c == 63) = false from beq_eq_false_iff_ne.mpr (by omega)]
   rfl
  rw [decide_eq_false n1,n2]
noncomputable def J6Q (w l : Wd) : Bool := (w.map fun c => decide (c ∈ l)).all id
theorem Jfl (w : Wd) : J6Q w sgM = w.all J3P := by
 unfold J6Q
 rw [List.all_map]
 congr 1
 funext c
 exact Jdw c
theorem JfC (w : Wd) : J6Q w sgW = w.all J4j := by
 unfold J6Q
 rw [List.all_map]
 congr 1
 funext c
 exact Jdu c
theorem J61 (l : List Nat) : ∀ i,i ≤ l.length → ∀ s : Str,s ∈ metK (fun i => (⟨#[l.getD i 0]⟩ : Str)) i ↔ ∃ x ∈ l.take i,s = ⟨#[x]⟩
 | 0,_,s => by simp [metK]
 | i + 1,h,s => by
  have ih := J61 l i (by omega) s
  have e : l.getD i 0 = l[i] := by rw [List.getD_eq_getElem?_getD,List.getElem?_eq_getElem (by omega)]; rfl
  have et : l.take (i + 1) = l.take i ++ [l[i]] := by rw [List.take_succ_eq_append_getElem]
  rw [metK,et]
  by_cases hm : (⟨#[l.getD i 0]⟩ : Str) ∈ metK (fun i => (⟨#[l.getD i 0]⟩ : Str)) i
  ·rw [if_pos hm,ih]
   obtain ⟨x,hx,ex⟩ := (J61 l i (by omega) _).mp hm
   rw [e] at ex
   have ex : l[i] = x := by injection ex with z; simpa using z
   constructor
   ·rintro ⟨y,hy,rfl⟩
    exact ⟨y,List.mem_append_left _ hy,rfl⟩
   ·rintro ⟨y,hy,rfl⟩
    rcases List.mem_append.mp hy with hy | hy
    ·exact ⟨y,hy,rfl⟩
    ·rw [List.mem_singleton.mp hy,ex]
     exact ⟨x,hx,rfl⟩
  ·rw [if_neg hm,List.mem_append,ih,List.mem_singleton,e]
   constructor
   ·rintro (⟨y,hy,rfl⟩ | rfl)
    ·exact ⟨y,List.mem_append_left _ hy,rfl⟩
    ·exact ⟨l[i],List.mem_append_right _ (List.mem_singleton.mpr rfl),rfl⟩
   ·rintro ⟨y,hy,rfl⟩
    rcases List.mem_append.mp hy with hy | hy
    ·exact .inl ⟨y,hy,rfl⟩
    ·rw [List.mem_singleton.mp hy]
     exact .inr rfl
theorem J7G (l : List Nat) : ∀ i,i ≤ l.length → ((metK (fun i => (⟨#[l.getD i 0]⟩ : Str)) i).length = i ↔ (l.take i).Nodup)
 | 0,_ => by simp [metK]
 | i + 1,h => by
  have ih := J7G l i (by omega)
  have hl := J6X (fun i => (⟨#[l.getD i 0]⟩ : Str)) i
  have e : l.getD i 0 = l[i] := by rw [List.getD_eq_getElem?_getD,List.getElem?_eq_getElem (by omega)]; rfl
  have et : l.take (i + 1) = l.take i ++ [l[i]] := by rw [List.take_succ_eq_append_getElem]
  have nd : (l.take i ++ [l[i]]).Nodup ↔ (l.take i).Nodup ∧ l[i] ∉ l.take i := by
   rw [List.nodup_append]
   constructor
   ·rintro ⟨a,_,c⟩
    exact ⟨a,fun z => c _ z _ (by simp) rfl⟩
   ·rintro ⟨a,c⟩
    exact ⟨a,by simp,fun x hx y hy z => c (by rw [List.mem_singleton.mp hy] at z; rw [← z]; exact hx)⟩
  rw [metK,et,nd]
  by_cases hm : (⟨#[l.getD i 0]⟩ : Str) ∈ metK (fun i => (⟨#[l.getD i 0]⟩ : Str)) i
  ·rw [if_pos hm]
   obtain ⟨x,hx,ex⟩ := (J61 l i (by omega) _).mp hm
   rw [e] at ex
   have ex : l[i] = x := by injection ex with z; simpa using z
   constructor
   ·intro z
    omega
   ·rintro ⟨_,z⟩
    exact absurd (ex ▸ hx) z
  ·rw [if_neg hm,List.length_append,List.length_singleton]
   have nx : l[i] ∉ l.take i := fun z => hm ((J61 l i (by omega) _).mpr ⟨_,z,by rw [e]⟩)
   rw [← ih]
   constructor
   ·intro z
    exact ⟨by omega,nx⟩
   ·rintro ⟨z,_⟩
    omega
theorem Jaw (l : List Nat) : decide (V.int (J4T l : Int) = V.int (l.length : Int)) = decide l.Nodup := by
 have k := J7G l l.length (Nat.le_refl _)
 rw [List.take_length] at k
 have k2 : J4T l = l.length ↔ l.Nodup := k
 by_cases h : l.Nodup
 ·rw [decide_eq_true h,decide_eq_true (by rw [k2.mpr h])]
 ·rw [decide_eq_false h,decide_eq_false]
  intro z
  injection z with z
  exact h (k2.mp (by omega))
noncomputable def figB (w l : Wd) : Bool := decide (w.length = 1) && decide (w.getD 0 0 ∈ l)
noncomputable def JdK : Sp := fun vs H Q _ => ∃ w l,vs = [T w,T l] ∧ w.length ≤ 1000 ∧ ∀ H',Same H H' → Q (.bl (J6Q w l)) H'
noncomputable def Jcq : Sp := fun vs H Q _ => ∃ w l,vs = [T w,T l] ∧ w.length ≤ 1000 ∧ Q (.bl (figB w l)) H
noncomputable def Jbz : Sp := fun vs H Q _ => ∃ w,vs = [T w] ∧ w.length ≤ 1000 ∧ ∀ H',Same H H' → Q (.bl (J2h w)) H'
noncomputable def JbC : Sp := fun vs H Q _ => ∃ w,vs = [T w] ∧ w.length ≤ 1000 ∧ ∀ H',Same H H' → Q (.bl (J0z w)) H'
noncomputable def Jcu (K : PySem.W.Frag) : Sp := fun vs H Q _ => ∃ (D : Addr) (a n m d f : Wd),vs = [.ref D,T f] ∧ SqL K H D [T a,T n,T wOf,T m,T wIn,T d] ∧ n.length ≤ 1000 ∧ m.length ≤ 1000 ∧ d.length ≤ 1000 ∧ ∀ H',Same H H' → Q (.bl (decide (a = f) && (figB n fgN && (J0z m && figB d fgD)))) H'
noncomputable def Jeu (K : PySem.W.Frag) : Sp := fun vs H Q _ => ∃ (D : Addr) (ws : List Wd) (wd : Wd),vs = [.ref D,T wd] ∧ SqL K H D (ws.map T) ∧ ws.length ≤ 1000 ∧ ∀ H',Same H H' → Q (.int (JI ws wd)) H'
noncomputable def JfE (K : PySem.W.Frag) (c6 : Cs) : Sp := fun vs H Q _ => ∃ (D : Addr) (ws : List Wd) (r : R),vs = [.ref D] ∧ SqL K H D (ws.map T) ∧ J4r ws = some r ∧ ∀ p H',Same H H' → JL c6 H' r p → Q (.ref p) H'
noncomputable def JfL (K : PySem.W.Frag) (c6 : Cs) (n : Nat) : Sp := fun vs H Q _ => ∃ (D : Addr) (ws : List Wd) (r : R),vs = [.ref D] ∧ SqL K H D (ws.map T) ∧ rdW n ws = some r ∧ ws.length ≤ 1000 ∧ ∀ p H',Same H H' → JL c6 H' r p → Q (.ref p) H'
noncomputable def JfI (c6 : Cs) : Sp := fun vs H Q _ => ∃ (t : List Nat) (r : R),vs = [T t] ∧ rdW 60 (Jx 32 t) = some r ∧ t.length ≤ 10000 ∧ (Jx 32 t).length ≤ 60 ∧ ∀ p H',Same H H' → JL c6 H' r p → Q (.ref p) H'
theorem J3a (ws : List Wd) (lo hi : Option Int) : cutV (ws.map T) lo hi = (cutN ws lo hi).map T := by
 unfold cutV cutN
 rw [List.length_map,List.map_take,List.map_drop]
theorem Jd4 (ws : List Wd) : (ws.map T).all J0l = true := by
 rw [List.all_eq_true]
 rintro x hx
 obtain ⟨w,_,rfl⟩ := List.mem_map.mp hx
 rfl
theorem Jf3 (a b : List Nat) : eqV (T a) (T b) = decide (a = b) := by
 by_cases h : a = b
 ·subst h
  rw [decide_eq_true rfl]
  exact decide_eq_true rfl
 ·rw [decide_eq_false h]
  exact decide_eq_false fun z => h (J1V (congrArg V.str z))
theorem JaF : ∀ (a b : List Wd),eqVs (a.map T) (b.map T) = decide (a = b)
 | [],[] => rfl
 | [],y :: b => rfl
 | x :: a,[] => rfl
 | x :: a,y :: b => by
  show (eqV (T x) (T y) && eqVs (a.map T) (b.map T)) = _
  rw [JaF a b,Jf3]
  by_cases e : x = y <;> by_cases e2 : a = b <;> simp [e,e2]
theorem JdA {α : Type} (l : List α) : cutN l (some (-1)) none = l.drop (l.length - 1) := by
 unfold cutN
 rw [HT.sIx_none]
 have e : HT.sIx l.length 0 (some (-1)) = l.length - 1 := by
  show (if (-1 : Int) < 0 then ((-1 : Int) + (l.length : Int)).toNat else min (-1 : Int).toNat l.length) = _
  rw [if_pos (by decide)]
  omega
 rw [e]
 exact List.take_of_length_le (by rw [List.length_drop]; omega)
theorem Jcl {α : Type} (l : List α) : cutN l (some 1) (some (-1)) = (l.drop 1).take (l.length - 2) := by
 unfold cutN
 have e1 : HT.sIx l.length 0 (some 1) = min 1 l.length := by
  show (if (1 : Int) < 0 then ((1 : Int) + (l.length : Int)).toNat else min (1 : Int).toNat l.length) = _
  rw [if_neg (by decide)]
  rfl
 have e2 : HT.sIx l.length l.length (some (-1)) = l.length - 1 := by
  show (if (-1 : Int) < 0 then ((-1 : Int) + (l.length : Int)).toNat else min (-1 : Int).toNat l.length) = _
  rw [if_pos (by decide)]
  omega
 rw [e1,e2]
 cases l with
 | nil => rfl
 | cons x r =>
  have : min 1 (x :: r).length = 1 := by simp
  rw [this]
  rfl
theorem J5V {lo hi : Nat} {w : Wd} {k : Nat} (h : fig lo hi w = some k) : ∃ c,w = [c] ∧ 48 + lo ≤ c ∧ c ≤ 48 + hi ∧ k = c - 48 := by
 unfold fig at h
 split at h
 ·rename_i c
  split at h
  ·rename_i hc
   exact ⟨c,rfl,hc.1,hc.2,(Option.some.inj h).symm⟩
  ·cases h
 ·cases h
theorem figN {c : Nat} (h0 : 48 ≤ c) (h1 : c ≤ 55) : figB [c] fgN = true := by
 have key : ∀ k : Nat,k < 8 → figB [48 + k] fgN = true := by decide +kernel
 have := key (c - 48) (by omega)
 rwa [show 48 + (c - 48) = c by omega] at this
theorem figD {c : Nat} (h0 : 49 ≤ c) (h1 : c ≤ 55) : figB [c] fgD = true := by
 have key : ∀ k : Nat,k < 7 → figB [49 + k] fgD = true := by decide +kernel
 have := key (c - 49) (by omega)
 rwa [show 49 + (c - 49) = c by omega] at this
theorem J9A {ws : List Wd} {r : R} (h : J4r ws = some r) : (∃ w,ws = [J3X,w] ∧ J2h w = true ∧ r = .nev w) ∨
  ∃ c m d,ws = [J30,[c],wOf,m,wIn,[d]] ∧ (48 ≤ c ∧ c ≤ 55) ∧ (49 ≤ d ∧ d ≤ 55) ∧ J0z m = true ∧ r = .most ((c : Int) - 48) m ((d : Int) - 48) ∨
  ws = [J1Q,[c],wOf,m,wIn,[d]] ∧ (48 ≤ c ∧ c ≤ 55) ∧ (49 ≤ d ∧ d ≤ 55) ∧ J0z m = true ∧ r = .least ((c : Int) - 48) m ((d : Int) - 48) := by
 unfold J4r at h
 split at h
 ·rename_i a w
  split at h
  ·rename_i hh
   obtain ⟨rfl,hw⟩ := hh
   exact .inl ⟨w,rfl,hw,(Option.some.inj h).symm⟩
  ·cases h
 ·rename_i a n o m i d
  split at h
  ·rename_i hh
   obtain ⟨rfl,rfl,hm⟩ := hh
   split at h
   ·rename_i n' d' h1 h2
    obtain ⟨c,rfl,c0,c1,rfl⟩ := J5V h1
    obtain ⟨e,rfl,e0,e1,rfl⟩ := J5V h2
    have x1 : ((c - 48 : Nat) : Int) = (c : Int) - 48 := by omega
    have x2 : ((e - 48 : Nat) : Int) = (e : Int) - 48 := by omega
    rw [x1,x2] at h
    split at h
    ·rename_i ea
     subst ea
     exact .inr ⟨c,m,e,.inl ⟨rfl,⟨by omega,by omega⟩,⟨by omega,by omega⟩,hm,(Option.some.inj h).symm⟩⟩
    ·split at h
     ·rename_i ea
      subst ea
      exact .inr ⟨c,m,e,.inr ⟨rfl,⟨by omega,by omega⟩,⟨by omega,by omega⟩,hm,(Option.some.inj h).symm⟩⟩
     ·cases h
   ·cases h
  ·cases h
 ·cases h
theorem nwl {H : Hp} {l : Addr} {xs : List V} (h : H l = none) : ∃ H',H' = upd H l (.lst xs) ∧ H' l = some (.lst xs) ∧ Same H H' := ⟨_,rfl,J7,Ji h _⟩
section
variable {P : Program} {w : World} {K : PySem.W.Frag} {mg : Str → Option Value} {base : Heap} {Jb Jf Ja Jh J8 Jn J5 J3 : Addr}
theorem J7z (tx : Tx K mg Jb Jf Ja Jh J8 Jn J5 J3) : FnG P w K mg base "made_of" 1 ["word","signs"] JdK := by
 refine tx.JbD.g Ja4 (fun _ _ _ _ _ _ us hl => match us,hl with | [_,_],_ => rfl) (fun vs H Q E h => ?_) (fun f cdv A outer s H vs Q E hr h => ?_)
 ·obtain ⟨w,l,rfl,_⟩ := h
  rfl
 ·obtain ⟨w,l,rfl,hw,q⟩ := h
  refine ⟨_,(J9 (Jt (Ju (J6V (K := K) rfl rfl) rfl tx.J7A Jd7 (J0 (J0p (osc := J4 J2r) (ON := ["word","signs"]) (N := ["sign","signs"]) (js := [none,some 1]) ⟨rfl,by decide +kernel,by decide +kernel,by decide +kernel,rfl,by decide +kernel⟩ rfl rfl rfl (J4x (pv 0)) (fun _ _ _ _ _ => Je (i := 0) (show List.Nodup (["sign","signs"] : List Str) from by decide +kernel) rfl (Or.inl rfl)) (fun _ _ _ _ _ => J0A) (fun _ _ _ _ _ => (J2q JcV (pv 0) (pv 1) rfl))) J1)))),?_⟩
  walk_at "st"
  walk_at "rd"
  refine J4X (fun x => match x with | .str z => .bl (decide (z.cps.getD 0 0 ∈ l)) | v => v) (J3o w) ?_ (fun x hx H' s' R hR => ?_) (fun D H' hD s' hDD => ?_)
  ·rw [List.length_map]; omega
  ·obtain ⟨k,_,rfl⟩ := List.mem_map.mp hx
   walk_at "rd"
   exact hR H' (Same.refl _)
  refine ⟨D,w.map fun c => decide (c ∈ l),rfl,SqL.of ?_,?_⟩
  ·rw [hDD,List.map_map,List.map_map]
   rfl
  ·exact q H' s'
theorem J8S (tx : Tx K mg Jb Jf Ja Jh J8 Jn J5 J3) : FnG P w K mg base "is_figure" 1 ["word","figures"] Jcq := by
 refine tx.J9b.g J7X (fun _ _ _ _ _ _ us hl => match us,hl with | [_,_],_ => rfl) (fun vs H Q E h => ?_) (fun f cdv A outer s H vs Q E hr h => ?_)
 ·obtain ⟨w,l,rfl,_⟩ := h
  rfl
 ·obtain ⟨w,l,rfl,hw,q⟩ := h
  refine ⟨_,(J9 (Jt (J4y (J2q J0c (Ju JX rfl tx.J05 PySem.boot_len (J0 (pv 0) J1)) J6 (Jq _)) (J5v (J2q JcV (pv 0) (pv 1) rfl))))),?_⟩
  walk_at "st"
  walk_at "rd"
  refine ite2 (fun c => ?_) (fun c => ?_)
  ·have c' : (w.length : Int) = 1 := by have := of_decide_eq_true c; injection this
   obtain ⟨x,rfl⟩ : ∃ x,w = [x] := List.length_eq_one_iff.mp (by omega)
   walk_at "rd"
   have e : figB [x] l = decide (x ∈ l) := by unfold figB; rw [decide_eq_true (show [x].length = 1 from rfl),Bool.true_and]; rfl
   rw [e] at q
   exact q
  ·have e : figB w l = false := by
    unfold figB
    rw [decide_eq_false,Bool.false_and]
    intro z
    exact c (decide_eq_true (by rw [z]; rfl))
   rw [e] at q
   exact q
theorem JbE (tx : Tx K mg Jb Jf Ja Jh J8 Jn J5 J3) : FnG P w K mg base "is_word" 2 ["word"] Jbz := by
 have J5a := J7z (P := P) (w := w) (base := base) tx
 refine tx.JbF.g Jai (fun _ _ _ _ _ _ us hl => match us,hl with | [_],_ => rfl) (fun vs H Q E h => ?_) (fun f cdv A outer s H vs Q E hr h => ?_)
 ·obtain ⟨w,rfl,_⟩ := h
  rfl
 ·obtain ⟨w,rfl,hw,q⟩ := h
  refine ⟨_,(J9 (Jt (J4y (J9K Jbq Jbq J6 (Ju JX rfl tx.J05 PySem.boot_len (J0 (pv 0) J1)) J6) (J5v (JB J5a (hr.mono (by decide)) (J0 (pv 0) (J0 (J4S (l := [65,66,67,68,69,70,71,72,73,74,75,76,77,78,79,80,81,82,83,84,85,86,87,88,89,90,45,35,63]) rfl tx.J2m) J1))))))),?_⟩
  walk_at "st"
  walk_at "rd"
  refine ite2 (fun c1 => ?_) (fun c1 => ?_)
  ·have d1 : (1 : Int) ≤ (w.length : Int) := of_decide_eq_true c1
   walk_at "rd"
   refine ite2 (fun c2 => ?_) (fun c2 => ?_)
   ·have d2 : (w.length : Int) ≤ 7 := of_decide_eq_true c2
    walk_at "rd"
    intro H1 s1
    have e : J2h w = J6Q w sgW := by
     rw [JfC]
     unfold J2h
     rw [decide_eq_true (show 1 ≤ w.length by omega),decide_eq_true (show w.length ≤ 7 by omega)]
     rfl
    have q1 := q H1 s1
    rw [e] at q1
    exact q1
   ·have d2 : ¬ (w.length : Int) ≤ 7 := fun z => c2 (decide_eq_true z)
    have e : J2h w = false := by
     unfold J2h
     rw [decide_eq_false (show ¬ w.length ≤ 7 by omega),Bool.and_false]
     rfl
    have q1 := q H (Same.refl _)
    rw [e] at q1
    exact q1
  ·have d1 : ¬ (1 : Int) ≤ (w.length : Int) := fun z => c1 (decide_eq_true z)
   have e : J2h w = false := by
    unfold J2h
    rw [decide_eq_false (show ¬ 1 ≤ w.length by omega)]
    rfl
   have q1 := q H (Same.refl _)
   rw [e] at q1
   walk_at "rd"
   exact q1
theorem J9i (tx : Tx K mg Jb Jf Ja Jh J8 Jn J5 J3) : FnG P w K mg base "are_marks" 2 ["word"] JbC := by
 have J5a := J7z (P := P) (w := w) (base := base) tx
 refine tx.J9a.g J8j (fun _ _ _ _ _ _ us hl => match us,hl with | [_],_ => rfl) (fun vs H Q E h => ?_) (fun f cdv A outer s H vs Q E hr h => ?_)
 ·obtain ⟨w,rfl,_⟩ := h
  rfl
 ·obtain ⟨w,rfl,hw,q⟩ := h
  refine ⟨_,(J9 (Jt (J4y (J9K Jbq Jbq J6 (Ju JX rfl tx.J05 PySem.boot_len (J0 (pv 0) J1)) J6) (J4y (JB J5a (hr.mono (by decide)) (J0 (pv 0) (J0 (J4S (l := [65,66,67,68,69,70,71,72,73,74,75,76,77,78,79,80,81,82,83,84,85,86,87,88,89,90,45,35]) rfl tx.J2l) J1))) (J5v (J2q J0c (Ju JaY rfl tx.J05 PySem.boot_len (J0 (J07 (Jc4 rfl) rfl tx.J98 Jcb (J0 (pv 0) J1)) J1)) (Ju JX rfl tx.J05 PySem.boot_len (J0 (pv 0) J1)) (Jq _))))))),?_⟩
  walk_at "st"
  walk_at "rd"
  refine ite2 (fun c1 => ?_) (fun c1 => ?_)
  ·have d1 : (1 : Int) ≤ (w.length : Int) := of_decide_eq_true c1
   walk_at "rd"
   refine ite2 (fun c2 => ?_) (fun c2 => ?_)
   ·have d2 : (w.length : Int) ≤ 8 := of_decide_eq_true c2
    walk_at "rd"
    intro H1 s1
    have e : J0z w = (J6Q w sgM && decide w.Nodup) := by
     rw [Jfl]
     unfold J0z
     rw [decide_eq_true (show 1 ≤ w.length by omega),decide_eq_true (show w.length ≤ 8 by omega)]
     rfl
    walk_at "rd"
    refine ite2 (fun c3 => ?_) (fun c3 => ?_)
    ·walk_at "rd"
     intro p hp
     have q1 := q _ (s1.trans (Ji hp (SO p (J4T w))))
     rw [e,c3,Bool.true_and,← Jaw] at q1
     walk_at "rd"
     exact q1
    ·have q1 := q H1 s1
     rw [e,Bool.eq_false_iff.mpr c3,Bool.false_and] at q1
     exact q1
   ·have d2 : ¬ (w.length : Int) ≤ 8 := fun z => c2 (decide_eq_true z)
    have e : J0z w = false := by
     unfold J0z
     rw [decide_eq_false (show ¬ w.length ≤ 8 by omega),Bool.and_false]
     rfl
    have q1 := q H (Same.refl _)
    rw [e] at q1
    exact q1
  ·have d1 : ¬ (1 : Int) ≤ (w.length : Int) := fun z => c1 (decide_eq_true z)
   have e : J0z w = false := by
    unfold J0z
    rw [decide_eq_false (show ¬ 1 ≤ w.length by omega)]
    rfl
   have q1 := q H (Same.refl _)
   rw [e] at q1
   walk_at "rd"
   exact q1
theorem J3I (tx : Tx K mg Jb Jf Ja Jh J8 Jn J5 J3) : FnG P w K mg base "last_outside" 1 ["words","wanted"] (Jeu K) := by
 refine tx.J6l.g J0j (fun _ _ _ _ _ _ us hl => match us,hl with | [_,_],_ => rfl) (fun vs H Q E h => ?_) (fun f cdv A outer s H vs Q E hr h => ?_)
 ·obtain ⟨D,ws,wd,rfl,_⟩ := h
  rfl
 ·obtain ⟨D,ws,wd,rfl,hD,hl,q⟩ := h
  refine ⟨_,(J2 (Jm (i := 2) J0j.nd rfl (Or.inl rfl) (Jb6 J8y J6))
   (J2 (Jm (i := 3) J0j.nd rfl (Or.inl rfl) J6)
   (J2 (J0E PassesOwn.never rfl (J3k (K := K) rfl rfl tx.J0H (J0 (pv 0) J1)) (J0Y rfl (Jk (Je (i := 4) J0j.nd rfl (Or.inl rfl)) (Jk (Je (i := 5) J0j.nd rfl (Or.inl rfl)) J08))) (J9 (JO (Jl J0c (pv 5) (Js (l := [40]) (by decide +kernel)) (Jq _)) (J9 (J3v (i := 3) J0j.nd rfl (Or.inl rfl) J6 JfA)) (J9 (JO (Jl J0c (pv 5) (Js (l := [41]) (by decide +kernel)) (Jq _)) (J9 (J3v (i := 3) J0j.nd rfl (Or.inl rfl) J6 Jf1)) (J9 (JO (PW.pt (J1x (Jl J0c (pv 5) (pv 1) (Jq _)) (J1N (Jl J0c (pv 3) J6 (Jq _))))) (J9 (Jm (i := 2) J0j.nd rfl (Or.inl rfl) (pv 4))) Jw)))))))
   (J9 (Jt (pv 2)))))),?_⟩
  walk_at "st"
  walk_at "rd"
  refine J3Z (K := K) (xs := ws.map T) (fun i σ H2 => Here (∃ v1 v2,σ = [some (.ref D),some (T wd),some (.int (lo wd 0 (-1,0) (ws.take i)).1),some (.int (lo wd 0 (-1,0) (ws.take i)).2),v1,v2] ∧ Same H H2)) (Here.mk ⟨none,none,rfl,Same.refl _⟩) (fun i σ H2 _ hv => by obtain ⟨_,_,_,s2⟩ := hv.out; exact s2.seq hD) ?_ ?_
  ·rintro i x p σ H2 hx hp hv
   obtain ⟨v1,v2,rfl,s2⟩ := hv.out
   obtain ⟨wi,hwi,rfl⟩ : ∃ wi,ws[i]? = some wi ∧ x = T wi := by
    rw [List.getElem?_map] at hx
    cases h : ws[i]? with
    | none => rw [h] at hx; cases hx
    | some z => rw [h] at hx; exact ⟨z,rfl,(Option.some.inj hx).symm⟩
   have s3 : Same H2 (upd H2 p (.tup [.int i,T wi])) := Ji hp _
   have et : ws.take (i + 1) = ws.take i ++ [wi] := by
    rw [List.take_add_one,hwi]
    rfl
   have il := (List.getElem?_eq_some_iff.mp hwi).1
   have el : lo wd 0 (-1,0) (ws.take (i + 1)) = JK wd i (lo wd 0 (-1,0) (ws.take i)) wi := by
    rw [et,J2J,List.length_take,Nat.min_eq_left (by omega),Nat.zero_add]
    rfl
   rw [el]
   obtain ⟨⟨st1,st2⟩,est⟩ : ∃ st,st = lo wd 0 (-1,0) (ws.take i) := ⟨_,rfl⟩
   rw [← est]
   walk_at "rd"
   refine ite2 (fun c => ?_) (fun c => ?_)
   ·have c' : wi = wL := J1V (of_decide_eq_true c)
    walk_at "rd"
    have e : JK wd i (st1,st2) wi = (st1,st2 + 1) := by unfold JK; rw [if_pos c']
    refine Here.mk ⟨some (.int i),some (T wi),?_,s2.trans s3⟩
    rw [e]
    rfl
   ·have c' : ¬ wi = wL := fun z => c (decide_eq_true (by rw [z]))
    walk_at "rd"
    refine ite2 (fun c1 => ?_) (fun c1 => ?_)
    ·have c1' : wi = wR := J1V (of_decide_eq_true c1)
     walk_at "rd"
     have e : JK wd i (st1,st2) wi = (st1,st2 - 1) := by unfold JK; rw [if_neg c',if_pos c1']
     refine Here.mk ⟨some (.int i),some (T wi),?_,s2.trans s3⟩
     rw [e]
     rfl
    ·have c1' : ¬ wi = wR := fun z => c1 (decide_eq_true (by rw [z]))
     walk_at "rd"
     have no : ¬ (wi = wd ∧ st2 = 0) → JK wd i (st1,st2) wi = (st1,st2) := fun z => by
      unfold JK
      rw [if_neg c',if_neg c1',if_neg z]
     refine ite2 (fun c2 => ?_) (fun c2 => ?_)
     ·have c2' : wi = wd := J1V (of_decide_eq_true c2)
      walk_at "rd"
      refine ite2 (fun c3 => ?_) (fun c3 => ?_)
      ·have c3' : st2 = 0 := by have := of_decide_eq_true c3; injection this
       walk_at "rd"
       have e : JK wd i (st1,st2) wi = ((i : Int),st2) := by unfold JK; rw [if_neg c',if_neg c1',if_pos ⟨c2',c3'⟩]
       refine Here.mk ⟨some (.int i),some (T wi),?_,s2.trans s3⟩
       rw [e]
      ·have c3' : ¬ st2 = 0 := fun z => c3 (decide_eq_true (by rw [z]))
       refine Here.mk ⟨some (.int i),some (T wi),?_,s2.trans s3⟩
       rw [no fun z => c3' z.2]
     ·have c2' : ¬ wi = wd := fun z => c2 (decide_eq_true (by rw [z]))
      refine Here.mk ⟨some (.int i),some (T wi),?_,s2.trans s3⟩
      rw [no fun z => c2' z.1]
  ·rintro σ H2 hv
   obtain ⟨v1,v2,rfl,s2⟩ := hv.out
   rw [List.length_map,List.take_length]
   walk_at "rd"
   exact q H2 s2
theorem J9V (tx : Tx K mg Jb Jf Ja Jh J8 Jn J5 J3) : FnG P w K mg base "is_count" 3 ["words","first"] (Jcu K) := by
 have J5K := J8S (P := P) (w := w) (base := base) tx
 have J9e := J9i (P := P) (w := w) (base := base) tx
 refine tx.Ja7.g J8Y (fun _ _ _ _ _ _ us hl => match us,hl with | [_,_],_ => rfl) (fun vs H Q E h => ?_) (fun f cdv A outer s H vs Q E hr h => ?_)
 ·obtain ⟨D,a,n,m,d,f,rfl,_⟩ := h
  rfl
 ·obtain ⟨D,a,n,m,d,f,rfl,hD,hn,hm,hd,q⟩ := h
  refine ⟨_,(J2 (JO (PW.pt (J4i (Jl J2Y (Ju (JH (K := K) rfl) rfl tx.J05 PySem.boot_len (J0 (pv 0) J1)) J6 (Jq _)) (J4i (Jl J2Y (Jv (Jz (K := K) rfl) (pv 0) J6 (fun _ _ => rfl)) (pv 1) (Jq _)) (J4i (Jl J2Y (Jv (Jz (K := K) rfl) (pv 0) J6 (fun _ _ => rfl)) (Js (l := [111,102]) (by decide +kernel)) (Jq _)) (J4v (Jl J2Y (Jv (Jz (K := K) rfl) (pv 0) J6 (fun _ _ => rfl)) (Js (l := [105,110]) (by decide +kernel)) (Jq _))))))) (J9 (Jt J4k)) Jw)
   (J9 (Jt (J4y (JB J5K (hr.mono (by decide)) (J0 (Jv (Jz (K := K) rfl) (pv 0) J6 (fun _ _ => rfl)) (J0 (J4S (l := [48,49,50,51,52,53,54,55]) rfl tx.J1u) J1))) (J4y (JB J9e (hr.mono (by decide)) (J0 (Jv (Jz (K := K) rfl) (pv 0) J6 (fun _ _ => rfl)) J1)) (J5v (JB J5K (hr.mono (by decide)) (J0 (Jv (Jz (K := K) rfl) (pv 0) J6 (fun _ _ => rfl)) (J0 (J4S (l := [49,50,51,52,53,54,55]) rfl tx.J1p) J1))))))))),?_⟩
  walk_at "st"
  have e0 : atI [T a,T n,T wOf,T m,T wIn,T d] (0 : Int) = some (T a) := by simp [atI,ixN]
  have e1 : atI [T a,T n,T wOf,T m,T wIn,T d] (1 : Int) = some (T n) := by simp [atI,ixN]
  have e2 : atI [T a,T n,T wOf,T m,T wIn,T d] (2 : Int) = some (T wOf) := by simp [atI,ixN]
  have e3 : atI [T a,T n,T wOf,T m,T wIn,T d] (3 : Int) = some (T m) := by simp [atI,ixN]
  have e4 : atI [T a,T n,T wOf,T m,T wIn,T d] (4 : Int) = some (T wIn) := by simp [atI,ixN]
  have e5 : atI [T a,T n,T wOf,T m,T wIn,T d] (5 : Int) = some (T d) := by simp [atI,ixN]
  walk_at "rd"
  refine ite2 (fun c => ?_) (fun c => ?_)
  ·have ea : decide (a = f) = false := by
    refine decide_eq_false fun z => ?_
    rw [z,decide_eq_true rfl] at c
    cases c
   have q1 := q H (Same.refl _)
   rw [ea,Bool.false_and] at q1
   walk_at "rd"
   exact q1
  ·have ea : decide (a = f) = true := by
    refine decide_eq_true (J1V ?_)
    cases z : decide (T a = T f) with
    | true => exact of_decide_eq_true z
    | false => rw [z] at c; exact absurd rfl c
   rw [ea,Bool.true_and] at q
   walk_at "rd"
   refine ite2 (fun c1 => ?_) (fun c1 => ?_)
   ·rw [c1,Bool.true_and] at q
    walk_at "rd"
    intro H1 s1
    have hD1 := s1.seq hD
    walk_at "rd"
    refine ite2 (fun c2 => ?_) (fun c2 => ?_)
    ·rw [c2,Bool.true_and] at q
     walk_at "rd"
     exact q H1 s1
    ·rw [Bool.eq_false_iff.mpr c2,Bool.false_and] at q
     walk_at "rd"
     exact q H1 s1
   ·rw [Bool.eq_false_iff.mpr c1,Bool.false_and] at q
    walk_at "rd"
    exact q H (Same.refl _)
theorem J8c (tx : Tx K mg Jb Jf Ja Jh J8 Jn J5 J3) : FnG P w K mg base "read_plain" 4 ["words"] (JfE K (cs6 Jb Jf Ja Jh J8 Jn J5 J3)) := by
 have JbG := JbE (P := P) (w := w) (base := base) tx
 have J67 := J9V (P := P) (w := w) (base := base) tx
 have JdT := tx.J3s.g (J80 (P := P) (w := w) (base := base) tx)
 have JeR := tx.J3t.g (J8W (P := P) (w := w) (base := base) tx)
 have JdJ := tx.J2B.g (J8a (P := P) (w := w) (base := base) tx)
 refine tx.J7V.g J7b (fun _ _ _ _ _ _ us hl => match us,hl with | [_],_ => rfl) (fun vs H Q E h => ?_) (fun f cdv A outer s H vs Q E hr h => ?_)
 ·obtain ⟨D,ws,r,rfl,_⟩ := h
  rfl
 ·obtain ⟨D,ws,r,rfl,hD,hp,q⟩ := h
  refine ⟨_,(J2 (JO (PW.pt (J1x (Jl J0c (Ju (JH (K := K) rfl) rfl tx.J05 PySem.boot_len (J0 (pv 0) J1)) J6 (Jq _)) (J1x (Jl J0c (Jv (Jz (K := K) rfl) (pv 0) J6 (fun _ _ => rfl)) (Js (l := [110,101,118,101,114]) (by decide +kernel)) (Jq _)) (J1N (J2z (JB JbG (hr.mono (by decide)) (J0 (Jv (Jz (K := K) rfl) (pv 0) J6 (fun _ _ => rfl)) J1))))))) (J9 (Jt (J3Q (r := rNev (cs6 Jb Jf Ja Jh J8 Jn J5 J3)) JdT (hr.mono (by decide)) Jfo (J0 (Jv (Jz (K := K) rfl) (pv 0) J6 (fun _ _ => rfl)) J1)))) Jw)
   (J2 (JO (J2z (JB J67 (hr.mono (by decide)) (J0 (pv 0) (J0 (Js (l := [109,111,115,116]) (by decide +kernel)) J1)))) (J9 (Jt (J3Q (r := JeC (cs6 Jb Jf Ja Jh J8 Jn J5 J3)) JeR (hr.mono (by decide)) Je5 (J0 (J07 J2N rfl tx.J5P J41 (J0 (Jv (Jz (K := K) rfl) (pv 0) J6 (fun _ _ => rfl)) J1)) (J0 (Jv (Jz (K := K) rfl) (pv 0) J6 (fun _ _ => rfl)) (J0 (J07 J2N rfl tx.J5P J41 (J0 (Jv (Jz (K := K) rfl) (pv 0) J6 (fun _ _ => rfl)) J1)) J1)))))) Jw)
   (J2 (JO (J2z (JB J67 (hr.mono (by decide)) (J0 (pv 0) (J0 (Js (l := [108,101,97,115,116]) (by decide +kernel)) J1)))) (J9 (Jt (J3Q (r := JcY (cs6 Jb Jf Ja Jh J8 Jn J5 J3)) JdJ (hr.mono (by decide)) JcJ (J0 (J07 J2N rfl tx.J5P J41 (J0 (Jv (Jz (K := K) rfl) (pv 0) J6 (fun _ _ => rfl)) J1)) (J0 (Jv (Jz (K := K) rfl) (pv 0) J6 (fun _ _ => rfl)) (J0 (J07 J2N rfl tx.J5P J41 (J0 (Jv (Jz (K := K) rfl) (pv 0) J6 (fun _ _ => rfl)) J1)) J1)))))) Jw)
   (J9 J6Z)))),?_⟩
  walk_at "st"
  rcases J9A hp with ⟨w,rfl,hw,rfl⟩ | ⟨c,m,d,⟨rfl,⟨c0,c1⟩,⟨d0,d1⟩,hm,rfl⟩ | ⟨rfl,⟨c0,c1⟩,⟨d0,d1⟩,hm,rfl⟩⟩
  ·have hD' : SqL K H D [T J3X,T w] := hD
   have e0 : atI [T J3X,T w] (0 : Int) = some (T J3X) := by simp [atI,ixN]
   have e1 : atI [T J3X,T w] (1 : Int) = some (T w) := by simp [atI,ixN]
   obtain ⟨w1,w2⟩ := J7Q hw
   clear hD hp
   walk_at "rd"
   intro H1 s1
   have hD1 := s1.seq hD'
   rw [hw]
   walk_at "rd"
   intro p H2 s2 r2
   exact q p H2 (s1.trans s2) r2
  ·have hD' : SqL K H D [T J30,T [c],T wOf,T m,T wIn,T [d]] := hD
   have e1 : atI [T J30,T [c],T wOf,T m,T wIn,T [d]] (1 : Int) = some (T [c]) := by simp [atI,ixN]
   have e3 : atI [T J30,T [c],T wOf,T m,T wIn,T [d]] (3 : Int) = some (T m) := by simp [atI,ixN]
   have e5 : atI [T J30,T [c],T wOf,T m,T wIn,T [d]] (5 : Int) = some (T [d]) := by simp [atI,ixN]
   obtain ⟨m1,m2⟩ := J43 hm
   have et : (decide (J30 = [109,111,115,116]) && (figB [c] fgN && (J0z m && figB [d] fgD))) = true := by rw [figN c0 c1,hm,figD d0 d1]; rfl
   have c2 : c ≤ 57 := by omega
   have d2 : d ≤ 57 := by omega
   have d3 : 48 ≤ d := by omega
   clear hD hp
   walk_at "rd"
   intro H1 s1
   have hD1 := s1.seq hD'
   rw [et]
   walk_at "rd"
   intro p H2 s2 r2
   exact q p H2 (s1.trans s2) r2
  ·have hD' : SqL K H D [T J1Q,T [c],T wOf,T m,T wIn,T [d]] := hD
   have e1 : atI [T J1Q,T [c],T wOf,T m,T wIn,T [d]] (1 : Int) = some (T [c]) := by simp [atI,ixN]
   have e3 : atI [T J1Q,T [c],T wOf,T m,T wIn,T [d]] (3 : Int) = some (T m) := by simp [atI,ixN]
   have e5 : atI [T J1Q,T [c],T wOf,T m,T wIn,T [d]] (5 : Int) = some (T [d]) := by simp [atI,ixN]
   obtain ⟨m1,m2⟩ := J43 hm
   have ef : (decide (J1Q = [109,111,115,116]) && (figB [c] fgN && (J0z m && figB [d] fgD))) = false := by rw [decide_eq_false (by decide)]; rfl
   have et : (decide (J1Q = [108,101,97,115,116]) && (figB [c] fgN && (J0z m && figB [d] fgD))) = true := by rw [figN c0 c1,hm,figD d0 d1]; rfl
   have c2 : c ≤ 57 := by omega
   have d2 : d ≤ 57 := by omega
   have d3 : 48 ≤ d := by omega
   clear hD hp
   walk_at "rd"
   intro H1 s1
   have hD1 := s1.seq hD'
   rw [ef]
   walk_at "rd"
   intro H3 s3
   have hD3 := s3.seq hD1
   rw [et]
   walk_at "rd"
   intro p H2 s2 r2
   exact q p H2 (s1.trans (s3.trans s2)) r2
end
section
variable {P : Program} {w : World} {K : PySem.W.Frag} {mg : Str → Option Value} {base : Heap} {Jb Jf Ja Jh J8 Jn J5 J3 : Addr}
theorem J4G (tx : Tx K mg Jb Jf Ja Jh J8 Jn J5 J3) : ∀ n,FnG P w K mg base "read_words" (5 + n) ["words"] (JfL K (cs6 Jb Jf Ja Jh J8 Jn J5 J3) n)
 | 0 => by
  have J0r : FnG P w K mg base "last_outside" 1 ["words","wanted"] (Jeu K) := J3I (P := P) (w := w) (base := base) tx
  refine FnG.mono (j := 5) (tx.J4E.g J2A (fun _ _ _ _ _ _ us hl => match us,hl with | [_],_ => rfl) (fun vs H Q E h => ?_) (fun f cdv A outer s H vs Q E hr h => ?_)) (by omega)
  ·obtain ⟨D,ws,r,rfl,_⟩ := h
   rfl
  ·obtain ⟨D,ws,r,_,_,hn,_⟩ := h
   rw [rdW] at hn
   cases hn
 | n + 1 => by
  have J0r := J4G tx n
  have J3O := J3I (P := P) (w := w) (base := base) tx
  have J8g := J8c (P := P) (w := w) (base := base) tx
  have JeM := tx.J4n.g (J9l (P := P) (w := w) (base := base) tx)
  have Jcw := tx.J2T.g (J7a (P := P) (w := w) (base := base) tx)
  have JfD := tx.J8X.g (Ja1 (P := P) (w := w) (base := base) tx)
  refine FnG.mono (j := (5 + n) + 1) (tx.J4E.g J2A (fun _ _ _ _ _ _ us hl => match us,hl with | [_],_ => rfl) (fun vs H Q E h => ?_) (fun f cdv A outer s H vs Q E hr h => ?_)) (by omega)
  ·obtain ⟨D,ws,r,rfl,_⟩ := h
   rfl
  ·obtain ⟨D,ws,r,rfl,hD,hn,hl,q⟩ := h
   refine ⟨_,(J2 (Jm (i := 1) J2A.nd rfl (Or.inl rfl) (JB J3O (hr.mono (by omega)) (J0 (pv 0) (J0 (Js (l := [111,114]) (by decide +kernel)) J1))))
   (J2 (JO (Jl JeA (pv 1) J6 (Jq _)) (J9 (Jt (J3Q (r := Jbv (cs6 Jb Jf Ja Jh J8 Jn J5 J3)) Jcw (hr.mono (by omega)) JbK (J0 (JB J0r (hr.mono (by omega)) (J0 (JJ (J0Z (K := K) rfl) (pv 0) J09 (JT (pv 1))) J1)) (J0 (JB J0r (hr.mono (by omega)) (J0 (JJ (J0Z (K := K) rfl) (pv 0) (JT (Jd J0a (pv 1) J6)) J09) J1)) J1))))) Jw)
   (J2 (Jm (i := 1) J2A.nd rfl (Or.inl rfl) (JB J3O (hr.mono (by omega)) (J0 (pv 0) (J0 (Js (l := [97,110,100]) (by decide +kernel)) J1))))
   (J2 (JO (Jl JeA (pv 1) J6 (Jq _)) (J9 (Jt (J3Q (r := Jez (cs6 Jb Jf Ja Jh J8 Jn J5 J3)) JeM (hr.mono (by omega)) Jeq (J0 (JB J0r (hr.mono (by omega)) (J0 (JJ (J0Z (K := K) rfl) (pv 0) J09 (JT (pv 1))) J1)) (J0 (JB J0r (hr.mono (by omega)) (J0 (JJ (J0Z (K := K) rfl) (pv 0) (JT (Jd J0a (pv 1) J6)) J09) J1)) J1))))) Jw)
   (J2 (JO (Jl (JaM (K := K) rfl hr.units0) (JJ (J0Z (K := K) rfl) (pv 0) J09 (JT J6)) (J0b (J0 (Js (l := [110,111,116]) (by decide +kernel)) J1)) (Jq _)) (J9 (Jt (J3Q (r := rNot (cs6 Jb Jf Ja Jh J8 Jn J5 J3)) JfD (hr.mono (by omega)) Jf7 (J0 (JB J0r (hr.mono (by omega)) (J0 (JJ (J0Z (K := K) rfl) (pv 0) (JT J6) J09) J1)) J1)))) Jw)
   (J2 (JO (PW.pt (J1x (Jl (JaM (K := K) rfl hr.units0) (JJ (J0Z (K := K) rfl) (pv 0) J09 (JT J6)) (J0b (J0 (Js (l := [40]) (by decide +kernel)) J1)) (Jq _)) (J1N (Jl (JaM (K := K) rfl hr.units0) (JJ (J0Z (K := K) rfl) (pv 0) (JT (Jb6 J8y J6)) J09) (J0b (J0 (Js (l := [41]) (by decide +kernel)) J1)) (Jq _))))) (J9 (Jt (JB J0r (hr.mono (by omega)) (J0 (JJ (J0Z (K := K) rfl) (pv 0) (JT J6) (JT (Jb6 J8y J6))) J1)))) Jw)
   (J9 (Jt (JB J8g (hr.mono (by omega)) (J0 (pv 0) J1)))))))))),?_⟩
   walk_at "st"
   rw [rdW] at hn
   walk_at "rd"
   intro H1 s1
   have hD1 := s1.seq hD
   walk_at "rd"
   refine ite2 (fun c => ?_) (fun c => ?_)
   ·have c' : 0 ≤ JI ws wOr := of_decide_eq_true c
    rw [if_pos c'] at hn
    split at hn
    ·rename_i x y hx hy
     cases hn
     walk_at "rd"
     intro p1 hp1
     obtain ⟨H2,e2,hp2,s2⟩ := nwl (xs := cutV (ws.map T) none (some (JI ws wOr))) hp1
     rw [← e2]
     clear e2
     have q2 : SqL K H2 p1 ((ws.take (JI ws wOr).toNat).map T) := by
      rw [← J4u _ _ c',← J3a]
      exact SqL.of hp2
     have l2 : (ws.take (JI ws wOr).toNat).length ≤ 1000 := by rw [List.length_take]; omega
     have hD2 := s2.seq hD1
     walk_at "rd"
     intro pa Ha sa ra
     have hDa := sa.seq hD2
     walk_at "rd"
     intro p3 hp3
     obtain ⟨H3,e3,hp4,s3⟩ := nwl (xs := cutV (ws.map T) (some (JI ws wOr + 1)) none) hp3
     rw [← e3]
     clear e3
     have q3 : SqL K H3 p3 ((ws.drop ((JI ws wOr).toNat + 1)).map T) := by
      rw [show (JI ws wOr).toNat + 1 = (JI ws wOr + 1).toNat by omega,← J3S _ _ (by omega),← J3a]
      exact SqL.of hp4
     have l3 : (ws.drop ((JI ws wOr).toNat + 1)).length ≤ 1000 := by rw [List.length_drop]; omega
     walk_at "rd"
     intro pb Hb sb rb
     have ra' := (ra.same s3).same sb
     walk_at "rd"
     intro p dx H5 s5 r5 _
     exact q p H5 (s1.trans (s2.trans (sa.trans (s3.trans (sb.trans s5))))) r5
    ·cases hn
   ·have c' : ¬ 0 ≤ JI ws wOr := fun z => c (decide_eq_true z)
    rw [if_neg c'] at hn
    clear c c'
    walk_at "rd"
    intro H1b s1b
    have hD1b := s1b.seq hD1
    have s1c := s1.trans s1b
    clear hD1 s1 s1b
    walk_at "rd"
    refine ite2 (fun c => ?_) (fun c => ?_)
    ·have c' : 0 ≤ JI ws wAnd := of_decide_eq_true c
     rw [if_pos c'] at hn
     split at hn
     ·rename_i x y hx hy
      cases hn
      walk_at "rd"
      intro p1 hp1
      obtain ⟨H2,e2,hp2,s2⟩ := nwl (xs := cutV (ws.map T) none (some (JI ws wAnd))) hp1
      rw [← e2]
      clear e2
      have q2 : SqL K H2 p1 ((ws.take (JI ws wAnd).toNat).map T) := by
       rw [← J4u _ _ c',← J3a]
       exact SqL.of hp2
      have l2 : (ws.take (JI ws wAnd).toNat).length ≤ 1000 := by rw [List.length_take]; omega
      have hD2 := s2.seq hD1b
      walk_at "rd"
      intro pa Ha sa ra
      have hDa := sa.seq hD2
      walk_at "rd"
      intro p3 hp3
      obtain ⟨H3,e3,hp4,s3⟩ := nwl (xs := cutV (ws.map T) (some (JI ws wAnd + 1)) none) hp3
      rw [← e3]
      clear e3
      have q3 : SqL K H3 p3 ((ws.drop ((JI ws wAnd).toNat + 1)).map T) := by
       rw [show (JI ws wAnd).toNat + 1 = (JI ws wAnd + 1).toNat by omega,← J3S _ _ (by omega),← J3a]
       exact SqL.of hp4
      have l3 : (ws.drop ((JI ws wAnd).toNat + 1)).length ≤ 1000 := by rw [List.length_drop]; omega
      walk_at "rd"
      intro pb Hb sb rb
      have ra' := (ra.same s3).same sb
      walk_at "rd"
      intro p dx H5 s5 r5 _
      exact q p H5 (s1c.trans (s2.trans (sa.trans (s3.trans (sb.trans s5))))) r5
     ·cases hn
    ·have c' : ¬ 0 ≤ JI ws wAnd := fun z => c (decide_eq_true z)
     rw [if_neg c'] at hn
     clear c c'
     have f1 : (cutV (ws.map T) none (some 1)).all J0l = true := by rw [J3a]; exact Jd4 _
     have f2 : (cutV (ws.map T) (some (-1)) none).all J0l = true := by rw [J3a]; exact Jd4 _
     have k1 : ∀ w : Wd,eqVs (cutV (ws.map T) none (some 1)) [T w] = decide (ws.take 1 = [w]) := fun w => by
      rw [J3a,J4u _ _ (by decide)]
      exact JaF _ [w]
     have k2 : ∀ w : Wd,eqVs (cutV (ws.map T) (some (-1)) none) [T w] = decide (ws.drop (ws.length - 1) = [w]) := fun w => by
      rw [J3a,JdA]
      exact JaF _ [w]
     walk_at "rd"
     intro p1 hp1
     obtain ⟨H2,e2,hp2,s2⟩ := nwl (xs := cutV (ws.map T) none (some 1)) hp1
     rw [← e2]
     clear e2
     have hD2 := s2.seq hD1b
     walk_at "rd"
     intro p3 hp3
     obtain ⟨H3,e3,hp4,s3⟩ := nwl (xs := [T [110,111,116]]) hp3
     rw [← e3]
     clear e3
     have hp5 := s3 _ _ hp2
     have hD3 := s3.seq hD2
     walk_at "rd"
     refine ite2 (fun c => ?_) (fun c => ?_)
     ·have c' : ws.take 1 = [wNot] := by
       have c2 : eqVs (cutV (ws.map T) none (some 1)) [T wNot] = true := c
       rw [k1] at c2
       exact of_decide_eq_true c2
      rw [if_pos c'] at hn
      split at hn
      ·rename_i x hx
       cases hn
       walk_at "rd"
       intro p6 hp6
       obtain ⟨H4,e4,hp7,s4⟩ := nwl (xs := cutV (ws.map T) (some 1) none) hp6
       rw [← e4]
       clear e4
       have q4 : SqL K H4 p6 ((ws.drop 1).map T) := by
        have e := J3S ws 1 (by decide)
        rw [J3a,e] at hp7
        exact SqL.of hp7
       have l4 : (ws.drop 1).length ≤ 1000 := by rw [List.length_drop]; omega
       walk_at "rd"
       intro pa Ha sa ra
       walk_at "rd"
       intro p dx H5 s5 r5 _
       exact q p H5 (s1c.trans (s2.trans (s3.trans (s4.trans (sa.trans s5))))) r5
      ·cases hn
     ·have c' : ¬ ws.take 1 = [wNot] := fun z => c (by
       show eqVs (cutV (ws.map T) none (some 1)) [T wNot] = true
       rw [k1]
       exact decide_eq_true z)
      rw [if_neg c'] at hn
      clear c c'
      have s03 := s1c.trans (s2.trans s3)
      clear hp5 hp4 hp3 hp2 hp1 hD2 s1c s2 s3 hD1b
      walk_at "rd"
      intro p6 hp6
      obtain ⟨H4,e4,hp7,s4⟩ := nwl (xs := cutV (ws.map T) none (some 1)) hp6
      rw [← e4]
      clear e4
      have hD4 := s4.seq hD3
      walk_at "rd"
      intro p8 hp8
      obtain ⟨H5,e5,hp9,s5⟩ := nwl (xs := [T [40]]) hp8
      rw [← e5]
      clear e5
      have hp10 := s5 _ _ hp7
      have hD5 := s5.seq hD4
      have s05 := s03.trans (s4.trans s5)
      walk_at "rd"
      refine ite2 (fun c => ?_) (fun c => ?_)
      ·have c1 : ws.take 1 = [wL] := by
        have c2 : eqVs (cutV (ws.map T) none (some 1)) [T wL] = true := c
        rw [k1] at c2
        exact of_decide_eq_true c2
       clear c hp10 hp9 hp8 hp7 hp6 hD4 s4 s5 hD3 s03
       walk_at "rd"
       intro pb hpb
       obtain ⟨H6,e6,hpb2,s6⟩ := nwl (xs := cutV (ws.map T) (some (-1)) none) hpb
       rw [← e6]
       clear e6
       have hD6 := s6.seq hD5
       walk_at "rd"
       intro pc hpc
       obtain ⟨H7,e7,hpc2,s7⟩ := nwl (xs := [T [41]]) hpc
       rw [← e7]
       clear e7
       have hpb3 := s7 _ _ hpb2
       have hD7 := s7.seq hD6
       have s07 := s05.trans (s6.trans s7)
       walk_at "rd"
       refine ite2 (fun c => ?_) (fun c => ?_)
       ·have c3 : ws.drop (ws.length - 1) = [wR] := by
         have c2 : eqVs (cutV (ws.map T) (some (-1)) none) [T wR] = true := c
         rw [k2] at c2
         exact of_decide_eq_true c2
        rw [if_pos ⟨c1,c3⟩] at hn
        walk_at "rd"
        intro pd hpd
        obtain ⟨H8,e8,hpd2,s8⟩ := nwl (xs := cutV (ws.map T) (some 1) (some (-1))) hpd
        rw [← e8]
        clear e8
        have q8 : SqL K H8 pd (((ws.drop 1).take (ws.length - 2)).map T) := by
         rw [J3a,Jcl] at hpd2
         exact SqL.of hpd2
        have l8 : ((ws.drop 1).take (ws.length - 2)).length ≤ 1000 := by rw [List.length_take,List.length_drop]; omega
        walk_at "rd"
        intro p H9 s9 r9
        exact q p H9 (s07.trans (s8.trans s9)) r9
       ·have c3 : ¬ ws.drop (ws.length - 1) = [wR] := fun z => c (by
         show eqVs (cutV (ws.map T) (some (-1)) none) [T wR] = true
         rw [k2]
         exact decide_eq_true z)
        rw [if_neg fun z => c3 z.2] at hn
        walk_at "rd"
        intro p H9 s9 r9
        exact q p H9 (s07.trans s9) r9
      ·have c1 : ¬ ws.take 1 = [wL] := fun z => c (by
        show eqVs (cutV (ws.map T) none (some 1)) [T wL] = true
        rw [k1]
        exact decide_eq_true z)
       rw [if_neg fun z => c1 z.1] at hn
       walk_at "rd"
       intro p H9 s9 r9
       exact q p H9 (s05.trans s9) r9
end
section
variable {P : Program} {w : World} {K : PySem.W.Frag} {mg : Str → Option Value} {base : Heap} {Jb Jf Ja Jh J8 Jn J5 J3 : Addr}
theorem J92 (tx : Tx K mg Jb Jf Ja Jh J8 Jn J5 J3) : FnG P w K mg base "read_rule" 66 ["text"] (JfI (cs6 Jb Jf Ja Jh J8 Jn J5 J3)) := by
 have J0r := J4G (P := P) (w := w) (base := base) tx 60
 refine tx.J93.g J4D (fun _ _ _ _ _ _ us hl => match us,hl with | [_],_ => rfl) (fun vs H Q E h => ?_) (fun f cdv A outer s H vs Q E hr h => ?_)
 ·obtain ⟨t,r,rfl,_⟩ := h
  rfl
 ·obtain ⟨t,r,rfl,hn,ht,hl,q⟩ := h
  refine ⟨_,(J2 (Jm (i := 1) J4D.nd rfl (Or.inl rfl) (JbV (K := K) rfl (pv 0) (J0 (Js (l := [32]) (by decide +kernel)) J1)))
   (J2 (JO (Jl J3m (Ju (JH (K := K) rfl) rfl tx.J05 PySem.boot_len (J0 (pv 1) J1)) (Jdh rfl tx.J2o) (Jq _)) (J9 J6Z) Jw)
   (J9 (Jt (JB J0r (hr.mono (by decide)) (J0 (pv 1) J1)))))),?_⟩
  walk_at "st"
  walk_at "rd"
  intro p hp
  obtain ⟨H1,e1,hp1,s1⟩ := nwl (xs := (Jx 32 t).map T) hp
  rw [← e1]
  clear e1
  have q1 : SqL K H1 p ((Jx 32 t).map T) := SqL.of hp1
  have l1 : (Jx 32 t).length ≤ 1000 := by omega
  walk_at "rd"
  refine ite2 (fun c => ?_) (fun c => ?_)
  ·have c' := of_decide_eq_true c
   rw [List.length_map] at c'
   omega
  walk_at "rd"
  intro p2 H2 s2 r2
  exact q p2 H2 (s1.trans s2) r2
end
noncomputable def dayB (r : R) (past row : List Nat) (d : Nat) : Bool := r.bad (past ++ row.take (d + 1))
noncomputable def badL (r : R) (past row : List Nat) : List Nat := (List.range row.length).filter (dayB r past row)
noncomputable def dL (ds : List Nat) : List V := (ds.map fun (d : Nat) => (d : Int)).map V.int
theorem Jfh (ds : List Nat) : (dL ds).length = ds.length := by unfold dL; rw [List.length_map,List.length_map]
noncomputable def JdL (c6 : Cs) : Sp := fun vs H Q _ => ∃ p past row r,vs = [.ref p,T past,T row] ∧ JL c6 H r p ∧ r.depth ≤ 23 ∧ past.length ≤ 300 ∧ row.length ≤ 300 ∧ ∀ D H',Same H H' → H D = none → H' D = some (.lst (dL (badL r past row))) → Q (.ref D) H'
section
variable {P : Program} {w : World} {K : PySem.W.Frag} {mg : Str → Option Value} {base : Heap} {Jb Jf Ja Jh J8 Jn J5 J3 : Addr}
theorem Jaj (tx : Tx K mg Jb Jf Ja Jh J8 Jn J5 J3) : FnG P w K mg base "bad_days" 30 ["rule","past","row"] (JdL (cs6 Jb Jf Ja Jh J8 Jn J5 J3)) := by
 refine tx.Jac.g J96 (fun _ _ _ _ _ _ us hl => match us,hl with | [_,_,_],_ => rfl) (fun vs H Q E h => ?_) (fun f cdv A outer s H vs Q E hr h => ?_)
 ·obtain ⟨p,past,row,r,rfl,_⟩ := h
  rfl
 ·obtain ⟨p,past,row,r,rfl,hR,hd,hp,hw,q⟩ := h
  refine ⟨_,(J9 (Jt (J0p (osc := J4 J1X) (ON := ["rule","past","row"]) (N := ["day","rule","past","row"]) (js := [none,some 0,some 1,some 2]) ⟨rfl,by decide +kernel,by decide +kernel,by decide +kernel,rfl,by decide +kernel⟩ rfl rfl rfl (J06 rfl tx.J0m (J0 (Ju JX rfl tx.J05 PySem.boot_len (J0 (pv 2) J1)) J1)) (fun _ _ _ _ _ => Je (i := 0) (show List.Nodup (["day","rule","past","row"] : List Str) from by decide +kernel) rfl (Or.inl rfl)) (fun _ _ _ _ _ => J17 (J2z (J4w (P := P) (w := w) (K := K) (mg := mg) (base := base) hr (pv 1) (J0 (Jd JE (pv 2) (JJ J3T (pv 3) J09 (JT (Jd J0a (pv 0) J6)))) J1) rfl rfl rfl rfl rfl))) (fun _ _ _ _ _ => (pv 0))))),?_⟩
  walk_at "st"
  have Gb := J6e (P := P) (w := w) (base := base) tx r
  walk_at "rd"
  refine J52 (fun x => match x with | .int d => dayB r past row d.toNat | _ => false) (fun x => x) (J0L 0 (row.length : Int).toNat) ?_ (fun x hx H' s' R hR' => ?_) (fun x hx hp H' s' R hR' => ?_) (fun D H' hD s' hDD => ?_)
  ·rw [List.length_map,List.length_range]; omega
  ·obtain ⟨k,hk,rfl⟩ := List.mem_map.mp hx
   have hk := List.mem_range.mp hk
   have rp := hR.same s'
   obtain ⟨dx,fs,ob,nb,_⟩ := rp.obj
   have hcl := J2M row none (some (0 + (k : Int) + 1))
   have e : cutN row none (some (0 + (k : Int) + 1)) = row.take (((0 : Int) + (k : Int)).toNat + 1) := by
    rw [J4u _ _ (by omega),show (0 + (k : Int) + 1).toNat = (0 + (k : Int)).toNat + 1 by omega]
   walk_at "rd"
   intro H2 s2
   walk_at "rd"
   have q2 := hR' H2 s2
   show R (r.bad (past ++ cutN row none (some (0 + (k : Int) + 1)))) H2
   rw [e]
   exact q2
  ·walk_at "rd"
   exact hR' H' (Same.refl _)
  refine q D H' s' hD ?_
  rw [hDD]
  congr 2
  rw [List.map_id',List.filter_map]
  unfold dL badL
  rw [List.map_map]
  have e : (fun (d : Nat) => (V.int ((d : Int)))) = fun (i : Nat) => V.int (0 + (i : Int)) := by funext i; rw [Int.zero_add]
  show List.map _ _ = List.map (fun d : Nat => V.int (d : Int)) _
  rw [e,Int.toNat_natCast]
  congr 1
  refine List.filter_congr fun d _ => ?_
  show dayB r past row (0 + (d : Int)).toNat = dayB r past row d
  congr 1
  omega
end
section
variable {P : Program} {w : World} {K : PySem.W.Frag} {mg : Str → Option Value} {base : Heap} {Jb Jf Ja Jh J8 Jn J5 J3 : Addr}
theorem J7l (tx : Tx K mg Jb Jf Ja Jh J8 Jn J5 J3) : MtG P w K mg base J5 "__init__" 1 ["self","name","skills","most","carried","past"] (J94 J5) := by
 refine tx.J7g.g tx.J0U.cl J6u (fun _ _ _ _ _ _ us hl => match us,hl with | [_,_,_,_,_,_],_ => rfl) (fun vs H Q E h => ?_) (fun f cdv A outer s H vs Q E hr h => ?_)
 ·obtain ⟨p,dx,a,b,c,d,e,rfl,_⟩ := h
  rfl
 ·obtain ⟨p,dx,a,b,c,d,e,rfl,hp,q⟩ := h
  refine ⟨_,(J2 (J0q (pv 0) (pv 1) rfl)
   (J2 (J0q (pv 0) (pv 2) rfl)
   (J2 (J0q (pv 0) (pv 3) rfl)
   (J2 (J0q (pv 0) (pv 4) rfl)
   (J9 (J0q (pv 0) (pv 5) rfl)))))),?_⟩
  walk_at "st"
  refine ⟨_,rfl,_,rfl,p,J5,dx,[],rfl,hp,tx.J0U.cl,tx.J00,(by show 0 < 1000; decide),?_⟩
  refine ⟨_,rfl,_,rfl,p,J5,dx,[("name",a)],rfl,J7,tx.J0U.cl,tx.J0F,(by show 1 < 1000; decide),?_⟩
  rw [putN (fs := [("name",a)]) (show ∀ g ∈ [("name" : Str)],g ≠ "skills" from by decide +kernel)]
  refine ⟨_,rfl,_,rfl,p,J5,dx,[("name",a),("skills",b)],rfl,J7,tx.J0U.cl,tx.J1c,(by show 2 < 1000; decide),?_⟩
  rw [putN (fs := [("name",a),("skills",b)]) (show ∀ g ∈ [("name" : Str),"skills"],g ≠ "most" from by decide +kernel)]
  refine ⟨_,rfl,_,rfl,p,J5,dx,[("name",a),("skills",b),("most",c)],rfl,J7,tx.J0U.cl,tx.J0X,(by show 3 < 1000; decide),?_⟩
  rw [putN (fs := [("name",a),("skills",b),("most",c)]) (show ∀ g ∈ [("name" : Str),"skills","most"],g ≠ "carried" from by decide +kernel)]
  refine ⟨_,rfl,_,rfl,p,J5,dx,[("name",a),("skills",b),("most",c),("carried",d)],rfl,J7,tx.J0U.cl,tx.J1f,(by show 4 < 1000; decide),?_⟩
  rw [putN (fs := [("name",a),("skills",b),("most",c),("carried",d)]) (show ∀ g ∈ [("name" : Str),"skills","most","carried"],g ≠ "past" from by decide +kernel)]
  exact q _ (But.refl p H).at.at.at.at.at J7
theorem J8k (tx : Tx K mg Jb Jf Ja Jh J8 Jn J5 J3) : MtG P w K mg base J3 "__init__" 1 ["self","days","kinds","needs","persons","leave","wishes","rules","pairs"] (J9o J3) := by
 refine tx.J8n.g tx.J0f.cl J7u (fun _ _ _ _ _ _ us hl => match us,hl with | [_,_,_,_,_,_,_,_,_],_ => rfl) (fun vs H Q E h => ?_) (fun f cdv A outer s H vs Q E hr h => ?_)
 ·obtain ⟨p,dx,d,k,b1,b2,b3,b4,b5,b6,x1,x2,x3,x4,x5,x6,rfl,_⟩ := h
  rfl
 ·obtain ⟨p,dx,d,k,b1,b2,b3,b4,b5,b6,x1,x2,x3,x4,x5,x6,rfl,hp,h1,h2,h3,h4,h5,h6,q⟩ := h
  refine ⟨_,(J2 (J0q (pv 0) (pv 1) rfl)
   (J2 (J0q (pv 0) (pv 2) rfl)
   (J2 (J0q (pv 0) (J07 J0o rfl tx.J1Y J0C (J0 (pv 3) J1)) rfl)
   (J2 (J0q (pv 0) (J07 J0o rfl tx.J1Y J0C (J0 (pv 4) J1)) rfl)
   (J2 (J0q (pv 0) (J07 J0o rfl tx.J1Y J0C (J0 (pv 5) J1)) rfl)
   (J2 (J0q (pv 0) (J07 J0o rfl tx.J1Y J0C (J0 (pv 6) J1)) rfl)
   (J2 (J0q (pv 0) (J07 J0o rfl tx.J1Y J0C (J0 (pv 7) J1)) rfl)
   (J9 (J0q (pv 0) (J07 J0o rfl tx.J1Y J0C (J0 (pv 8) J1)) rfl))))))))),?_⟩
  walk_at "st"
  have nb : ∀ {b : Addr} {x : List V},H b = some (.lst x) → b ≠ p := fun e => JfM e hp (by intro z; cases z)
  refine ⟨_,rfl,_,rfl,p,J3,dx,[],rfl,hp,tx.J0f.cl,tx.J1G,(by show 0 < 1000; decide),?_⟩
  refine ⟨_,rfl,_,rfl,p,J3,dx,[("days",d)],rfl,J7,tx.J0f.cl,tx.J19,(by show 1 < 1000; decide),?_⟩
  rw [putN (fs := [("days",d)]) (show ∀ g ∈ [("days" : Str)],g ≠ "kinds" from by decide +kernel)]
  have B0 : But p H (upd (upd H p (.ins J3 dx (putF "days" d []))) p (.ins J3 dx ([(("days" : Str),d)] ++ [(("kinds" : Str),k)]))) := (But.refl p H).at.at
  have e0 : upd (upd H p (.ins J3 dx (putF "days" d []))) p (.ins J3 dx ([(("days" : Str),d)] ++ [(("kinds" : Str),k)])) p = some (.ins J3 dx [("days",d),("kinds",k)]) := J7
  generalize upd (upd H p (.ins J3 dx (putF "days" d []))) p (.ins J3 dx ([(("days" : Str),d)] ++ [(("kinds" : Str),k)])) = H0 at B0 e0 ⊢
  refine ⟨_,rfl,b1,x1,rfl,.inl (SqL.of (B0 _ _ (nb h1) h1)),fun a1 n1 => ?_⟩
  refine ⟨_,rfl,p,J3,dx,[("days",d),("kinds",k)],rfl,(Jg (Jc e0 n1)).trans e0,tx.J0f.cl,tx.J0R,(by show 2 < 1000; decide),?_⟩
  rw [putN (fs := [("days",d),("kinds",k)]) (show ∀ g ∈ [("days" : Str),"kinds"],g ≠ "needs" from by decide +kernel)]
  have z1 : a1 ≠ p := (Jc e0 n1).symm
  have B1 : But p H (upd (upd H0 a1 (.lst x1)) p (.ins J3 dx ([(("days" : Str),d),("kinds",k)] ++ [(("needs" : Str),.ref a1)]))) := (B0.new n1).at
  have e1 : upd (upd H0 a1 (.lst x1)) p (.ins J3 dx ([(("days" : Str),d),("kinds",k)] ++ [(("needs" : Str),.ref a1)])) p = some (.ins J3 dx [("days",d),("kinds",k),("needs",.ref a1)]) := J7
  have y1 : upd (upd H0 a1 (.lst x1)) p (.ins J3 dx ([(("days" : Str),d),("kinds",k)] ++ [(("needs" : Str),.ref a1)])) a1 = some (.lst x1) := by rw [Jg z1]; exact J7
  have m1 : H a1 = none := by cases hh : H a1 with | none => rfl | some o => rw [B0 _ _ z1 hh] at n1; cases n1
  generalize upd (upd H0 a1 (.lst x1)) p (.ins J3 dx ([(("days" : Str),d),("kinds",k)] ++ [(("needs" : Str),.ref a1)])) = H1 at B1 e1 y1 ⊢
  refine ⟨_,rfl,b2,x2,rfl,.inl (SqL.of (B1 _ _ (nb h2) h2)),fun a2 n2 => ?_⟩
  refine ⟨_,rfl,p,J3,dx,[("days",d),("kinds",k),("needs",.ref a1)],rfl,(Jg (Jc e1 n2)).trans e1,tx.J0f.cl,tx.J02,(by show 3 < 1000; decide),?_⟩
  rw [putN (fs := [("days",d),("kinds",k),("needs",.ref a1)]) (show ∀ g ∈ [("days" : Str),"kinds","needs"],g ≠ "persons" from by decide +kernel)]
  have z2 : a2 ≠ p := (Jc e1 n2).symm
  have B2 : But p H (upd (upd H1 a2 (.lst x2)) p (.ins J3 dx ([(("days" : Str),d),("kinds",k),("needs",.ref a1)] ++ [(("persons" : Str),.ref a2)]))) := (B1.new n2).at
  have e2 : upd (upd H1 a2 (.lst x2)) p (.ins J3 dx ([(("days" : Str),d),("kinds",k),("needs",.ref a1)] ++ [(("persons" : Str),.ref a2)])) p = some (.ins J3 dx [("days",d),("kinds",k),("needs",.ref a1),("persons",.ref a2)]) := J7
  have y2 : upd (upd H1 a2 (.lst x2)) p (.ins J3 dx ([(("days" : Str),d),("kinds",k),("needs",.ref a1)] ++ [(("persons" : Str),.ref a2)])) a2 = some (.lst x2) := by rw [Jg z2]; exact J7
  have y12 : upd (upd H1 a2 (.lst x2)) p (.ins J3 dx ([(("days" : Str),d),("kinds",k),("needs",.ref a1)] ++ [(("persons" : Str),.ref a2)])) a1 = some (.lst x1) := by rw [Jg z1,Jg (Jc y1 n2)]; exact y1
  have m2 : H a2 = none := by cases hh : H a2 with | none => rfl | some o => rw [B1 _ _ z2 hh] at n2; cases n2
  generalize upd (upd H1 a2 (.lst x2)) p (.ins J3 dx ([(("days" : Str),d),("kinds",k),("needs",.ref a1)] ++ [(("persons" : Str),.ref a2)])) = H2 at B2 e2 y2 y12 ⊢
  refine ⟨_,rfl,b3,x3,rfl,.inl (SqL.of (B2 _ _ (nb h3) h3)),fun a3 n3 => ?_⟩
  refine ⟨_,rfl,p,J3,dx,[("days",d),("kinds",k),("needs",.ref a1),("persons",.ref a2)],rfl,(Jg (Jc e2 n3)).trans e2,tx.J0f.cl,tx.J0P,(by show 4 < 1000; decide),?_⟩
  rw [putN (fs := [("days",d),("kinds",k),("needs",.ref a1),("persons",.ref a2)]) (show ∀ g ∈ [("days" : Str),"kinds","needs","persons"],g ≠ "leave" from by decide +kernel)]
  have z3 : a3 ≠ p := (Jc e2 n3).symm
  have B3 : But p H (upd (upd H2 a3 (.lst x3)) p (.ins J3 dx ([(("days" : Str),d),("kinds",k),("needs",.ref a1),("persons",.ref a2)] ++ [(("leave" : Str),.ref a3)]))) := (B2.new n3).at
  have e3 : upd (upd H2 a3 (.lst x3)) p (.ins J3 dx ([(("days" : Str),d),("kinds",k),("needs",.ref a1),("persons",.ref a2)] ++ [(("leave" : Str),.ref a3)])) p = some (.ins J3 dx [("days",d),("kinds",k),("needs",.ref a1),("persons",.ref a2),("leave",.ref a3)]) := J7
  have y3 : upd (upd H2 a3 (.lst x3)) p (.ins J3 dx ([(("days" : Str),d),("kinds",k),("needs",.ref a1),("persons",.ref a2)] ++ [(("leave" : Str),.ref a3)])) a3 = some (.lst x3) := by rw [Jg z3]; exact J7
  have y13 : upd (upd H2 a3 (.lst x3)) p (.ins J3 dx ([(("days" : Str),d),("kinds",k),("needs",.ref a1),("persons",.ref a2)] ++ [(("leave" : Str),.ref a3)])) a1 = some (.lst x1) := by rw [Jg z1,Jg (Jc y12 n3)]; exact y12
  have y23 : upd (upd H2 a3 (.lst x3)) p (.ins J3 dx ([(("days" : Str),d),("kinds",k),("needs",.ref a1),("persons",.ref a2)] ++ [(("leave" : Str),.ref a3)])) a2 = some (.lst x2) := by rw [Jg z2,Jg (Jc y2 n3)]; exact y2
  have m3 : H a3 = none := by cases hh : H a3 with | none => rfl | some o => rw [B2 _ _ z3 hh] at n3; cases n3
  generalize upd (upd H2 a3 (.lst x3)) p (.ins J3 dx ([(("days" : Str),d),("kinds",k),("needs",.ref a1),("persons",.ref a2)] ++ [(("leave" : Str),.ref a3)])) = H3 at B3 e3 y3 y13 y23 ⊢
  refine ⟨_,rfl,b4,x4,rfl,.inl (SqL.of (B3 _ _ (nb h4) h4)),fun a4 n4 => ?_⟩
  refine ⟨_,rfl,p,J3,dx,[("days",d),("kinds",k),("needs",.ref a1),("persons",.ref a2),("leave",.ref a3)],rfl,(Jg (Jc e3 n4)).trans e3,tx.J0f.cl,tx.J1v,(by show 5 < 1000; decide),?_⟩
  rw [putN (fs := [("days",d),("kinds",k),("needs",.ref a1),("persons",.ref a2),("leave",.ref a3)]) (show ∀ g ∈ [("days" : Str),"kinds","needs","persons","leave"],g ≠ "wishes" from by decide +kernel)]
  have z4 : a4 ≠ p := (Jc e3 n4).symm
  have B4 : But p H (upd (upd H3 a4 (.lst x4)) p (.ins J3 dx ([(("days" : Str),d),("kinds",k),("needs",.ref a1),("persons",.ref a2),("leave",.ref a3)] ++ [(("wishes" : Str),.ref a4)]))) := (B3.new n4).at
  have e4 : upd (upd H3 a4 (.lst x4)) p (.ins J3 dx ([(("days" : Str),d),("kinds",k),("needs",.ref a1),("persons",.ref a2),("leave",.ref a3)] ++ [(("wishes" : Str),.ref a4)])) p = some (.ins J3 dx [("days",d),("kinds",k),("needs",.ref a1),("persons",.ref a2),("leave",.ref a3),("wishes",.ref a4)]) := J7
  have y4 : upd (upd H3 a4 (.lst x4)) p (.ins J3 dx ([(("days" : Str),d),("kinds",k),("needs",.ref a1),("persons",.ref a2),("leave",.ref a3)] ++ [(("wishes" : Str),.ref a4)])) a4 = some (.lst x4) := by rw [Jg z4]; exact J7
  have y14 : upd (upd H3 a4 (.lst x4)) p (.ins J3 dx ([(("days" : Str),d),("kinds",k),("needs",.ref a1),("persons",.ref a2),("leave",.ref a3)] ++ [(("wishes" : Str),.ref a4)])) a1 = some (.lst x1) := by rw [Jg z1,Jg (Jc y13 n4)]; exact y13
  have y24 : upd (upd H3 a4 (.lst x4)) p (.ins J3 dx ([(("days" : Str),d),("kinds",k),("needs",.ref a1),("persons",.ref a2),("leave",.ref a3)] ++ [(("wishes" : Str),.ref a4)])) a2 = some (.lst x2) := by rw [Jg z2,Jg (Jc y23 n4)]; exact y23
  have y34 : upd (upd H3 a4 (.lst x4)) p (.ins J3 dx ([(("days" : Str),d),("kinds",k),("needs",.ref a1),("persons",.ref a2),("leave",.ref a3)] ++ [(("wishes" : Str),.ref a4)])) a3 = some (.lst x3) := by rw [Jg z3,Jg (Jc y3 n4)]; exact y3
  have m4 : H a4 = none := by cases hh : H a4 with | none => rfl | some o => rw [B3 _ _ z4 hh] at n4; cases n4
  generalize upd (upd H3 a4 (.lst x4)) p (.ins J3 dx ([(("days" : Str),d),("kinds",k),("needs",.ref a1),("persons",.ref a2),("leave",.ref a3)] ++ [(("wishes" : Str),.ref a4)])) = H4 at B4 e4 y4 y14 y24 y34 ⊢
  refine ⟨_,rfl,b5,x5,rfl,.inl (SqL.of (B4 _ _ (nb h5) h5)),fun a5 n5 => ?_⟩
  refine ⟨_,rfl,p,J3,dx,[("days",d),("kinds",k),("needs",.ref a1),("persons",.ref a2),("leave",.ref a3),("wishes",.ref a4)],rfl,(Jg (Jc e4 n5)).trans e4,tx.J0f.cl,tx.J1j,(by show 6 < 1000; decide),?_⟩
  rw [putN (fs := [("days",d),("kinds",k),("needs",.ref a1),("persons",.ref a2),("leave",.ref a3),("wishes",.ref a4)]) (show ∀ g ∈ [("days" : Str),"kinds","needs","persons","leave","wishes"],g ≠ "rules" from by decide +kernel)]
  have z5 : a5 ≠ p := (Jc e4 n5).symm
  have B5 : But p H (upd (upd H4 a5 (.lst x5)) p (.ins J3 dx ([(("days" : Str),d),("kinds",k),("needs",.ref a1),("persons",.ref a2),("leave",.ref a3),("wishes",.ref a4)] ++ [(("rules" : Str),.ref a5)]))) := (B4.new n5).at
  have e5 : upd (upd H4 a5 (.lst x5)) p (.ins J3 dx ([(("days" : Str),d),("kinds",k),("needs",.ref a1),("persons",.ref a2),("leave",.ref a3),("wishes",.ref a4)] ++ [(("rules" : Str),.ref a5)])) p = some (.ins J3 dx [("days",d),("kinds",k),("needs",.ref a1),("persons",.ref a2),("leave",.ref a3),("wishes",.ref a4),("rules",.ref a5)]) := J7
  have y5 : upd (upd H4 a5 (.lst x5)) p (.ins J3 dx ([(("days" : Str),d),("kinds",k),("needs",.ref a1),("persons",.ref a2),("leave",.ref a3),("wishes",.ref a4)] ++ [(("rules" : Str),.ref a5)])) a5 = some (.lst x5) := by rw [Jg z5]; exact J7
  have y15 : upd (upd H4 a5 (.lst x5)) p (.ins J3 dx ([(("days" : Str),d),("kinds",k),("needs",.ref a1),("persons",.ref a2),("leave",.ref a3),("wishes",.ref a4)] ++ [(("rules" : Str),.ref a5)])) a1 = some (.lst x1) := by rw [Jg z1,Jg (Jc y14 n5)]; exact y14
  have y25 : upd (upd H4 a5 (.lst x5)) p (.ins J3 dx ([(("days" : Str),d),("kinds",k),("needs",.ref a1),("persons",.ref a2),("leave",.ref a3),("wishes",.ref a4)] ++ [(("rules" : Str),.ref a5)])) a2 = some (.lst x2) := by rw [Jg z2,Jg (Jc y24 n5)]; exact y24
  have y35 : upd (upd H4 a5 (.lst x5)) p (.ins J3 dx ([(("days" : Str),d),("kinds",k),("needs",.ref a1),("persons",.ref a2),("leave",.ref a3),("wishes",.ref a4)] ++ [(("rules" : Str),.ref a5)])) a3 = some (.lst x3) := by rw [Jg z3,Jg (Jc y34 n5)]; exact y34
  have y45 : upd (upd H4 a5 (.lst x5)) p (.ins J3 dx ([(("days" : Str),d),("kinds",k),("needs",.ref a1),("persons",.ref a2),("leave",.ref a3),("wishes",.ref a4)] ++ [(("rules" : Str),.ref a5)])) a4 = some (.lst x4) := by rw [Jg z4,Jg (Jc y4 n5)]; exact y4
  have m5 : H a5 = none := by cases hh : H a5 with | none => rfl | some o => rw [B4 _ _ z5 hh] at n5; cases n5
  generalize upd (upd H4 a5 (.lst x5)) p (.ins J3 dx ([(("days" : Str),d),("kinds",k),("needs",.ref a1),("persons",.ref a2),("leave",.ref a3),("wishes",.ref a4)] ++ [(("rules" : Str),.ref a5)])) = H5 at B5 e5 y5 y15 y25 y35 y45 ⊢
  refine ⟨_,rfl,b6,x6,rfl,.inl (SqL.of (B5 _ _ (nb h6) h6)),fun a6 n6 => ?_⟩
  refine ⟨_,rfl,p,J3,dx,[("days",d),("kinds",k),("needs",.ref a1),("persons",.ref a2),("leave",.ref a3),("wishes",.ref a4),("rules",.ref a5)],rfl,(Jg (Jc e5 n6)).trans e5,tx.J0f.cl,tx.J0Q,(by show 7 < 1000; decide),?_⟩
  rw [putN (fs := [("days",d),("kinds",k),("needs",.ref a1),("persons",.ref a2),("leave",.ref a3),("wishes",.ref a4),("rules",.ref a5)]) (show ∀ g ∈ [("days" : Str),"kinds","needs","persons","leave","wishes","rules"],g ≠ "pairs" from by decide +kernel)]
  have z6 : a6 ≠ p := (Jc e5 n6).symm
  have m6 : H a6 = none := by cases hh : H a6 with | none => rfl | some o => rw [B5 _ _ z6 hh] at n6; cases n6
  refine q _ a1 a2 a3 a4 a5 a6 (B5.new n6).at J7 ?_ ?_ ?_ ?_ ?_ ?_ m1 m2 m3 m4 m5 m6
  ·rw [Jg z1,Jg (Jc y15 n6)]; exact y15
  ·rw [Jg z2,Jg (Jc y25 n6)]; exact y25
  ·rw [Jg z3,Jg (Jc y35 n6)]; exact y35
  ·rw [Jg z4,Jg (Jc y45 n6)]; exact y45
  ·rw [Jg z5,Jg (Jc y5 n6)]; exact y5
  ·rw [Jg z6]; exact J7
end
theorem lH_m {m : Str} (a b c d e f g h : V) (h1 : m ≠ "days") (h2 : m ≠ "kinds") (h3 : m ≠ "needs") (h4 : m ≠ "persons") (h5 : m ≠ "leave") (h6 : m ≠ "wishes") (h7 : m ≠ "rules") (h8 : m ≠ "pairs") : List.lookup m (fH a b c d e f g h) = none := by
 rw [JN h1,JN h2,JN h3,JN h4,JN h5,JN h6,JN h7,JN h8]
 rfl
theorem J8C (a b c d e f g h : V) : List.lookup ("need" : Str) (fH a b c d e f g h) = none := lH_m _ _ _ _ _ _ _ _ (by decide +kernel) (by decide +kernel) (by decide +kernel) (by decide +kernel) (by decide +kernel) (by decide +kernel) (by decide +kernel) (by decide +kernel)
noncomputable def Hk (C1 C2 : Addr) (H : Hp) (h : Addr) (dd : Int) (ks : List Nat) (nds : List Nd) (ps : List Ps) (ls : List (List Nat × Int)) : Prop :=
 ∃ a1 a2 a3 a4 a5 a6 xs ys zs ws,J5W C2 H h dd ks a1 a2 a3 a4 a5 a6 ∧ H a1 = some (.lst xs) ∧ All2 NdAt H nds xs ∧ H a2 = some (.lst ys) ∧ All2 (PsO C1) H ps ys ∧ H a3 = some (.lst zs) ∧ All2 LvT H ls zs ∧ H a4 = some (.lst ws)
noncomputable def Jct (C1 C2 : Addr) : Sp := fun vs H Q _ => ∃ (h : Addr) (d : Int) (k : Nat) (dd : Int) (ks : List Nat) (nds : List Nd) (ps : List Ps) (ls : List (List Nat × Int)),vs = [.ref h,.int d,T [k]] ∧ Hk C1 C2 H h dd ks nds ps ls ∧ ∀ (t : Addr) (H' : Hp),Same H H' → H' t = some (.tup [.int (J1y nds d k).1,.int (J1y nds d k).2]) → Q (.ref t) H'
theorem at0 (a b : V) : atI [a,b] 0 = some a := by simp [atI,ixN]
theorem at1 (a b : V) : atI [a,b] 1 = some b := by simp [atI,ixN]
section
variable {P : Program} {w : World} {K : PySem.W.Frag} {mg : Str → Option Value} {base : Heap} {Jb Jf Ja Jh J8 Jn J5 J3 : Addr}
local macro_rules | `(tactic| walk_at "lk") => `(tactic| first | exact J62 _ _ _ _ _ | exact J5x _ _ _ _ _ | exact J8Q _ _ _ _ _ | exact JaQ _ _ _ _ _ | exact J3B _ _ _ _ _ _ _ _ | exact J51 _ _ _ _ _ _ _ _ | exact J50 _ _ _ _ _ _ _ _ | exact J6T _ _ _ _ _ _ _ _ | exact JbQ _ _ _ _ _ _ _ _ | exact J8C _ _ _ _ _ _ _ _ | exact Or.inr (SqT.of (by with_reducible assumption)))
theorem JeJ (tx : Tx K mg Jb Jf Ja Jh J8 Jn J5 J3) : MtG P w K mg base J3 "need" 1 ["self","day","kind"] (Jct J5 J3) := by
 refine tx.J88.g tx.J0f.cl J1S (fun _ _ _ _ _ _ us hl => match us,hl with | [_,_,_],_ => rfl) (fun vs H Q E h => ?_) (fun f cdv A outer s H vs Q E hr h => ?_)
 ·obtain ⟨h,d,k,dd,ks,nds,pns,ls,rfl,_⟩ := h
  rfl
 ·obtain ⟨h,d,k,dd,ks,nds,pns,ls,rfl,⟨a1,a2,a3,a4,a5,a6,xs,ys,zs,ws,⟨dx,h1⟩,h2,h3,_⟩,q⟩ := h
  refine ⟨_,(J2 (J0E PassesOwn.never rfl (J0J (K := K) rfl (JC (K := K) rfl (pv 0) rfl)) (J0Y rfl (Jk (Je (i := 3) J1S.nd rfl (Or.inl rfl)) (Jk (Je (i := 4) J1S.nd rfl (Or.inl rfl)) (Jk (Je (i := 5) J1S.nd rfl (Or.inl rfl)) (Jk (Je (i := 6) J1S.nd rfl (Or.inl rfl)) J08))))) (J9 (JO (PW.pt (J1x (Jl J0c (pv 3) (pv 1) (Jq _)) (J1N (Jl J0c (pv 4) (pv 2) (Jq _))))) (J9 (Jt (JS (J0 (pv 5) (J0 (pv 6) J1))))) Jw)))
   (J9 (Jt (JS (J0 J6 (J0 J6 J1)))))),?_⟩
  walk_at "st"
  have cH := tx.J0f.cl
  have nH := tx.J0R
  walk_at "rd"
  refine J3V (K := K) (xs := xs) (fun i σ H2 => Here (∃ v1 v2 v3 v4,σ = [some (.ref h),some (.int d),some (T [k]),v1,v2,v3,v4] ∧ (∀ j < i,∀ n,nds[j]? = some n → ¬ (n.day = d ∧ n.kind = k)) ∧ H2 = H)) (Here.mk ⟨none,none,none,none,rfl,fun j hj => absurd hj (Nat.not_lt_zero _),rfl⟩) (fun i σ H2 _ hv => by obtain ⟨_,_,_,_,_,_,e⟩ := hv.out; rw [e]; exact SqL.of h2) ?_ ?_
  ·rintro i x σ H2 hx hv
   obtain ⟨v1,v2,v3,v4,rfl,hno,rfl⟩ := hv.out
   obtain ⟨n,hn,t,rfl,ht⟩ := h3.back hx
   have nx : ¬ (n.day = d ∧ n.kind = k) → ∀ j < i + 1,∀ m,nds[j]? = some m → ¬ (m.day = d ∧ m.kind = k) := fun z j hj m hm => by
    rcases Nat.lt_or_ge j i with y | y
    ·exact hno j y m hm
    ·have : j = i := by omega
     subst this
     rw [hn] at hm
     cases hm
     exact z
   walk_at "rd"
   refine ite2 (fun e1 => ?_) (fun e1 => ?_)
   ·have e1' : n.day = d := by have := of_decide_eq_true e1; injection this
    walk_at "rd"
    refine ite2 (fun e2 => ?_) (fun e2 => ?_)
    ·have e2' : n.kind = k := by have := J1V (of_decide_eq_true e2); simpa using this
     walk_at "rd"
     intro t2 ht2
     refine q t2 _ (Ji ht2 _) ?_
     rw [J7,J7J hno hn ⟨e1',e2'⟩]
    ·exact Here.mk ⟨_,_,_,_,rfl,nx fun z => e2 (decide_eq_true (by rw [z.2])),rfl⟩
   ·walk_at "rd"
    exact Here.mk ⟨_,_,_,_,rfl,nx fun z => e1 (decide_eq_true (by rw [z.1])),rfl⟩
  ·rintro σ H2 hv
   obtain ⟨v1,v2,v3,v4,rfl,hno,rfl⟩ := hv.out
   walk_at "rd"
   intro t2 ht2
   refine q t2 _ (Ji ht2 _) ?_
   rw [J7,J6W (by rw [← h3.len]; exact hno)]
end
section
variable {P : Program} {w : World} {K : PySem.W.Frag} {mg : Str → Option Value} {base : Heap} {Jb Jf Ja Jh J8 Jn J5 J3 : Addr}
local macro_rules | `(tactic| walk_at "lk") => `(tactic| first | exact J62 _ _ _ _ _ | exact J3B _ _ _ _ _ _ _ _)
theorem J9h (tx : Tx K mg Jb Jf Ja Jh J8 Jn J5 J3) : FnG P w K mg base "duties_in" 1 ["marks"] JeS := by
 refine tx.J9r.g J84 (fun _ _ _ _ _ _ us hl => match us,hl with | [_],_ => rfl) (fun vs H Q E h => ?_) (fun f cdv A outer s H vs Q E hr h => ?_)
 ·obtain ⟨l,rfl,_⟩ := h
  rfl
 ·obtain ⟨l,rfl,hl,q⟩ := h
  refine ⟨_,(J9 (Jt (Ju (JH (K := K) rfl) rfl tx.J05 PySem.boot_len (J0 (J0p (osc := J4 J1w) (ON := ["marks"]) (N := ["mark"]) (js := [none]) ⟨rfl,by decide +kernel,by decide +kernel,by decide +kernel,rfl,by decide +kernel⟩ rfl rfl rfl (J4x (pv 0)) (fun _ _ _ _ _ => Je (i := 0) (show List.Nodup (["mark"] : List Str) from by decide +kernel) rfl (Or.inl rfl)) (fun _ _ _ _ _ => J17 (Jl J2Y (pv 0) (Js (l := [45]) (by decide +kernel)) (Jq _))) (fun _ _ _ _ _ => (pv 0))) J1)))),?_⟩
  walk_at "st"
  walk_at "rd"
  refine J52 (fun x => !decide (x = T [45])) (fun x => x) (J3o l) ?_ (fun x hx H' s' R hR => ?_) (fun x hx hp H' s' R hR => ?_) (fun D H' hD s' hDD => ?_)
  ·rw [List.length_map]; omega
  ·obtain ⟨k,_,rfl⟩ := List.mem_map.mp hx
   walk_at "rd"
   exact hR H' (Same.refl _)
  ·walk_at "rd"
   exact hR H' (Same.refl _)
  refine ⟨D,_,rfl,.inl (SqL.of hDD),?_⟩
  rw [Jbj]
  exact q H' s'
theorem Jas (tx : Tx K mg Jb Jf Ja Jh J8 Jn J5 J3) : MtG P w K mg base J3 "place_of" 1 ["self","name"] (Jcs J5 J3) := by
 refine tx.J5h.g tx.J0f.cl J2k (fun _ _ _ _ _ _ us hl => match us,hl with | [_,_],_ => rfl) (fun vs H Q E h => ?_) (fun f cdv A outer s H vs Q E hr h => ?_)
 ·obtain ⟨h,nm,nms,i,rfl,_⟩ := h
  rfl
 ·obtain ⟨h,nm,nms,k,rfl,hC,hk,hb,q⟩ := h
  refine ⟨_,(J2 (J0E PassesOwn.never rfl (J3k (K := K) rfl rfl tx.J0H (J0 (JC (K := K) rfl (pv 0) rfl) J1)) (J0Y rfl (Jk (Je (i := 2) J2k.nd rfl (Or.inl rfl)) (Jk (Je (i := 3) J2k.nd rfl (Or.inl rfl)) J08))) (J9 (JO (Jl J0c (JC (K := K) rfl (pv 3) rfl) (pv 1) (Jq _)) (J9 (Jt (pv 2))) Jw)))
   (J9 J6Z)),?_⟩
  walk_at "st"
  obtain ⟨d,kk,a1,a2,a3,a4,a5,a6,qs,⟨dx,h1⟩,h2,h3⟩ := hC
  have cH := tx.J0f.cl
  have nH := tx.J02
  have cP := tx.J0U.cl
  have nP := tx.J00
  walk_at "rd"
  refine J3Z (K := K) (xs := qs) (fun i σ H2 => Here (∃ v1 v2,σ = [some (.ref h),some (T nm),v1,v2] ∧ i ≤ k ∧ Same H H2)) (Here.mk ⟨none,none,rfl,Nat.zero_le _,Same.refl _⟩) (fun i σ H2 _ hv => by obtain ⟨_,_,_,_,s2⟩ := hv.out; exact SqL.of (s2 _ _ h2)) ?_ ?_
  ·rintro i x p σ H2 hx hp hv
   obtain ⟨v1,v2,rfl,hi,s2⟩ := hv.out
   obtain ⟨n2,hn2,p1,sk,m,c,pa,rfl,dx2,hp2⟩ := h3.back hx
   have s3 : Same H2 (upd H2 p (.tup [.int i,.ref p1])) := Ji hp _
   have hp3 := s3 _ _ (s2 _ _ hp2)
   walk_at "rd"
   refine ite2 (fun e => ?_) (fun e => ?_)
   ·have e' : n2 = nm := J1V (of_decide_eq_true e)
    subst e'
    have hik : i = k := by
     rcases Nat.lt_or_ge i k with z | z
     ·exact absurd hn2 (hb i z)
     ·omega
    subst hik
    walk_at "rd"
    exact q _ (s2.trans s3)
   ·have e' : ¬ n2 = nm := fun z => e (decide_eq_true (by rw [z]))
    refine Here.mk ⟨_,_,rfl,?_,s2.trans s3⟩
    rcases Nat.lt_or_ge i k with z | z
    ·exact z
    ·have : i = k := by omega
     subst this
     rw [hk] at hn2
     exact absurd (Option.some.inj hn2).symm e'
  ·rintro σ H2 hv
   obtain ⟨v1,v2,rfl,hi,s2⟩ := hv.out
   have := h3.len
   have hkl := (List.getElem?_eq_some_iff.mp hk).1
   exact absurd hi (by omega)
end
theorem J55 (a b c d e f g h : V) : List.lookup ("rules_for" : Str) (fH a b c d e f g h) = none := by
 rw [JN (by decide +kernel),JN (by decide +kernel),JN (by decide +kernel),JN (by decide +kernel),JN (by decide +kernel),JN (by decide +kernel),JN (by decide +kernel),JN (by decide +kernel)]
 rfl
noncomputable def TpV : List V → V → Hp → Prop := fun xs y H => ∃ t,y = .ref t ∧ H t = some (.tup xs)
noncomputable def OnT (C : Addr) : Ps × List Nat → V → Hp → Prop := fun p y H => ∃ t a,y = .ref t ∧ H t = some (.tup [.ref a,T p.2]) ∧ J6O C H a p.1.nm p.1.sk p.1.most p.1.car p.1.past
theorem TpV.keeps (n : List V) (y : V) (Ha Hb : Hp) (k : JV Ha Hb) (h : TpV n y Ha) : TpV n y Hb := let ⟨t,e,h⟩ := h; ⟨t,e,k _ _ h fun zs z => by cases z⟩
theorem OnT.keeps {C : Addr} (n : Ps × List Nat) (y : V) (Ha Hb : Hp) (k : JV Ha Hb) (h : OnT C n y Ha) : OnT C n y Hb := let ⟨t,a,e,h,g⟩ := h; ⟨t,a,e,k _ _ h (fun zs z => by cases z),g.keeps k⟩
noncomputable def mkA (row : List Nat) (d : Int) : Nat := row.getD d.toNat 0
theorem J4g {row : List Nat} {d : Int} (h0 : 0 ≤ d) (h : d < row.length) : atI row d = some (mkA row d) := by
 obtain ⟨c,h1,h2⟩ := J2C row d h0 h
 rw [h1]
 unfold mkA
 rw [List.getD_eq_getElem?_getD,h2]
 rfl
structure Ru where
 nm : List Nat
 B : List Nat → Bool
structure Pr where
 wd : List Nat
 one : List Nat
 two : List Nat
 i : Nat
 j : Nat
noncomputable def BadQ (P : Program) (w : World) (K : PySem.W.Frag) (mg : Str → Option Value) (base : Heap) (H : Hp) (a : Addr) (B : List Nat → Bool) : Prop := ∃ (C dx : Addr) (fs : List (Str × V)) (k : Nat) (ps : List Str) (sp : Sp),H a = some (.ins C dx fs) ∧ fs.lookup ("bad" : Str) = none ∧ MtG P w K mg base C "bad" k ps sp ∧ k ≤ 9 ∧ ∀ (m : List Nat),m.length ≤ 200 → ∀ (H' : Hp) (Q' : VK),JV H H' → (∀ H'',Same H' H'' → Q' (.bl (B m)) H'') → sp [.ref a,T m] H' Q' E0
theorem BadQ.keeps {P : Program} {w : World} {K : PySem.W.Frag} {mg : Str → Option Value} {base : Heap} {H H' : Hp} {a : Addr} {B : List Nat → Bool} (x : BadQ P w K mg base H a B) (k : JV H H') : BadQ P w K mg base H' a B := by
 obtain ⟨C,dx,fs,n,ps,sp,h1,h2,h3,h4,h5⟩ := x
 exact ⟨C,dx,fs,n,ps,sp,k _ _ h1 (fun zs z => by cases z),h2,h3,h4,fun m hm H2 Q' k2 q => h5 m hm H2 Q' (k.trans k2) q⟩
noncomputable def RuT (P : Program) (w : World) (K : PySem.W.Frag) (mg : Str → Option Value) (base : Heap) : Ru → V → Hp → Prop := fun r y H => ∃ t a,y = .ref t ∧ H t = some (.tup [T r.nm,.ref a]) ∧ BadQ P w K mg base H a r.B
theorem RuT.keeps {P : Program} {w : World} {K : PySem.W.Frag} {mg : Str → Option Value} {base : Heap} (r : Ru) (y : V) (Ha Hb : Hp) (k : JV Ha Hb) (h : RuT P w K mg base r y Ha) : RuT P w K mg base r y Hb := let ⟨t,a,e,h1,h2⟩ := h; ⟨t,a,e,k _ _ h1 (fun zs z => by cases z),h2.keeps k⟩
noncomputable def PrT : Pr → V → Hp → Prop := fun p y H => ∃ t,y = .ref t ∧ H t = some (.tup [T p.wd,T p.one,T p.two])
theorem PrT.keeps (r : Pr) (y : V) (Ha Hb : Hp) (k : JV Ha Hb) (h : PrT r y Ha) : PrT r y Hb := let ⟨t,e,h1⟩ := h; ⟨t,e,k _ _ h1 (fun zs z => by cases z)⟩
noncomputable def PrIn (ps : List Ps) (p : Pr) : Prop := ((ps.map (·.nm))[p.i]? = some p.one ∧ ∀ j < p.i,¬ (ps.map (·.nm))[j]? = some p.one) ∧ (ps.map (·.nm))[p.j]? = some p.two ∧ ∀ j < p.j,¬ (ps.map (·.nm))[j]? = some p.two
noncomputable abbrev wAll : List Nat := [97,108,108]
noncomputable abbrev Jg1 : List Nat := [114,117,108,101]
noncomputable abbrev J4Z : List Nat := [112,97,105,114]
noncomputable abbrev J5A : List Nat := [97,112,97,114,116]
noncomputable def ruAt (rls : List Ru) (i : Nat) : Ru := rls.getD i ⟨[],fun _ => false⟩
theorem J60 {rls : List Ru} {i : Nat} {a : Ru} (h : rls[i]? = some a) : ruAt rls i = a := by
 unfold ruAt
 rw [List.getD_eq_getElem?_getD,h]
 rfl
noncomputable def J3H (rls : List Ru) (nm : List Nat) (i : Nat) : Bool := decide ((ruAt rls i).nm ∈ [wAll,nm])
noncomputable def ruI (rls : List Ru) (nm : List Nat) : List Nat := (List.range rls.length).filter (J3H rls nm)
noncomputable def FdT (P : Program) (w : World) (K : PySem.W.Frag) (mg : Str → Option Value) (base : Heap) (rls : List Ru) : Nat → V → Hp → Prop := fun i y H => ∃ t a,y = .ref t ∧ H t = some (.tup [.int (i : Nat),.ref a]) ∧ BadQ P w K mg base H a (ruAt rls i).B
theorem FdT.keeps {P : Program} {w : World} {K : PySem.W.Frag} {mg : Str → Option Value} {base : Heap} {rls : List Ru} (i : Nat) (y : V) (Ha Hb : Hp) (k : JV Ha Hb) (h : FdT P w K mg base rls i y Ha) : FdT P w K mg base rls i y Hb := let ⟨t,a,e,h1,h2⟩ := h; ⟨t,a,e,k _ _ h1 (fun zs z => by cases z),h2.keeps k⟩
noncomputable def ruV (d : Int) (nm : List Nat) (i : Nat) : List V := [.int d,T Jg1,T nm,.int (i : Nat)]
noncomputable def ruB (rls : List Ru) (m : List Nat) (i : Nat) : Bool := (ruAt rls i).B m
noncomputable def ruP (rls : List Ru) (d : Int) (a : Ps × List Nat) : List (List V) := ((ruI rls a.1.nm).filter (ruB rls (a.1.past ++ cutN a.2 none (some (d + 1))))).map (ruV d a.1.nm)
noncomputable def ruF (rls : List Ru) (ps : List Ps) (rows : List (List Nat)) (d : Int) : List (List V) := ((ps.zip rows).map (ruP rls d)).flatten
theorem Jbf (rls : List Ru) (nm : List Nat) : (ruI rls nm).length ≤ rls.length := Nat.le_trans (List.length_filter_le _ _) (by rw [List.length_range]; exact Nat.le_refl _)
theorem JdW (rls : List Ru) (d : Int) (a : Ps × List Nat) : (ruP rls d a).length ≤ rls.length := by
 unfold ruP
 rw [List.length_map]
 exact Nat.le_trans (List.length_filter_le _ _) (Jbf _ _)
theorem J63 (rls : List Ru) (d : Int) (h6 : rls.length ≤ 8) : ∀ l : List (Ps × List Nat),((l.map (ruP rls d)).flatten).length ≤ 8 * l.length
 | [] => Nat.le_refl _
 | a :: l => by
  have h1 := JdW rls d a
  have h2 := J63 rls d h6 l
  rw [List.map_cons,List.flatten_cons,List.length_append,List.length_cons]
  omega
theorem J8t {rls : List Ru} {ps : List Ps} {rows : List (List Nat)} {d : Int} (h6 : rls.length ≤ 8) (hp : ps.length ≤ 8) : (ruF rls ps rows d).length ≤ 64 := by
 have h := J63 rls d h6 (ps.zip rows)
 rw [List.length_zip] at h
 unfold ruF
 omega
noncomputable def brkB (wd : List Nat) (m o : Nat) : Bool := !decide (m = 45) && (if wd = J5A then decide (m = o) else !decide (m = o))
noncomputable def paB (rows : List (List Nat)) (d : Int) (p : Pr) : Bool := brkB p.wd (mkA (rows.getD p.i []) d) (mkA (rows.getD p.j []) d)
noncomputable def prAt (prs : List Pr) (i : Nat) : Pr := prs.getD i ⟨[],[],[],0,0⟩
noncomputable def paV (d : Int) (prs : List Pr) (i : Nat) : List V := [.int d,T J4Z,T (prAt prs i).one,.int (i : Nat)]
noncomputable def paL (prs : List Pr) (rows : List (List Nat)) (d : Int) (n : Nat) : List (List V) := ((List.range n).filter fun i => paB rows d (prAt prs i)).map (paV d prs)
noncomputable def paF (prs : List Pr) (rows : List (List Nat)) (d : Int) : List (List V) := paL prs rows d prs.length
theorem J54 (prs : List Pr) (rows : List (List Nat)) (d : Int) (n : Nat) : (paL prs rows d n).length ≤ n := by
 unfold paL
 rw [List.length_map]
 exact Nat.le_trans (List.length_filter_le _ _) (by rw [List.length_range]; exact Nat.le_refl _)
noncomputable def Hq (C1 C2 : Addr) (H : Hp) (h : Addr) (dd : Int) (ks : List Nat) (nds : List Nd) (ps : List Ps) (ls : List (List Nat × Int)) (u5 u6 : List V) : Prop :=
 ∃ a1 a2 a3 a4 a5 a6 xs ys zs ws,J5W C2 H h dd ks a1 a2 a3 a4 a5 a6 ∧ H a1 = some (.lst xs) ∧ All2 NdAt H nds xs ∧ H a2 = some (.lst ys) ∧ All2 (PsO C1) H ps ys ∧ H a3 = some (.lst zs) ∧ All2 LvT H ls zs ∧ H a4 = some (.lst ws) ∧ H a5 = some (.lst u5) ∧ H a6 = some (.lst u6)
theorem Hq.same {C1 C2 : Addr} {H H' : Hp} {h : Addr} {dd : Int} {ks : List Nat} {nds : List Nd} {ps : List Ps} {ls : List (List Nat × Int)} {u5 u6 : List V} (x : Hq C1 C2 H h dd ks nds ps ls u5 u6) (s : Same H H') : Hq C1 C2 H' h dd ks nds ps ls u5 u6 := by
 obtain ⟨a1,a2,a3,a4,a5,a6,xs,ys,zs,ws,h1,h2,h3,h4,h5,h6,h7,h8,h9,h10⟩ := x
 exact ⟨a1,a2,a3,a4,a5,a6,xs,ys,zs,ws,h1.keeps s.keeps,s _ _ h2,h3.imp fun a y => NdAt.keeps a y _ _ s.keeps,s _ _ h4,h5.imp fun a y => PsO.keeps a y _ _ s.keeps,s _ _ h6,h7.imp fun a y => LvT.keeps a y _ _ s.keeps,s _ _ h8,s _ _ h9,s _ _ h10⟩
theorem Hq.k {C1 C2 : Addr} {H : Hp} {h : Addr} {dd : Int} {ks : List Nat} {nds : List Nd} {ps : List Ps} {ls : List (List Nat × Int)} {u5 u6 : List V} (x : Hq C1 C2 H h dd ks nds ps ls u5 u6) : Hk C1 C2 H h dd ks nds ps ls := by
 obtain ⟨a1,a2,a3,a4,a5,a6,xs,ys,zs,ws,h1,h2,h3,h4,h5,h6,h7,h8,h9,h10⟩ := x
 exact ⟨a1,a2,a3,a4,a5,a6,xs,ys,zs,ws,h1,h2,h3,h4,h5,h6,h7,h8⟩
theorem Hq.n {C1 C2 : Addr} {H : Hp} {h : Addr} {dd : Int} {ks : List Nat} {nds : List Nd} {ps : List Ps} {ls : List (List Nat × Int)} {u5 u6 : List V} (x : Hq C1 C2 H h dd ks nds ps ls u5 u6) : HouN C1 C2 H h (ps.map (·.nm)) := by
 obtain ⟨a1,a2,a3,a4,a5,a6,xs,ys,zs,ws,h1,h2,h3,h4,h5,_⟩ := x
 exact ⟨_,_,a1,a2,a3,a4,a5,a6,ys,h1,h4,All2.mapL (P := PerN C1) (h5.imp fun a y ⟨b,e,hp⟩ => ⟨b,_,_,_,_,e,hp⟩)⟩
noncomputable abbrev JdF : List Nat := [115,107,105,108,108]
noncomputable abbrev J8M : List Nat := [108,101,97,118,101]
noncomputable abbrev J2G : List Nat := [110,101,101,100]
noncomputable abbrev wMoF : List Nat := [109,111,115,116]
noncomputable def onB (d : Int) (p : Ps × List Nat) : Bool := !decide (mkA p.2 d = 45)
noncomputable def skB (d : Int) (p : Ps × List Nat) : Bool := !decide (mkA p.2 d ∈ p.1.sk)
noncomputable def lvB (ls : List (List Nat × Int)) (d : Int) (p : Ps × List Nat) : Bool := Jg4 ls p.1.nm d
noncomputable def moB (d : Int) (p : Ps × List Nat) : Bool := decide (p.1.most < (dut (cutN p.2 none (some (d + 1))) : Int))
noncomputable def cntF (rows : List (List Nat)) (d : Int) (k : Nat) : Nat := (rows.filter fun r => decide (mkA r d = k)).length
noncomputable def neB (nds : List Nd) (rows : List (List Nat)) (d : Int) (k : Nat) : Bool := decide ((cntF rows d k : Int) < (J1y nds d k).1) || decide ((J1y nds d k).2 < (cntF rows d k : Int))
noncomputable def skV (d : Int) (p : Ps × List Nat) : List V := [.int d,T JdF,T p.1.nm,T [mkA p.2 d]]
noncomputable def lvV (d : Int) (p : Ps × List Nat) : List V := [.int d,T J8M,T p.1.nm,T [mkA p.2 d]]
noncomputable def moV (d : Int) (p : Ps × List Nat) : List V := [.int d,T wMoF,T p.1.nm,.int (dut (cutN p.2 none (some (d + 1))) : Int)]
noncomputable def neV (rows : List (List Nat)) (d : Int) (k : Nat) : List V := [.int d,T J2G,T [k],.int (cntF rows d k : Int)]
noncomputable def skF (ps : List Ps) (rows : List (List Nat)) (d : Int) : List (List V) := (((ps.zip rows).filter (onB d)).filter (skB d)).map (skV d)
noncomputable def lvF (ls : List (List Nat × Int)) (ps : List Ps) (rows : List (List Nat)) (d : Int) : List (List V) := (((ps.zip rows).filter (onB d)).filter (lvB ls d)).map (lvV d)
noncomputable def moF (ps : List Ps) (rows : List (List Nat)) (d : Int) : List (List V) := (((ps.zip rows).filter (onB d)).filter (moB d)).map (moV d)
noncomputable def neF (ks : List Nat) (nds : List Nd) (rows : List (List Nat)) (d : Int) : List (List V) := (ks.filter (neB nds rows d)).map (neV rows d)
noncomputable def dayF (ks : List Nat) (nds : List Nd) (ls : List (List Nat × Int)) (rls : List Ru) (prs : List Pr) (ps : List Ps) (rows : List (List Nat)) (d : Int) : List (List V) := skF ps rows d ++ lvF ls ps rows d ++ neF ks nds rows d ++ moF ps rows d ++ ruF rls ps rows d ++ paF prs rows d
noncomputable def allF (ks : List Nat) (nds : List Nd) (ls : List (List Nat × Int)) (rls : List Ru) (prs : List Pr) (ps : List Ps) (rows : List (List Nat)) : Nat → List (List V)
 | 0 => []
 | n + 1 => allF ks nds ls rls prs ps rows n ++ dayF ks nds ls rls prs ps rows (0 + (n : Int))
theorem J3A {ps : List Ps} {rows : List (List Nat)} (f g : Ps × List Nat → Bool) (v : Ps × List Nat → List V) (hp : ps.length ≤ 8) : ((((ps.zip rows).filter f).filter g).map v).length ≤ 8 := by
 rw [List.length_map]
 have h1 := List.length_filter_le g ((ps.zip rows).filter f)
 have h2 := List.length_filter_le f (ps.zip rows)
 rw [List.length_zip] at h2
 omega
theorem J8R {ks : List Nat} {nds : List Nd} {rows : List (List Nat)} {d : Int} (hk : ks.length ≤ 4) : (neF ks nds rows d).length ≤ 4 := by
 unfold neF
 rw [List.length_map]
 have h1 := List.length_filter_le (neB nds rows d) ks
 omega
theorem Jeo {ks : List Nat} {nds : List Nd} {ls : List (List Nat × Int)} {rls : List Ru} {prs : List Pr} {ps : List Ps} {rows : List (List Nat)} {d : Int} (hp : ps.length ≤ 8) (hk : ks.length ≤ 4) (h6 : rls.length ≤ 8) (h2' : prs.length ≤ 8) : (dayF ks nds ls rls prs ps rows d).length ≤ 100 := by
 unfold dayF
 have h1 : (skF ps rows d).length ≤ 8 := J3A _ _ _ hp
 have h2 : (lvF ls ps rows d).length ≤ 8 := J3A _ _ _ hp
 have h3 : (moF ps rows d).length ≤ 8 := J3A _ _ _ hp
 have h4 := J8R (nds := nds) (rows := rows) (d := d) hk
 have h5 := J8t (rows := rows) (d := d) h6 hp
 have h7 : (paF prs rows d).length ≤ prs.length := J54 _ _ _ _
 simp only [List.length_append]
 omega
theorem J8K {ks : List Nat} {nds : List Nd} {ls : List (List Nat × Int)} {rls : List Ru} {prs : List Pr} {ps : List Ps} {rows : List (List Nat)} (hp : ps.length ≤ 8) (hk : ks.length ≤ 4) (h6 : rls.length ≤ 8) (h2' : prs.length ≤ 8) : ∀ n,(allF ks nds ls rls prs ps rows n).length ≤ 100 * n
 | 0 => Nat.le_refl _
 | n + 1 => by
  have h := J8K (nds := nds) (ls := ls) (rows := rows) hp hk h6 h2' n
  have h2 := Jeo (nds := nds) (ls := ls) (rows := rows) (d := 0 + (n : Int)) hp hk h6 h2'
  rw [allF,List.length_append]
  omega
noncomputable def ROk (rows : List (List Nat)) (d : Int) : Prop := 0 ≤ d ∧ ∀ r ∈ rows,d < (r.length : Int) ∧ r.length ≤ 100
noncomputable def JfH (C1 C2 : Addr) : Sp := fun vs H Q _ => ∃ (h r : Addr) (d dd : Int) (ks : List Nat) (nds : List Nd) (ps : List Ps) (ls : List (List Nat × Int)) (u5 u6 : List V) (rows : List (List Nat)),vs = [.ref h,.ref r,.int d] ∧ Hq C1 C2 H h dd ks nds ps ls u5 u6 ∧ H r = some (.lst (rows.map T)) ∧ rows.length = ps.length ∧ ps.length ≤ 8 ∧ ROk rows d ∧
 ∀ (D : Addr) (H' : Hp) (ys : List V),Same H H' → H D = none → H' D = some (.lst ys) → All2 (OnT C1) H' ((ps.zip rows).filter (onB d)) ys → Q (.ref D) H'
noncomputable def JdN (C1 C2 : Addr) (F : List Nat → List Nd → List (List Nat × Int) → List Ps → List (List Nat) → Int → List (List V)) : Sp := fun vs H Q _ => ∃ (h r : Addr) (d dd : Int) (ks : List Nat) (nds : List Nd) (ps : List Ps) (ls : List (List Nat × Int)) (u5 u6 : List V) (rows : List (List Nat)),vs = [.ref h,.ref r,.int d] ∧ Hq C1 C2 H h dd ks nds ps ls u5 u6 ∧ H r = some (.lst (rows.map T)) ∧ rows.length = ps.length ∧ ps.length ≤ 8 ∧ ks.length ≤ 4 ∧ ROk rows d ∧
 ∀ (D : Addr) (H' : Hp) (ys : List V),Same H H' → H D = none → H' D = some (.lst ys) → All2 TpV H' (F ks nds ls ps rows d) ys → Q (.ref D) H'
noncomputable def JdR (P : Program) (w : World) (K : PySem.W.Frag) (mg : Str → Option Value) (base : Heap) (C1 C2 : Addr) : Sp := fun vs H Q _ => ∃ (h : Addr) (p dd : Int) (ks : List Nat) (nds : List Nd) (ps : List Ps) (ls : List (List Nat × Int)) (u5 u6 : List V) (n : Ps) (rls : List Ru),vs = [.ref h,.int p] ∧ Hq C1 C2 H h dd ks nds ps ls u5 u6 ∧ 0 ≤ p ∧ ps[p.toNat]? = some n ∧ All2 (RuT P w K mg base) H rls u5 ∧ rls.length ≤ 8 ∧ ∀ (D : Addr) (H' : Hp) (ys : List V),Same H H' → H' D = some (.lst ys) → All2 (FdT P w K mg base rls) H' (ruI rls n.nm) ys → Q (.ref D) H'
noncomputable def JfK (P : Program) (w : World) (K : PySem.W.Frag) (mg : Str → Option Value) (base : Heap) (C1 C2 : Addr) : Sp := fun vs H Q _ => ∃ (h r : Addr) (d dd : Int) (ks : List Nat) (nds : List Nd) (ps : List Ps) (ls : List (List Nat × Int)) (u5 u6 : List V) (rows : List (List Nat)) (rls : List Ru),vs = [.ref h,.ref r,.int d] ∧ Hq C1 C2 H h dd ks nds ps ls u5 u6 ∧ H r = some (.lst (rows.map T)) ∧ rows.length = ps.length ∧ ps.length ≤ 8 ∧ ROk rows d ∧ (∀ n ∈ ps,n.past.length ≤ 100) ∧ All2 (RuT P w K mg base) H rls u5 ∧ rls.length ≤ 8 ∧
 ∀ (D : Addr) (H' : Hp) (ys : List V),Same H H' → H D = none → H' D = some (.lst ys) → All2 TpV H' (ruF rls ps rows d) ys → Q (.ref D) H'
noncomputable def JfJ (C1 C2 : Addr) : Sp := fun vs H Q _ => ∃ (h r : Addr) (d dd : Int) (ks : List Nat) (nds : List Nd) (ps : List Ps) (ls : List (List Nat × Int)) (u5 u6 : List V) (rows : List (List Nat)) (prs : List Pr),vs = [.ref h,.ref r,.int d] ∧ Hq C1 C2 H h dd ks nds ps ls u5 u6 ∧ H r = some (.lst (rows.map T)) ∧ rows.length = ps.length ∧ ps.length ≤ 8 ∧ ROk rows d ∧ All2 PrT H prs u6 ∧ prs.length ≤ 8 ∧ (∀ p ∈ prs,PrIn ps p) ∧
 ∀ (D : Addr) (H' : Hp) (ys : List V),Same H H' → H D = none → H' D = some (.lst ys) → All2 TpV H' (paF prs rows d) ys → Q (.ref D) H'
noncomputable def JeP : Sp := fun vs H Q _ => ∃ (wd : List Nat) (m o : Nat),vs = [T wd,T [m],T [o]] ∧ Q (.bl (brkB wd m o)) H
noncomputable def JbB (P : Program) (w : World) (K : PySem.W.Frag) (mg : Str → Option Value) (base : Heap) (C1 C2 : Addr) : Sp := fun vs H Q _ => ∃ (h r : Addr) (dd : Int) (ks : List Nat) (nds : List Nd) (ps : List Ps) (ls : List (List Nat × Int)) (u5 u6 : List V) (rows : List (List Nat)) (rls : List Ru) (prs : List Pr),vs = [.ref h,.ref r] ∧ Hq C1 C2 H h dd ks nds ps ls u5 u6 ∧ H r = some (.lst (rows.map T)) ∧ rows.length = ps.length ∧ ps.length ≤ 8 ∧ ks.length ≤ 4 ∧ 0 ≤ dd ∧ dd ≤ 14 ∧ (∀ r ∈ rows,(r.length : Int) = dd) ∧ (∀ n ∈ ps,n.past.length ≤ 100) ∧ All2 (RuT P w K mg base) H rls u5 ∧ rls.length ≤ 8 ∧ All2 PrT H prs u6 ∧ prs.length ≤ 8 ∧ (∀ p ∈ prs,PrIn ps p) ∧
 ∀ (D : Addr) (H' : Hp) (ys : List V),Same H H' → H D = none → H' D = some (.lst ys) → All2 TpV H' (allF ks nds ls rls prs ps rows dd.toNat) ys → Q (.ref D) H'
theorem J5R (a b c d e f g h : V) : List.lookup ("place_of" : Str) (fH a b c d e f g h) = none := lH_m _ _ _ _ _ _ _ _ (by decide +kernel) (by decide +kernel) (by decide +kernel) (by decide +kernel) (by decide +kernel) (by decide +kernel) (by decide +kernel) (by decide +kernel)
section
variable {P : Program} {w : World} {K : PySem.W.Frag} {mg : Str → Option Value} {base : Heap} {Jb Jf Ja Jh J8 Jn J5 J3 : Addr}
local macro_rules | `(tactic| walk_at "lk") => `(tactic| first | exact J62 _ _ _ _ _ | exact J5x _ _ _ _ _ | exact J8Q _ _ _ _ _ | exact Jb8 _ _ _ _ _ | exact J3B _ _ _ _ _ _ _ _ | exact J51 _ _ _ _ _ _ _ _ | exact J50 _ _ _ _ _ _ _ _ | exact J6T _ _ _ _ _ _ _ _ | exact Jb4 _ _ _ _ _ _ _ _ | exact J9T _ _ _ _ _ _ _ _ | exact J6J _ _ _ _ _ _ _ _ | exact J8C _ _ _ _ _ _ _ _ | exact J55 _ _ _ _ _ _ _ _ | exact J5R _ _ _ _ _ _ _ _ | exact Or.inr (SqT.of (by with_reducible assumption)))
theorem J5i (tx : Tx K mg Jb Jf Ja Jh J8 Jn J5 J3) : FnG P w K mg base "on_duty" 1 ["house","rota","day"] (JfH J5 J3) := by
 refine tx.JbA.g Jah (fun _ _ _ _ _ _ us hl => match us,hl with | [_,_,_],_ => rfl) (fun vs H Q E h => ?_) (fun f cdv A outer s H vs Q E hr h => ?_)
 ·obtain ⟨h,r,d,dd,ks,nds,ps,ls,u5,u6,rows,rfl,_⟩ := h
  rfl
 ·obtain ⟨h,r,d,dd,ks,nds,ps,ls,u5,u6,rows,rfl,⟨a1,a2,a3,a4,a5,a6,xs,ys,zs,ws,⟨dx,h1⟩,h2,h3,h4,h5,_⟩,hr1,hl,hp8,hR,q⟩ := h
  refine ⟨_,(J9 (Jt (J0p (osc := J4 J2w) (ON := ["house","rota","day"]) (N := ["person","row","day"]) (js := [none,none,some 2]) ⟨rfl,by decide +kernel,by decide +kernel,by decide +kernel,rfl,by decide +kernel⟩ rfl rfl rfl (J59 (K := K) rfl rfl tx.J4L (J0 (JC (K := K) rfl (pv 0) rfl) (J0 (pv 1) J1))) (fun _ _ _ _ _ => J5w (K := K) (i := 0) (j := 1) rfl rfl (show List.Nodup (["person","row","day"] : List Str) from by decide +kernel) rfl rfl (Or.inl rfl) (Or.inl rfl)) (fun _ _ _ _ _ => J17 (Jl J2Y (Jv J0B (pv 1) (pv 2) (fun _ _ => rfl)) (Js (l := [45]) (by decide +kernel)) (Jq _))) (fun _ _ _ _ _ => (JS (J0 (pv 0) (J0 (pv 1) J1))))))),?_⟩
  walk_at "st"
  have cH := tx.J0f.cl
  have nH := tx.J02
  have hyl := h5.len
  walk_at "rd"
  refine JaC (ps.zip rows) (onB d) (OnT J5) (fun σ => ∃ v1 v2,σ = [v1,v2,some (.int d)]) (SqL.of h4) (SqL.of hr1) ?_ ?_ ?_ ⟨_,_,rfl⟩ (fun a y Ha Hb k h => OnT.keeps a y Ha Hb k h) (fun i a u v p σ H' ha hu hv hσ s' hp Rf Rt hF hR' => ?_) (fun D H' ys hD s' hys hDD => ?_)
  ·rw [List.length_zip]; omega
  ·rw [List.length_zip,List.length_map]; omega
  ·rw [List.length_zip]; omega
  ·obtain ⟨v1,v2,rfl⟩ := hσ
   obtain ⟨n,row⟩ := a
   obtain ⟨hn,hrow⟩ := List.getElem?_zip_eq_some.mp ha
   obtain ⟨y,hy,pa,rfl,hpa⟩ := h5.get hn
   rw [hu] at hy
   cases hy
   rw [List.getElem?_map,hrow] at hv
   cases hv
   obtain ⟨hd,hrl⟩ := hR.2 row (List.mem_of_getElem? hrow)
   have e := J4g hR.1 hd
   have s2 : Same H' (upd H' p (.tup [V.ref pa,T row])) := Ji hp _
   walk_at "rd"
   refine ite2 (fun c => ?_) (fun c => ?_)
   ·walk_at "rd"
    intro t ht
    have s3 := s2.trans (Ji ht (.tup [V.ref pa,T row]))
    refine hR' _ _ _ ?_ ⟨_,_,rfl⟩ s3 ⟨t,pa,rfl,J7,hpa.keeps (s'.trans s3).keeps⟩
    unfold onB
    rw [decide_eq_false fun z => ?_]
    ·rfl
    ·have z' : mkA row d = 45 := z
     rw [z'] at c
     exact absurd c (by decide)
   ·refine hF _ _ ?_ ⟨_,_,rfl⟩ s2
    unfold onB
    have : mkA row d = 45 := Decidable.byContradiction fun z => c (by rw [decide_eq_false fun y => z (by simpa using J1V y)]; rfl)
    rw [decide_eq_true this]
    rfl
  ·exact q D H' ys s' hD hDD hys
theorem J6I (tx : Tx K mg Jb Jf Ja Jh J8 Jn J5 J3) : FnG P w K mg base "skill_faults" 2 ["house","rota","day"] (JdN J5 J3 fun _ _ _ ps rows d => skF ps rows d) := by
 have J2d := J5i (P := P) (w := w) (base := base) tx
 refine tx.J6v.g J3C (fun _ _ _ _ _ _ us hl => match us,hl with | [_,_,_],_ => rfl) (fun vs H Q E h => ?_) (fun f cdv A outer s H vs Q E hr h => ?_)
 ·obtain ⟨h,r,d,dd,ks,nds,ps,ls,u5,u6,rows,rfl,_⟩ := h
  rfl
 ·obtain ⟨h,r,d,dd,ks,nds,ps,ls,u5,u6,rows,rfl,hq,hr1,hl,hp8,hk4,hR,q⟩ := h
  refine ⟨_,(J2 (Jm (i := 3) J3C.nd rfl (Or.inl rfl) (JB J2d (hr.mono (by decide)) (J0 (pv 0) (J0 (pv 1) (J0 (pv 2) J1)))))
   (J9 (Jt (J0p (osc := J4 J0w) (ON := ["house","rota","day","having"]) (N := ["person","row","day"]) (js := [none,none,some 2]) ⟨rfl,by decide +kernel,by decide +kernel,by decide +kernel,rfl,by decide +kernel⟩ rfl rfl rfl (J0J (K := K) rfl (pv 3)) (fun _ _ _ _ _ => J5w (K := K) (i := 0) (j := 1) rfl rfl (show List.Nodup (["person","row","day"] : List Str) from by decide +kernel) rfl rfl (Or.inl rfl) (Or.inl rfl)) (fun _ _ _ _ _ => J17 (Jl J7E (Jv J0B (pv 1) (pv 2) (fun _ _ => rfl)) (JC (K := K) rfl (pv 0) rfl) rfl)) (fun _ _ _ _ _ => (JS (J0 (pv 2) (J0 (Js (l := [115,107,105,108,108]) (by decide +kernel)) (J0 (JC (K := K) rfl (pv 0) rfl) (J0 (Jv J0B (pv 1) (pv 2) (fun _ _ => rfl)) J1)))))))))),?_⟩
  walk_at "st"
  clear J2d
  have cP := tx.J0U.cl
  have nP1 := tx.J00
  have nP2 := tx.J0F
  walk_at "rd"
  intro D1 H1 ys s1 nD1 hD1 hA
  have hyl := hA.len
  have hfl := List.length_filter_le (onB d) (ps.zip rows)
  rw [List.length_zip] at hfl
  walk_at "rd"
  refine J0k ((ps.zip rows).filter (onB d)) (skB d) (fun p y H => TpV (skV d p) y H) (fun σ => ∃ v1 v2,σ = [v1,v2,some (.int d)]) (J16 (SqL.of hD1)) hyl ?_ ⟨_,_,rfl⟩ (fun a y Ha Hb k h => TpV.keeps _ y Ha Hb k h) (fun i a v σ H' ha hv hσ s' Rf Rt hF hR' => ?_) (fun D H' zs hD s' hzs hDD => ?_)
  ·omega
  ·obtain ⟨v1,v2,rfl⟩ := hσ
   obtain ⟨n,row⟩ := a
   obtain ⟨y,hy,t,pa,rfl,ht,dxp,hpa⟩ := hA.get ha
   rw [hv] at hy
   cases hy
   have hm := (List.mem_filter.mp (List.mem_of_getElem? ha)).1
   obtain ⟨hd,hrl⟩ := hR.2 row (List.of_mem_zip hm).2
   have e := J4g hR.1 hd
   have ht' := s' _ _ ht
   have hpa' := s' _ _ hpa
   walk_at "rd"
   refine ite2 (fun c => ?_) (fun c => ?_)
   ·walk_at "rd"
    intro t2 ht2
    exact hR' _ _ _ c ⟨_,_,rfl⟩ (Ji ht2 _) ⟨t2,rfl,J7⟩
   ·exact hF _ _ (Bool.eq_false_iff.mpr c) ⟨_,_,rfl⟩ (Same.refl _)
  ·exact q D H' zs (s1.trans s') (s1.free hD) hDD hzs.mapL
theorem J68 (tx : Tx K mg Jb Jf Ja Jh J8 Jn J5 J3) : FnG P w K mg base "leave_faults" 2 ["house","rota","day"] (JdN J5 J3 fun _ _ ls ps rows d => lvF ls ps rows d) := by
 have J2d := J5i (P := P) (w := w) (base := base) tx
 refine tx.J6g.g J3D (fun _ _ _ _ _ _ us hl => match us,hl with | [_,_,_],_ => rfl) (fun vs H Q E h => ?_) (fun f cdv A outer s H vs Q E hr h => ?_)
 ·obtain ⟨h,r,d,dd,ks,nds,ps,ls,u5,u6,rows,rfl,_⟩ := h
  rfl
 ·obtain ⟨h,r,d,dd,ks,nds,ps,ls,u5,u6,rows,rfl,hq,hr1,hl,hp8,hk4,hR,q⟩ := h
  refine ⟨_,(J2 (Jm (i := 3) J3D.nd rfl (Or.inl rfl) (JB J2d (hr.mono (by decide)) (J0 (pv 0) (J0 (pv 1) (J0 (pv 2) J1)))))
   (J9 (Jt (J0p (osc := J4 J0y) (ON := ["house","rota","day","having"]) (N := ["person","row","day","house"]) (js := [none,none,some 2,some 0]) ⟨rfl,by decide +kernel,by decide +kernel,by decide +kernel,rfl,by decide +kernel⟩ rfl rfl rfl (J0J (K := K) rfl (pv 3)) (fun _ _ _ _ _ => J5w (K := K) (i := 0) (j := 1) rfl rfl (show List.Nodup (["person","row","day","house"] : List Str) from by decide +kernel) rfl rfl (Or.inl rfl) (Or.inl rfl)) (fun _ _ _ _ _ => J17 (Jl (Jd2 (K := K) rfl (JeG hr)) (JS (J0 (JC (K := K) rfl (pv 0) rfl) (J0 (pv 2) J1))) (JC (K := K) rfl (pv 3) rfl) rfl)) (fun _ _ _ _ _ => (JS (J0 (pv 2) (J0 (Js (l := [108,101,97,118,101]) (by decide +kernel)) (J0 (JC (K := K) rfl (pv 0) rfl) (J0 (Jv J0B (pv 1) (pv 2) (fun _ _ => rfl)) J1)))))))))),?_⟩
  walk_at "st"
  clear J2d
  have cH := tx.J0f.cl
  have nH := tx.J0P
  have cP := tx.J0U.cl
  have nP1 := tx.J00
  walk_at "rd"
  intro D1 H1 ys s1 nD1 hD1 hA
  have hyl := hA.len
  have hfl := List.length_filter_le (onB d) (ps.zip rows)
  rw [List.length_zip] at hfl
  obtain ⟨a1,a2,a3,a4,a5,a6,xs',ys',zs',ws',⟨dx,h1⟩,_,_,_,_,h6,h7,_⟩ := hq
  walk_at "rd"
  refine J0k ((ps.zip rows).filter (onB d)) (lvB ls d) (fun p y H => TpV (lvV d p) y H) (fun σ => ∃ v1 v2,σ = [v1,v2,some (.int d),some (.ref h)]) (J16 (SqL.of hD1)) hyl ?_ ⟨_,_,rfl⟩ (fun a y Ha Hb k h => TpV.keeps _ y Ha Hb k h) (fun i a v σ H' ha hv hσ s' Rf Rt hF hR' => ?_) (fun D H' zs hD s' hzs hDD => ?_)
  ·omega
  ·obtain ⟨v1,v2,rfl⟩ := hσ
   obtain ⟨n,row⟩ := a
   obtain ⟨y,hy,t,pa,rfl,ht,dxp,hpa⟩ := hA.get ha
   rw [hv] at hy
   cases hy
   have hm := (List.mem_filter.mp (List.mem_of_getElem? ha)).1
   obtain ⟨hd,hrl⟩ := hR.2 row (List.of_mem_zip hm).2
   have e := J4g hR.1 hd
   have ht' := s' _ _ ht
   have hpa' := s' _ _ hpa
   have t1 := s1.trans s'
   walk_at "rd"
   intro t2 ht2
   obtain ⟨H2,e2,ht22,s2⟩ := newt (xs := [T n.nm,V.int d]) ht2
   rw [← e2]
   have k1 := s2 _ _ (t1 _ _ h1)
   have k6 := s2 _ _ (t1 _ _ h6)
   have kp := s2 _ _ hpa'
   have k7 := JcS (K := K) (h7.imp fun a y => LvT.keeps a y _ _ (t1.trans s2).keeps)
   have fl : ([T n.nm,V.int d] : List V).all J0l = true := rfl
   walk_at "rd"
   refine ite2 (fun c => ?_) (fun c => ?_)
   ·walk_at "rd"
    intro t3 ht3
    exact hR' _ _ _ c ⟨_,_,rfl⟩ (s2.trans (Ji ht3 _)) ⟨t3,rfl,J7⟩
   ·exact hF _ _ (Bool.eq_false_iff.mpr c) ⟨_,_,rfl⟩ s2
  ·exact q D H' zs (s1.trans s') (s1.free hD) hDD hzs.mapL
theorem J7j (tx : Tx K mg Jb Jf Ja Jh J8 Jn J5 J3) : FnG P w K mg base "need_faults" 2 ["house","rota","day"] (JdN J5 J3 fun ks nds _ _ rows d => neF ks nds rows d) := by
 have JcB := JeJ (P := P) (w := w) (base := base) tx
 refine tx.J7p.g J1t (fun _ _ _ _ _ _ us hl => match us,hl with | [_,_,_],_ => rfl) (fun vs H Q E h => ?_) (fun f cdv A outer s H vs Q E hr h => ?_)
 ·obtain ⟨h,r,d,dd,ks,nds,ps,ls,u5,u6,rows,rfl,_⟩ := h
  rfl
 ·obtain ⟨h,r,d,dd,ks,nds,ps,ls,u5,u6,rows,rfl,hq,hr1,hl,hp8,hk4,hR,q⟩ := h
  refine ⟨_,(J2 (Jm (i := 3) J1t.nd rfl (Or.inl rfl) (J0b J1))
   (J2 (J0E PassesOwn.never rfl (J4x (JC (K := K) rfl (pv 0) rfl)) (Je (i := 4) J1t.nd rfl (Or.inr rfl)) (J2 (Jm (i := 5) J1t.nd rfl (Or.inl rfl) (Jb5 JcB (hr.mono (by decide)) (pv 0) (J0 (pv 2) (J0 (pv 4) J1))))
   (J2 (Jm (i := 6) J1t.nd rfl (Or.inl rfl) (Ju (JH (K := K) rfl) rfl tx.J05 PySem.boot_len (J0 (J0p (osc := J4 J0S) (ON := ["house","rota","day","found","kind","need","many"]) (N := ["row","kind","day"]) (js := [none,some 4,some 2]) ⟨rfl,by decide +kernel,by decide +kernel,by decide +kernel,rfl,by decide +kernel⟩ rfl rfl rfl (J0J (K := K) rfl (pv 1)) (fun _ _ _ _ _ => Je (i := 0) (show List.Nodup (["row","kind","day"] : List Str) from by decide +kernel) rfl (Or.inl rfl)) (fun _ _ _ _ _ => J17 (Jl J0c (Jv J0B (pv 0) (pv 2) (fun _ _ => rfl)) (pv 1) (Jq _))) (fun _ _ _ _ _ => (pv 0))) J1)))
   (J9 (J1R (JO (PW.pt (J4i (Jl J5Q (pv 6) (Jv (JZ (K := K) rfl) (pv 5) J6 (fun _ _ => rfl)) (Jq _)) (J4v (Jl J3m (pv 6) (Jv (JZ (K := K) rfl) (pv 5) J6 (fun _ _ => rfl)) (Jq _))))) (J9 (J0D (J1O PySem.F.plainAttrs_list PySem.F.slot_list_append PySem.F.type_list_append JW (pv 3) (J0 (JS (J0 (pv 2) (J0 (Js (l := [110,101,101,100]) (by decide +kernel)) (J0 (pv 4) (J0 (pv 6) J1))))) J1)))) Jw))))))
   (J9 (Jt (pv 3))))),?_⟩
  walk_at "st"
  clear JcB
  have cH := tx.J0f.cl
  have nH := tx.J19
  have hq0 := hq
  obtain ⟨a1,a2,a3,a4,a5,a6,xs',ys',zs',ws',⟨dx,h1⟩,_⟩ := hq0
  walk_at "rd"
  intro fl nfl
  have k1 := Ji nfl (.lst []) _ _ h1
  walk_at "rd"
  refine Jbu (l := ks) (fun i σ H2 => Here (∃ v1 v2 v3 xs,σ = [some (.ref h),some (.ref r),some (.int d),some (.ref fl),v1,v2,v3] ∧ H2 fl = some (.lst xs) ∧ All2 TpV H2 (((ks.take i).filter (neB nds rows d)).map (neV rows d)) xs ∧ Same H H2)) (Here.mk ⟨none,none,none,[],rfl,J7,trivial,Ji nfl _⟩) ?_ ?_
  ·rintro i k σ H2 hk hv
   obtain ⟨v1,v2,v3,xs,rfl,hf2,hA2,s2⟩ := hv.out
   have hq2 := (hq.same s2).k
   have ob2 := s2 _ _ h1
   have hxl : xs.length ≤ 10 := by
    have h1 := hA2.len
    have h2 := List.length_filter_le (neB nds rows d) (ks.take i)
    rw [List.length_map] at h1
    rw [List.length_take] at h2
    omega
   walk_at "rd"
   intro t1 H3 s3 ht1
   have hr3 := s3 _ _ (s2 _ _ hr1)
   walk_at "rd"
   refine J0k rows (fun r => decide (mkA r d = k)) (fun _ _ _ => True) (fun σ => ∃ v,σ = [v,some (T [k]),some (.int d)]) (J16 (SqL.of hr3)) (by rw [List.length_map]) (by omega) ⟨_,rfl⟩ (fun _ _ _ _ _ z => z) (fun j row v σ H' hj hv hσ s' Rf Rt hF hR' => ?_) (fun D H4 ys hD s4 hys hDD => ?_)
   ·obtain ⟨w1,rfl⟩ := hσ
    rw [List.getElem?_map,hj] at hv
    cases hv
    obtain ⟨hd,hrl⟩ := hR.2 row (List.mem_of_getElem? hj)
    have e := J4g hR.1 hd
    walk_at "rd"
    refine ite2 (fun c => ?_) (fun c => ?_)
    ·have c' : mkA row d = k := by simpa using J1V (of_decide_eq_true c)
     walk_at "rd"
     exact hR' _ _ _ (decide_eq_true c') ⟨_,rfl⟩ (Same.refl _) trivial
    ·exact hF _ _ (decide_eq_false fun z => c (decide_eq_true (by rw [z]))) ⟨_,rfl⟩ (Same.refl _)
   have hyl : ys.length = cntF rows d k := hys.len
   have ht4 := s4 _ _ ht1
   have hf4 := s4 _ _ (s3 _ _ hf2)
   have e0 := at0 (V.int (J1y nds d k).1) (V.int (J1y nds d k).2)
   have e1 := at1 (V.int (J1y nds d k).1) (V.int (J1y nds d k).2)
   have t24 := s3.trans s4
   have ek : ((ks.take (i + 1)).filter (neB nds rows d)).map (neV rows d) = ((ks.take i).filter (neB nds rows d)).map (neV rows d) ++ (if neB nds rows d k = true then [neV rows d k] else []) := by
    rw [List.take_add_one,hk,List.filter_append,List.map_append]
    congr 1
    show (List.filter (neB nds rows d) [k]).map _ = _
    rw [List.filter_cons]
    split <;> rfl
   walk_at "rd"
   rw [hyl]
   refine tCut.mk (fun σ' H' => Here (∃ v1 v2 v3 xs',σ' = [some (.ref h),some (.ref r),some (.int d),some (.ref fl),v1,v2,v3] ∧ H' fl = some (.lst xs') ∧ All2 TpV H' (((ks.take (i + 1)).filter (neB nds rows d)).map (neV rows d)) xs' ∧ Same H H')) ?_ (fun σ' H' hv => hv)
   have put : neB nds rows d k = true → ∀ t2,H4 t2 = none → Here (∃ v1 v2 v3 xs',[some (V.ref h),some (.ref r),some (.int d),some (.ref fl),some (T [k]),some (.ref t1),some (.int (cntF rows d k : Nat))] = [some (.ref h),some (.ref r),some (.int d),some (.ref fl),v1,v2,v3] ∧ upd (upd H4 t2 (.tup [.int d,T J2G,T [k],.int (cntF rows d k : Nat)])) fl (.lst (xs ++ [.ref t2])) fl = some (.lst xs') ∧ All2 TpV (upd (upd H4 t2 (.tup [.int d,T J2G,T [k],.int (cntF rows d k : Nat)])) fl (.lst (xs ++ [.ref t2]))) (((ks.take (i + 1)).filter (neB nds rows d)).map (neV rows d)) xs' ∧ Same H (upd (upd H4 t2 (.tup [.int d,T J2G,T [k],.int (cntF rows d k : Nat)])) fl (.lst (xs ++ [.ref t2])))) := fun hb t2 ht2 => by
    have s5 : Same H4 (upd H4 t2 (.tup [.int d,T J2G,T [k],.int (cntF rows d k : Nat)])) := Ji ht2 _
    have kk : JV (upd H4 t2 (.tup [.int d,T J2G,T [k],.int (cntF rows d k : Nat)])) (upd (upd H4 t2 (.tup [.int d,T J2G,T [k],.int (cntF rows d k : Nat)])) fl (.lst (xs ++ [.ref t2]))) := JP (s5 _ _ hf4)
    refine Here.mk ⟨_,_,_,xs ++ [.ref t2],rfl,J7,?_,((s2.trans t24).trans s5).upd nfl⟩
    rw [ek,if_pos hb]
    exact All2.snoc (hA2.imp fun a y => TpV.keeps a y _ _ ((t24.trans s5).keeps.trans kk)) ⟨t2,rfl,kk _ _ J7 (fun zs z => by cases z)⟩
   walk_at "rd"
   refine ite2 (fun c1 => ?_) (fun c1 => ?_)
   ·walk_at "rd"
    intro t2 ht2
    have hf5 := Ji ht2 (.tup [.int d,T J2G,T [k],.int (cntF rows d k : Nat)]) _ _ hf4
    walk_at "rd"
    exact put (by unfold neB; rw [c1]; rfl) t2 ht2
   ·walk_at "rd"
    refine ite2 (fun c2 => ?_) (fun c2 => ?_)
    ·walk_at "rd"
     intro t2 ht2
     have hf5 := Ji ht2 (.tup [.int d,T J2G,T [k],.int (cntF rows d k : Nat)]) _ _ hf4
     walk_at "rd"
     exact put (by unfold neB; rw [c2,Bool.or_true]) t2 ht2
    ·have hb : ¬ neB nds rows d k = true := by unfold neB; rw [Bool.eq_false_iff.mpr c1,Bool.eq_false_iff.mpr c2]; decide
     walk_at "rd"
     refine Here.mk ⟨_,_,_,xs,rfl,hf4,?_,s2.trans t24⟩
     rw [ek,if_neg hb,List.append_nil]
     exact hA2.imp fun a y => TpV.keeps a y _ _ t24.keeps
  ·rintro σ H2 hv
   obtain ⟨v1,v2,v3,xs,rfl,hf2,hA2,s2⟩ := hv.out
   rw [List.take_of_length_le (Nat.le_refl _)] at hA2
   walk_at "rd"
   exact q fl H2 xs s2 nfl hf2 hA2
theorem J7n (tx : Tx K mg Jb Jf Ja Jh J8 Jn J5 J3) : FnG P w K mg base "most_faults" 2 ["house","rota","day"] (JdN J5 J3 fun _ _ _ ps rows d => moF ps rows d) := by
 have J2d := J5i (P := P) (w := w) (base := base) tx
 have J5L := J9h (P := P) (w := w) (base := base) tx
 refine tx.J7f.g J1n (fun _ _ _ _ _ _ us hl => match us,hl with | [_,_,_],_ => rfl) (fun vs H Q E h => ?_) (fun f cdv A outer s H vs Q E hr h => ?_)
 ·obtain ⟨h,r,d,dd,ks,nds,ps,ls,u5,u6,rows,rfl,_⟩ := h
  rfl
 ·obtain ⟨h,r,d,dd,ks,nds,ps,ls,u5,u6,rows,rfl,hq,hr1,hl,hp8,hk4,hR,q⟩ := h
  refine ⟨_,(J2 (Jm (i := 3) J1n.nd rfl (Or.inl rfl) (J0b J1))
   (J2 (J0E PassesOwn.never rfl (J0J (K := K) rfl (JB J2d (hr.mono (by decide)) (J0 (pv 0) (J0 (pv 1) (J0 (pv 2) J1))))) (J0Y rfl (Jk (Je (i := 4) J1n.nd rfl (Or.inl rfl)) (Jk (Je (i := 5) J1n.nd rfl (Or.inl rfl)) J08))) (J2 (Jm (i := 6) J1n.nd rfl (Or.inl rfl) (JB J5L (hr.mono (by decide)) (J0 (JJ J3T (pv 5) J09 (JT (Jd J0a (pv 2) J6))) J1)))
   (J9 (J1R (JO (Jl J3m (pv 6) (JC (K := K) rfl (pv 4) rfl) (Jq _)) (J9 (J0D (J1O PySem.F.plainAttrs_list PySem.F.slot_list_append PySem.F.type_list_append JW (pv 3) (J0 (JS (J0 (pv 2) (J0 (Js (l := [109,111,115,116]) (by decide +kernel)) (J0 (JC (K := K) rfl (pv 4) rfl) (J0 (pv 6) J1))))) J1)))) Jw)))))
   (J9 (Jt (pv 3))))),?_⟩
  walk_at "st"
  clear J2d J5L
  have cP := tx.J0U.cl
  have nP1 := tx.J00
  have nP2 := tx.J1c
  walk_at "rd"
  intro fl nfl
  obtain ⟨H0,e0,hf0,s0⟩ := newl (xs := []) nfl
  rw [← e0]
  have hq0 := hq.same s0
  have hr0 := s0 _ _ hr1
  walk_at "rd"
  intro D1 H1 ys s1 nD1 hD1 hA
  have hyl := hA.len
  have hfl := List.length_filter_le (onB d) (ps.zip rows)
  rw [List.length_zip] at hfl
  have hf1 := s1 _ _ hf0
  have nfD : D1 ≠ fl := (Jc hf0 nD1).symm
  walk_at "rd"
  generalize hon : (ps.zip rows).filter (onB d) = on at hA hyl hfl
  refine J3V (K := K) (xs := ys) (fun i σ H2 => Here (∃ v1 v2 v3 xs,σ = [some (.ref h),some (.ref r),some (.int d),some (.ref fl),v1,v2,v3] ∧ H2 fl = some (.lst xs) ∧ All2 TpV H2 (((on.take i).filter (moB d)).map (moV d)) xs ∧ H2 D1 = some (.lst ys) ∧ JV H1 H2 ∧ Same H H2)) (Here.mk ⟨none,none,none,[],rfl,hf1,trivial,hD1,(Same.refl _).keeps,s0.trans s1⟩) (fun i σ H2 _ hv => by obtain ⟨_,_,_,_,_,_,_,e,_⟩ := hv.out; exact SqL.of e) ?_ ?_
  ·rintro i x σ H2 hx hv
   obtain ⟨v1,v2,v3,xs,rfl,hf2,hA2,hD2,k2,s2⟩ := hv.out
   obtain ⟨p,hp,hpt⟩ := hA.back hx
   have hm : p ∈ ps.zip rows := by rw [← hon] at hp; exact (List.mem_filter.mp (List.mem_of_getElem? hp)).1
   obtain ⟨n,row⟩ := p
   obtain ⟨t,pa,rfl,ht,dxp,hpa⟩ := OnT.keeps _ _ _ _ k2 hpt
   obtain ⟨hd,hrl⟩ := hR.2 row (List.of_mem_zip hm).2
   have hxl : xs.length ≤ 10 := by
    have h1 := hA2.len
    have h2 := List.length_filter_le (moB d) (on.take i)
    rw [List.length_map] at h1
    rw [List.length_take] at h2
    omega
   have cl := J2M row none (some (d + 1))
   have ek : ((on.take (i + 1)).filter (moB d)).map (moV d) = ((on.take i).filter (moB d)).map (moV d) ++ (if moB d (n,row) = true then [moV d (n,row)] else []) := by
    rw [List.take_add_one,hp,List.filter_append,List.map_append]
    congr 1
    show (List.filter (moB d) [(n,row)]).map _ = _
    rw [List.filter_cons]
    split <;> rfl
   walk_at "rd"
   intro H3 s3
   have hpa3 := s3 _ _ hpa
   have hf3 := s3 _ _ hf2
   walk_at "rd"
   refine tCut.mk (fun σ' H' => Here (∃ v1 v2 v3 xs',σ' = [some (.ref h),some (.ref r),some (.int d),some (.ref fl),v1,v2,v3] ∧ H' fl = some (.lst xs') ∧ All2 TpV H' (((on.take (i + 1)).filter (moB d)).map (moV d)) xs' ∧ H' D1 = some (.lst ys) ∧ JV H1 H' ∧ Same H H')) ?_ (fun σ' H' hv => hv)
   walk_at "rd"
   refine ite2 (fun c1 => ?_) (fun c1 => ?_)
   ·walk_at "rd"
    intro t2 ht2
    obtain ⟨H4,e4,ht4,s4⟩ := newt (xs := [.int d,T wMoF,T n.nm,.int (dut (cutN row none (some (d + 1))) : Nat)]) ht2
    rw [← e4]
    have hf4 := s4 _ _ hf3
    walk_at "rd"
    have kk : JV H4 (upd H4 fl (.lst (xs ++ [.ref t2]))) := JP hf4
    refine Here.mk ⟨_,_,_,xs ++ [.ref t2],rfl,J7,?_,?_,k2.trans ((s3.trans s4).keeps.trans kk),((s2.trans s3).trans s4).upd nfl⟩
    ·rw [ek,if_pos (show moB d (n,row) = true from c1)]
     exact All2.snoc (hA2.imp fun a y => TpV.keeps a y _ _ ((s3.trans s4).keeps.trans kk)) ⟨t2,rfl,kk _ _ ht4 (fun zs z => by cases z)⟩
    ·rw [Jg nfD]
     exact s4 _ _ (s3 _ _ hD2)
   ·walk_at "rd"
    refine Here.mk ⟨_,_,_,xs,rfl,hf3,?_,s3 _ _ hD2,k2.trans s3.keeps,s2.trans s3⟩
    rw [ek,if_neg (show ¬ moB d (n,row) = true from c1),List.append_nil]
    exact hA2.imp fun a y => TpV.keeps a y _ _ s3.keeps
  ·rintro σ H2 hv
   obtain ⟨v1,v2,v3,xs,rfl,hf2,hA2,hD2,k2,s2⟩ := hv.out
   rw [hyl,List.take_of_length_le (Nat.le_refl _),← hon] at hA2
   walk_at "rd"
   exact q fl H2 xs s2 nfl hf2 hA2
end
theorem Jg6 (a b : List Nat) : eqV (T a) (T b) = decide (a = b) := by
 by_cases h : a = b
 ·subst h
  rw [decide_eq_true rfl]
  exact decide_eq_true rfl
 ·rw [decide_eq_false h]
  exact decide_eq_false fun z => h (J1V (congrArg V.str z))
theorem Jdi (nm : List Nat) : ∀ nms : List (List Nat),inV (T nm) (nms.map T) = decide (nm ∈ nms)
 | [] => rfl
 | n :: r => by
  have ih := Jdi nm r
  unfold inV at ih ⊢
  rw [List.map_cons,List.any_cons,ih,Jg6]
  have h : decide (n = nm) = decide (nm = n) := by
   by_cases z : n = nm
   ·subst z; rfl
   ·rw [decide_eq_false z,decide_eq_false fun y => z y.symm]
  rw [h]
  simp [List.mem_cons,Bool.decide_or]
section
variable {P : Program} {w : World} {K : PySem.W.Frag} {mg : Str → Option Value} {base : Heap} {Jb Jf Ja Jh J8 Jn J5 J3 : Addr}
local macro_rules | `(tactic| walk_at "lk") => `(tactic| first | exact J62 _ _ _ _ _ | exact J5x _ _ _ _ _ | exact J8Q _ _ _ _ _ | exact Jb8 _ _ _ _ _ | exact J3B _ _ _ _ _ _ _ _ | exact J51 _ _ _ _ _ _ _ _ | exact J50 _ _ _ _ _ _ _ _ | exact J6T _ _ _ _ _ _ _ _ | exact Jb4 _ _ _ _ _ _ _ _ | exact J9T _ _ _ _ _ _ _ _ | exact J6J _ _ _ _ _ _ _ _ | exact J8C _ _ _ _ _ _ _ _ | exact J55 _ _ _ _ _ _ _ _ | exact J5R _ _ _ _ _ _ _ _ | exact Or.inr (SqT.of (by with_reducible assumption)))
theorem J9f (tx : Tx K mg Jb Jf Ja Jh J8 Jn J5 J3) : MtG P w K mg base J3 "rules_for" 1 ["self","p"] (JdR P w K mg base J5 J3) := by
 refine tx.J4A.g tx.J0f.cl J2W (fun _ _ _ _ _ _ us hl => match us,hl with | [_,_],_ => rfl) (fun vs H Q E h => ?_) (fun f cdv A outer s H vs Q E hr h => ?_)
 ·obtain ⟨h,p,dd,ks,nds,ps,ls,u5,u6,n,rls,rfl,_⟩ := h
  rfl
 ·obtain ⟨h,p,dd,ks,nds,ps,ls,u5,u6,n,rls,rfl,hq,p0,hn,hR,h6,q⟩ := h
  refine ⟨_,(J2 (Jm (i := 2) J2W.nd rfl (Or.inr rfl) (JS (J0 (Js (l := [97,108,108]) (by decide +kernel)) (J0 (JC (K := K) rfl (Jv (Jz (K := K) rfl) (JC (K := K) rfl (pv 0) rfl) (pv 1) (fun _ _ => rfl)) rfl) J1))))
   (J9 (Jt (J0p (osc := J4 J0e) (ON := ["self","p","names"]) (N := ["number","told","names"]) (js := [none,none,some 2]) ⟨rfl,by decide +kernel,by decide +kernel,by decide +kernel,rfl,by decide +kernel⟩ rfl rfl rfl (J3k (K := K) rfl rfl tx.J0H (J0 (JC (K := K) rfl (pv 0) rfl) J1)) (fun _ _ _ _ _ => J5w (K := K) (i := 0) (j := 1) rfl rfl (show List.Nodup (["number","told","names"] : List Str) from by decide +kernel) rfl rfl (Or.inl rfl) (Or.inl rfl)) (fun _ _ _ _ _ => J17 (Jl (JcX (K := K) rfl) (Jv (JZ (K := K) rfl) (pv 1) J6 (fun _ _ => rfl)) (pv 2) rfl)) (fun _ _ _ _ _ => (JS (J0 (pv 0) (J0 (Jv (JZ (K := K) rfl) (pv 1) J6 (fun _ _ => rfl)) J1)))))))),?_⟩
  walk_at "st"
  obtain ⟨a1,a2,a3,a4,a5,a6,xs,ys,zs,ws,⟨dx,h0⟩,y1,y1',y2,hP,y3,y3',y4,y5,y6⟩ := hq
  have cH := tx.J0f.cl
  have nH1 := tx.J02
  have nH2 := tx.J1j
  have cP := tx.J0U.cl
  have nP := tx.J00
  obtain ⟨y,hy,pa,rfl,dxp,hpp⟩ := hP.get hn
  have hix : atI ys p = some (.ref pa) := by have := J15 hy; rwa [Int.toNat_of_nonneg p0] at this
  walk_at "rd"
  intro t ht
  obtain ⟨H1,e1,ht1,s1⟩ := newt (xs := [T wAll,T n.nm]) ht
  rw [← e1]
  have h01 := s1 _ _ h0
  have y51 := s1 _ _ y5
  clear e1
  walk_at "rd"
  refine JaA (List.range rls.length) (J3H rls n.nm) (FdT P w K mg base rls) (fun σ => ∃ v1 v2,σ = [v1,v2,some (.ref t)]) (SqL.of y51) (by rw [List.length_range]; exact hR.len) (by rw [List.length_range]; omega) ⟨_,_,rfl⟩ FdT.keeps (fun i a v qq σ H' ha hv hσ s' hq Rf Rt hf hT => ?_) (fun D H' ys hD s' hys hDD => q D H' ys (s1.trans s') hDD hys)
  obtain ⟨w1,w2,rfl⟩ := hσ
  obtain ⟨rfl,hil⟩ := Jda ha
  obtain ⟨r0,hr0,tt,pp,rfl,htt,hru⟩ := hR.back hv
  have sA : Same H H' := s1.trans s'
  have sQ : Same H' (upd H' qq (.tup [.int (a : Nat),.ref tt])) := Ji hq _
  have htt2 := (sA.trans sQ) _ _ htt
  have ht2 := (s'.trans sQ) _ _ ht1
  have eB : J3H rls n.nm a = inV (T r0.nm) [T wAll,T n.nm] := by
   unfold J3H
   rw [J60 hr0]
   exact (Jdi r0.nm [wAll,n.nm]).symm
  have u0 := at0 (T r0.nm) (V.ref pp)
  have u1 := at1 (T r0.nm) (V.ref pp)
  have f1 : J0l (T r0.nm) = true := rfl
  have f2 : [T wAll,T n.nm].all J0l = true := rfl
  have hI2 : SqL K (upd H' qq (.tup [.int (a : Nat),.ref tt])) t [T wAll,T n.nm] ∨ SqT K (upd H' qq (.tup [.int (a : Nat),.ref tt])) t [T wAll,T n.nm] := .inr (SqT.of ht2)
  walk_at "rd"
  refine ite2 (fun c => ?_) (fun c => ?_)
  ·walk_at "rd"
   intro t3 ht3
   have s3 := sQ.trans (Ji ht3 (.tup [.int (a : Nat),.ref pp]))
   exact hT _ _ _ (eB.trans c) ⟨_,_,rfl⟩ s3 ⟨t3,pp,rfl,J7,by rw [J60 hr0]; exact hru.keeps (sA.trans s3).keeps⟩
  ·exact hf _ _ (eB.trans (Bool.eq_false_iff.mpr c)) ⟨_,_,rfl⟩ sQ
theorem J78 (tx : Tx K mg Jb Jf Ja Jh J8 Jn J5 J3) : FnG P w K mg base "rule_faults" 11 ["house","rota","day"] (JfK P w K mg base J5 J3) := by
 have J5H := J9f (P := P) (w := w) (base := base) tx
 refine tx.J7t.g J0x (fun _ _ _ _ _ _ us hl => match us,hl with | [_,_,_],_ => rfl) (fun vs H Q E h => ?_) (fun f cdv A outer s H vs Q E hr h => ?_)
 ·obtain ⟨h,r,d,dd,ks,nds,ps,ls,u5,u6,rows,rls,rfl,_⟩ := h
  rfl
 ·obtain ⟨h,r,d,dd,ks,nds,ps,ls,u5,u6,rows,rls,rfl,hq,hr1,hl,hp8,hR,hpast,hRu,h6,q⟩ := h
  refine ⟨_,(J2 (Jm (i := 3) J0x.nd rfl (Or.inl rfl) (J0b J1))
   (J2 (J0E PassesOwn.never rfl (J3k (K := K) rfl rfl tx.J0H (J0 (JC (K := K) rfl (pv 0) rfl) J1)) (J0Y rfl (Jk (Je (i := 4) J0x.nd rfl (Or.inl rfl)) (Jk (Je (i := 5) J0x.nd rfl (Or.inr rfl)) J08))) (J2 (Jm (i := 6) J0x.nd rfl (Or.inr rfl) (Jd JE (JC (K := K) rfl (pv 5) rfl) (JJ J3T (Jv (Jz (K := K) rfl) (pv 1) (pv 4) (fun _ _ => rfl)) J09 (JT (Jd J0a (pv 2) J6)))))
   (J2 (Jm (i := 7) J0x.nd rfl (Or.inl rfl) (Jb5 J5H (hr.mono (by decide)) (pv 0) (J0 (pv 4) J1)))
   (J9 (J3v (i := 3) J0x.nd rfl (Or.inl rfl) (J0p (osc := J4 J0O) (ON := ["house","rota","day","found","p","person","marks","bound"]) (N := ["number","rule","day","person","marks"]) (js := [none,none,some 2,some 5,some 6]) ⟨rfl,by decide +kernel,by decide +kernel,by decide +kernel,rfl,by decide +kernel⟩ rfl rfl rfl (J0J (K := K) rfl (pv 7)) (fun _ _ _ _ _ => J5w (K := K) (i := 0) (j := 1) rfl rfl (show List.Nodup (["number","rule","day","person","marks"] : List Str) from by decide +kernel) rfl rfl (Or.inl rfl) (Or.inl rfl)) (fun _ _ _ _ _ => J17 (J2z (J4w (P := P) (w := w) (K := K) (mg := mg) (base := base) hr (pv 1) (J0 (pv 4) J1) rfl rfl rfl rfl rfl))) (fun _ _ _ _ _ => (JS (J0 (pv 2) (J0 (Js (l := [114,117,108,101]) (by decide +kernel)) (J0 (JC (K := K) rfl (pv 3) rfl) (J0 (pv 0) J1))))))) J3y)))))
   (J9 (Jt (pv 3))))),?_⟩
  walk_at "st"
  clear J5H
  have cH := tx.J0f.cl
  have nH := tx.J02
  have cP := tx.J0U.cl
  have nP := tx.J1f
  have nP2 := tx.J00
  have hq0 := hq
  obtain ⟨a1,a2,a3,a4,a5,a6,xs',ys',zs',ws',⟨dx,h1⟩,_,_,h4,h5,_⟩ := hq0
  have hyl := h5.len
  walk_at "rd"
  intro fl nfl
  have s1 : Same H (upd H fl (.lst [])) := Ji nfl _
  have k1 := s1 _ _ h1
  have k4 := s1 _ _ h4
  walk_at "rd"
  refine J3Z (K := K) (xs := ys') (fun i σ H2 => Here (∃ v1 v2 v3 v4 xs,σ = [some (.ref h),some (.ref r),some (.int d),some (.ref fl),v1,v2,v3,v4] ∧ H2 fl = some (.lst xs) ∧ All2 TpV H2 ((((ps.zip rows).take i).map (ruP rls d)).flatten) xs ∧ Same H H2)) (Here.mk ⟨none,none,none,none,[],rfl,J7,trivial,s1⟩) (fun i σ H2 _ hv => by obtain ⟨_,_,_,_,_,_,_,_,s2⟩ := hv.out; exact SqL.of (s2 _ _ h4)) ?_ ?_
  ·rintro i x p σ H2 hx hp hv
   obtain ⟨v1,v2,v3,v4,xs,rfl,hf2,hA2,s2⟩ := hv.out
   have hi : i < ys'.length := (List.getElem?_eq_some_iff.mp hx).1
   obtain ⟨n,hn,pa,rfl,dxp,hpa⟩ := h5.back hx
   have hpl := hpast n (List.mem_of_getElem? hn)
   obtain ⟨H3,e3,hp3,s3⟩ := newt (xs := [V.int (i : Int),V.ref pa]) hp
   rw [← e3]
   have S3 := s2.trans s3
   have hpa3 := S3 _ _ hpa
   have hr3 := S3 _ _ hr1
   have hq3 := hq.same S3
   have ob3 := S3 _ _ h1
   have hRu3 := hRu.imp fun a y => RuT.keeps a y _ _ S3.keeps
   have hrow : rows[i]? = some (rows[i]'(by omega)) := List.getElem?_eq_getElem (by omega)
   generalize rows[i]'(by omega) = row at hrow
   have er : atI (rows.map T) (i : Int) = some (T row) := J15 (by rw [List.getElem?_map,hrow]; rfl)
   obtain ⟨hd,hrl⟩ := hR.2 row (List.mem_of_getElem? hrow)
   have cl := J2M row none (some (d + 1))
   have hsum : n.past.length + (cutN row none (some (d + 1))).length ≤ sizeLine := Nat.le_trans (show _ ≤ 1100 by omega) (by decide)
   have hm2 : (n.past ++ cutN row none (some (d + 1))).length ≤ 200 := by rw [List.length_append]; omega
   have i0 : (0 : Int) ≤ (i : Int) := by omega
   have hn' : ps[((i : Int)).toNat]? = some n := by rw [Int.toNat_natCast]; exact hn
   have hzl := J63 rls d h6 ((ps.zip rows).take i)
   have hxl : xs.length ≤ 64 := by
    have h1 := hA2.len
    rw [List.length_take,List.length_zip] at hzl
    omega
   have ek : (((ps.zip rows).take (i + 1)).map (ruP rls d)).flatten = (((ps.zip rows).take i).map (ruP rls d)).flatten ++ ruP rls d (n,row) := by
    rw [List.take_add_one,show (ps.zip rows)[i]? = some (n,row) from List.getElem?_zip_eq_some.mpr ⟨hn,hrow⟩,List.map_append,List.flatten_append]
    simp
   have eRu : ruP rls d (n,row) = ((ruI rls n.nm).filter (ruB rls (n.past ++ cutN row none (some (d + 1))))).map (ruV d n.nm) := rfl
   rw [ek,eRu]
   walk_at "rd"
   intro D2 H4 ys4 s4 hD2 hF4
   have hf4 := s4 _ _ (s3 _ _ hf2)
   have hpa4 := s4 _ _ hpa3
   have hil := Jbf rls n.nm
   have hyl4 := hF4.len
   generalize n.past ++ cutN row none (some (d + 1)) = mm at hm2 ⊢
   walk_at "rd"
   refine J0k (ruI rls n.nm) (ruB rls mm) (fun i y H => TpV (ruV d n.nm i) y H) (fun σ => ∃ v1 v2,σ = [v1,v2,some (.int d),some (.ref pa),some (T mm)]) (J16 (SqL.of hD2)) hyl4 (by omega) ⟨_,_,rfl⟩ (fun a y Ha Hb k h => TpV.keeps _ y Ha Hb k h) (fun i' a v σ H' ha hv hσ s' Rf Rt hF hR' => ?_) (fun D H5 zs hD s5 hzs hDD => ?_)
   ·obtain ⟨v1,v2,rfl⟩ := hσ
    obtain ⟨a',ha',t1,ra,rfl,ht1,hbq⟩ := hF4.back hv
    rw [ha] at ha'
    cases ha'
    have ht1' := s' _ _ ht1
    obtain ⟨C,dxr,fs,kk,psr,spr,hra,lk1,M1,hk4,A1⟩ := hbq.keeps s'.keeps
    have hpa' := s' _ _ hpa4
    walk_at "rd"
    refine A1 mm hm2 _ _ (Same.refl _).keeps fun H6 s6 => ?_
    have hpa6 := s6 _ _ hpa'
    walk_at "rd"
    refine ite2 (fun c => ?_) (fun c => ?_)
    ·walk_at "rd"
     intro t3 ft3
     exact hR' _ _ _ c ⟨_,_,rfl⟩ (s6.trans (Ji ft3 _)) ⟨t3,rfl,J7⟩
    ·exact hF _ _ (Bool.eq_false_iff.mpr c) ⟨_,_,rfl⟩ s6
   have hf5 := s5 _ _ hf4
   have kk : JV H5 (upd H5 fl (.lst (xs ++ zs))) := JP hf5
   have hzl2 : zs.length ≤ 8 := by
    have h1 := hzs.len
    have h2 := List.length_filter_le (ruB rls mm) (ruI rls n.nm)
    omega
   walk_at "rd"
   exact Here.mk ⟨_,_,_,_,xs ++ zs,rfl,J7,All2.app (hA2.imp fun a y => TpV.keeps a y _ _ (((s3.trans s4).trans s5).keeps.trans kk)) ((All2.mapL (P := TpV) hzs).imp fun a y => TpV.keeps a y _ _ kk),((S3.trans s4).trans s5).upd nfl⟩
  ·rintro σ H2 hv
   obtain ⟨v1,v2,v3,v4,xs,rfl,hf2,hA2,s2⟩ := hv.out
   rw [List.take_of_length_le (by rw [List.length_zip]; omega)] at hA2
   walk_at "rd"
   exact q fl H2 xs s2 nfl hf2 hA2
theorem J7c (tx : Tx K mg Jb Jf Ja Jh J8 Jn J5 J3) : FnG P w K mg base "breaks_pair" 1 ["word","mark","other"] JeP := by
 refine tx.J7q.g J6j (fun _ _ _ _ _ _ us hl => match us,hl with | [_,_,_],_ => rfl) (fun vs H Q E h => ?_) (fun f cdv A outer s H vs Q E hr h => ?_)
 ·obtain ⟨wd,m,o,rfl,_⟩ := h
  rfl
 ·obtain ⟨wd,m,o,rfl,q⟩ := h
  refine ⟨_,(J2 (JO (Jl J0c (pv 1) (Js (l := [45]) (by decide +kernel)) (Jq _)) (J9 (Jt J4k)) Jw)
   (J9 (Jt (Jds (Jl J0c (pv 0) (Js (l := [97,112,97,114,116]) (by decide +kernel)) (Jq _)) (J2q J0c (pv 1) (pv 2) (Jq _)) (J2q J2Y (pv 1) (pv 2) (Jq _)))))),?_⟩
  walk_at "st"
  have dT : ∀ a b : Nat,decide (T [a] = T [b]) = decide (a = b) := fun a b => decide_eq_decide.mpr ⟨fun z => by simpa using J1V z,fun z => by rw [z]⟩
  walk_at "rd"
  refine ite2 (fun e => ?_) (fun e => ?_)
  ·have e' : m = 45 := by simpa using J1V (of_decide_eq_true e)
   unfold brkB at q
   rw [decide_eq_true e'] at q
   walk_at "rd"
   exact q
  have e1 : ¬ m = 45 := fun z => e (decide_eq_true (by rw [z]))
  unfold brkB at q
  rw [decide_eq_false e1,Bool.not_false,Bool.true_and] at q
  walk_at "rd"
  refine ite2 (fun e => ?_) (fun e => ?_)
  ·have e' : wd = J5A := J1V (of_decide_eq_true e)
   rw [if_pos e',← dT] at q
   walk_at "rd"
   exact q
  ·have e' : ¬ wd = J5A := fun z => e (decide_eq_true (by rw [z]))
   rw [if_neg e',← dT] at q
   walk_at "rd"
   exact q
theorem J7h (tx : Tx K mg Jb Jf Ja Jh J8 Jn J5 J3) : FnG P w K mg base "pair_faults" 2 ["house","rota","day"] (JfJ J5 J3) := by
 have J4o := Jas (P := P) (w := w) (base := base) tx
 have J4c := J7c (P := P) (w := w) (base := base) tx
 refine tx.J7r.g J0W (fun _ _ _ _ _ _ us hl => match us,hl with | [_,_,_],_ => rfl) (fun vs H Q E h => ?_) (fun f cdv A outer s H vs Q E hr h => ?_)
 ·obtain ⟨h,r,d,dd,ks,nds,ps,ls,u5,u6,rows,prs,rfl,_⟩ := h
  rfl
 ·obtain ⟨h,r,d,dd,ks,nds,ps,ls,u5,u6,rows,prs,rfl,hq,hr1,hl,hp8,hR,hPr,h2,hIn,q⟩ := h
  refine ⟨_,(J2 (Jm (i := 3) J0W.nd rfl (Or.inl rfl) (J0b J1))
   (J2 (J0E PassesOwn.never rfl (J3k (K := K) rfl rfl tx.J0H (J0 (JC (K := K) rfl (pv 0) rfl) J1)) (J0Y rfl (Jk (Je (i := 4) J0W.nd rfl (Or.inl rfl)) (Jk (Je (i := 5) J0W.nd rfl (Or.inl rfl)) J08))) (J2 (Jm (i := 6) J0W.nd rfl (Or.inl rfl) (Jv J0B (Jv (Jz (K := K) rfl) (pv 1) (Jb5 J4o (hr.mono (by decide)) (pv 0) (J0 (Jv (JZ (K := K) rfl) (pv 5) J6 (fun _ _ => rfl)) J1)) (fun _ _ => rfl)) (pv 2) (fun _ _ => rfl)))
   (J2 (Jm (i := 7) J0W.nd rfl (Or.inl rfl) (Jv J0B (Jv (Jz (K := K) rfl) (pv 1) (Jb5 J4o (hr.mono (by decide)) (pv 0) (J0 (Jv (JZ (K := K) rfl) (pv 5) J6 (fun _ _ => rfl)) J1)) (fun _ _ => rfl)) (pv 2) (fun _ _ => rfl)))
   (J9 (JO (J2z (JB J4c (hr.mono (by decide)) (J0 (Jv (JZ (K := K) rfl) (pv 5) J6 (fun _ _ => rfl)) (J0 (pv 6) (J0 (pv 7) J1))))) (J9 (J0D (J1O PySem.F.plainAttrs_list PySem.F.slot_list_append PySem.F.type_list_append JW (pv 3) (J0 (JS (J0 (pv 2) (J0 (Js (l := [112,97,105,114]) (by decide +kernel)) (J0 (Jv (JZ (K := K) rfl) (pv 5) J6 (fun _ _ => rfl)) (J0 (pv 4) J1))))) J1)))) Jw)))))
   (J9 (Jt (pv 3))))),?_⟩
  walk_at "st"
  clear J4o J4c
  have cH := tx.J0f.cl
  have nH := tx.J0Q
  have hN := hq.n
  obtain ⟨a1,a2,a3,a4,a5,a6,xs',ys',zs',ws',⟨dx,h1⟩,_,_,_,_,_,_,_,_,h10⟩ := hq
  have hul := hPr.len
  walk_at "rd"
  intro fl nfl
  have s1 : Same H (upd H fl (.lst [])) := Ji nfl _
  have k1 := s1 _ _ h1
  have k10 := s1 _ _ h10
  walk_at "rd"
  refine J3Z (K := K) (xs := u6) (fun i σ H2 => Here (∃ v1 v2 v3 v4 xs,σ = [some (.ref h),some (.ref r),some (.int d),some (.ref fl),v1,v2,v3,v4] ∧ H2 fl = some (.lst xs) ∧ All2 TpV H2 (paL prs rows d i) xs ∧ Same H H2)) (Here.mk ⟨none,none,none,none,[],rfl,J7,trivial,s1⟩) (fun i σ H2 _ hv => by obtain ⟨_,_,_,_,_,_,_,_,s2⟩ := hv.out; exact SqL.of (s2 _ _ h10)) ?_ ?_
  ·rintro i x p σ H2 hx hp hv
   obtain ⟨v1,v2,v3,v4,xs,rfl,hf2,hA2,s2⟩ := hv.out
   have hi : i < u6.length := (List.getElem?_eq_some_iff.mp hx).1
   obtain ⟨pr,hpr,tp,rfl,htp⟩ := hPr.back hx
   have epr : prAt prs i = pr := by unfold prAt; rw [List.getD_eq_getElem?_getD,hpr]; rfl
   obtain ⟨⟨i1,i2⟩,j1,j2⟩ := hIn pr (List.mem_of_getElem? hpr)
   obtain ⟨H3,e3,hp3,s3⟩ := newt (xs := [V.int (i : Int),V.ref tp]) hp
   rw [← e3]
   have S3 := s2.trans s3
   have htp3 := S3 _ _ htp
   have hr3 := S3 _ _ hr1
   have ob3 := S3 _ _ h1
   have hN3 := hN.same S3
   have b0 : atI [T pr.wd,T pr.one,T pr.two] 0 = some (T pr.wd) := by simp [atI,ixN]
   have b1 : atI [T pr.wd,T pr.one,T pr.two] 1 = some (T pr.one) := by simp [atI,ixN]
   have b2 : atI [T pr.wd,T pr.one,T pr.two] 2 = some (T pr.two) := by simp [atI,ixN]
   have hil : pr.i < rows.length := by have := (List.getElem?_eq_some_iff.mp i1).1; rw [List.length_map] at this; omega
   have hjl : pr.j < rows.length := by have := (List.getElem?_eq_some_iff.mp j1).1; rw [List.length_map] at this; omega
   have ri : rows[pr.i]? = some (rows[pr.i]'hil) := List.getElem?_eq_getElem hil
   have rj : rows[pr.j]? = some (rows[pr.j]'hjl) := List.getElem?_eq_getElem hjl
   have gi : rows.getD pr.i [] = rows[pr.i]'hil := by rw [List.getD_eq_getElem?_getD,ri]; rfl
   have gj : rows.getD pr.j [] = rows[pr.j]'hjl := by rw [List.getD_eq_getElem?_getD,rj]; rfl
   have ai : atI (rows.map T) (pr.i : Int) = some (T (rows[pr.i]'hil)) := J15 (by rw [List.getElem?_map,ri]; rfl)
   have aj : atI (rows.map T) (pr.j : Int) = some (T (rows[pr.j]'hjl)) := J15 (by rw [List.getElem?_map,rj]; rfl)
   obtain ⟨di,li⟩ := hR.2 _ (List.mem_of_getElem? ri)
   obtain ⟨dj,lj⟩ := hR.2 _ (List.mem_of_getElem? rj)
   generalize rows[pr.i]'hil = rowi at ri gi ai di li
   generalize rows[pr.j]'hjl = rowj at rj gj aj dj lj
   have mi := J4g hR.1 di
   have mj := J4g hR.1 dj
   have li' : rowi.length ≤ 1000 := by omega
   have lj' : rowj.length ≤ 1000 := by omega
   have ek : paL prs rows d (i + 1) = paL prs rows d i ++ (if brkB pr.wd (mkA rowi d) (mkA rowj d) = true then [paV d prs i] else []) := by
    unfold paL
    rw [List.range_succ,List.filter_append,List.map_append]
    congr 1
    rw [List.filter_cons]
    have eb : paB rows d (prAt prs i) = brkB pr.wd (mkA rowi d) (mkA rowj d) := by unfold paB; rw [epr,gi,gj]
    rw [eb]
    split <;> rfl
   have eV : paV d prs i = [.int d,T J4Z,T pr.one,.int (i : Nat)] := by unfold paV; rw [epr]
   have hxl : xs.length ≤ 8 := by
    have h1 := hA2.len
    have h2 := J54 prs rows d i
    omega
   walk_at "rd"
   intro H4 s4
   have hr4 := s4 _ _ hr3
   have htp4 := s4 _ _ htp3
   have ob4 := s4 _ _ ob3
   have hN4 := hN3.same s4
   walk_at "rd"
   intro H5 s5
   have hr5 := s5 _ _ hr4
   have htp5 := s5 _ _ htp4
   have hf5 := ((s3.trans s4).trans s5) _ _ hf2
   have S35 := (s3.trans s4).trans s5
   have S5 := s2.trans S35
   walk_at "rd"
   refine ite2 (fun c => ?_) (fun c => ?_)
   ·walk_at "rd"
    intro t2 ft2
    obtain ⟨H6,e6,yt6,s6⟩ := newt (xs := [.int d,T J4Z,T pr.one,.int (i : Nat)]) ft2
    have e6' : upd H5 t2 (.tup [.int d,T J4Z,T pr.one,.int (i : Nat)]) = H6 := e6.symm
    rw [e6']
    have hf6 := s6 _ _ hf5
    have kk : JV H6 (upd H6 fl (.lst (xs ++ [.ref t2]))) := JP hf6
    walk_at "rd"
    refine Here.mk ⟨_,_,_,_,xs ++ [.ref t2],rfl,J7,?_,(S5.trans s6).upd nfl⟩
    rw [ek,if_pos c]
    exact All2.snoc (hA2.imp fun a y => TpV.keeps a y _ _ ((S35.trans s6).keeps.trans kk)) ⟨t2,rfl,by rw [eV]; exact kk _ _ yt6 (fun zs z => by cases z)⟩
   ·walk_at "rd"
    refine Here.mk ⟨_,_,_,_,xs,rfl,hf5,?_,S5⟩
    rw [ek,if_neg c,List.append_nil]
    exact hA2.imp fun a y => TpV.keeps a y _ _ S35.keeps
  ·rintro σ H2 hv
   obtain ⟨v1,v2,v3,v4,xs,rfl,hf2,hA2,s2⟩ := hv.out
   rw [hul] at hA2
   walk_at "rd"
   exact q fl H2 xs s2 nfl hf2 hA2
theorem JcD (tx : Tx K mg Jb Jf Ja Jh J8 Jn J5 J3) : FnG P w K mg base "faults" 12 ["house","rota"] (JbB P w K mg base J5 J3) := by
 have J3L := J6I (P := P) (w := w) (base := base) tx
 have J3M := J68 (P := P) (w := w) (base := base) tx
 have J4d := J7j (P := P) (w := w) (base := base) tx
 have J4a := J7n (P := P) (w := w) (base := base) tx
 have J48 := J78 (P := P) (w := w) (base := base) tx
 have J4b := J7h (P := P) (w := w) (base := base) tx
 refine tx.Jcz.g J1A (fun _ _ _ _ _ _ us hl => match us,hl with | [_,_],_ => rfl) (fun vs H Q E h => ?_) (fun f cdv A outer s H vs Q E hr h => ?_)
 ·obtain ⟨h,r,dd,ks,nds,ps,ls,u5,u6,rows,rls,prs,rfl,_⟩ := h
  rfl
 ·obtain ⟨h,r,dd,ks,nds,ps,ls,u5,u6,rows,rls,prs,rfl,hq,hr1,hl,hp8,hk4,d0,d1,hrl,hpast,hRu,h6,hPr,hp2,hIn,q⟩ := h
  refine ⟨_,(J2 (Jm (i := 2) J1A.nd rfl (Or.inl rfl) (J0b J1))
   (J2 (J0E PassesOwn.never rfl (J06 rfl tx.J0m (J0 (JC (K := K) rfl (pv 0) rfl) J1)) (Je (i := 3) J1A.nd rfl (Or.inl rfl)) (J2 (J3v (i := 2) J1A.nd rfl (Or.inl rfl) (JB J3L (hr.mono (by decide)) (J0 (pv 0) (J0 (pv 1) (J0 (pv 3) J1)))) J3y)
   (J2 (J3v (i := 2) J1A.nd rfl (Or.inl rfl) (JB J3M (hr.mono (by decide)) (J0 (pv 0) (J0 (pv 1) (J0 (pv 3) J1)))) J3y)
   (J2 (J3v (i := 2) J1A.nd rfl (Or.inl rfl) (JB J4d (hr.mono (by decide)) (J0 (pv 0) (J0 (pv 1) (J0 (pv 3) J1)))) J3y)
   (J2 (J3v (i := 2) J1A.nd rfl (Or.inl rfl) (JB J4a (hr.mono (by decide)) (J0 (pv 0) (J0 (pv 1) (J0 (pv 3) J1)))) J3y)
   (J2 (J3v (i := 2) J1A.nd rfl (Or.inl rfl) (JB J48 (hr.mono (by decide)) (J0 (pv 0) (J0 (pv 1) (J0 (pv 3) J1)))) J3y)
   (J9 (J3v (i := 2) J1A.nd rfl (Or.inl rfl) (JB J4b (hr.mono (by decide)) (J0 (pv 0) (J0 (pv 1) (J0 (pv 3) J1)))) J3y))))))))
   (J9 (Jt (pv 2))))),?_⟩
  walk_at "st"
  clear J3L J3M J4d J4a J48 J4b
  have cH := tx.J0f.cl
  have nH := tx.J1G
  have hq0 := hq
  obtain ⟨a1,a2,a3,a4,a5,a6,xs',ys',zs',ws',⟨dx,h1⟩,_⟩ := hq0
  walk_at "rd"
  intro fl nfl
  have k1 := Ji nfl (.lst []) _ _ h1
  walk_at "rd"
  refine J2g (n := dd.toNat) (fun i σ H2 => Here (∃ v1 xs,σ = [some (.ref h),some (.ref r),some (.ref fl),v1] ∧ H2 fl = some (.lst xs) ∧ All2 TpV H2 (allF ks nds ls rls prs ps rows i) xs ∧ Same H H2)) (Here.mk ⟨none,[],rfl,J7,trivial,Ji nfl _⟩) ?_ ?_
  ·rintro i σ H2 hi hv
   obtain ⟨v1,x0,rfl,hf0,hA0,s0⟩ := hv.out
   have hR : ROk rows (0 + (i : Int)) := ⟨by omega,fun r hr => by have := hrl r hr; omega⟩
   have hq0 := hq.same s0
   have hz0 := s0 _ _ hr1
   have l0 : x0.length ≤ 1400 := by
    have h1 := hA0.len
    have h2 := J8K (nds := nds) (ls := ls) (rows := rows) hp8 hk4 h6 hp2 i
    omega
   walk_at "rd"
   intro D1 G1 y1 t1 nD1 hD1 hB1
   have l1 : y1.length ≤ 8 := by rw [hB1.len]; exact (J3A _ _ _ hp8)
   have hf1' := t1 _ _ hf0
   have kk1 : JV G1 (upd G1 fl (.lst (x0 ++ y1))) := JP hf1'
   have hA1 : All2 TpV (upd G1 fl (.lst (x0 ++ y1))) (allF ks nds ls rls prs ps rows i ++ skF ps rows (0 + (i : Int))) (x0 ++ y1) := All2.app (hA0.imp fun a y => TpV.keeps a y _ _ (t1.keeps.trans kk1)) (hB1.imp fun a y => TpV.keeps a y _ _ kk1)
   have s1 : Same H (upd G1 fl (.lst (x0 ++ y1))) := (s0.trans t1).upd nfl
   have hf1 : (upd G1 fl (.lst (x0 ++ y1))) fl = some (.lst (x0 ++ y1)) := J7
   have hq1 := hq.same s1
   have hz1 := s1 _ _ hr1
   walk_at "rd"
   clear hq0 hz0
   intro D2 G2 y2 t2 nD2 hD2 hB2
   have l2 : y2.length ≤ 8 := by rw [hB2.len]; exact (J3A _ _ _ hp8)
   have hf2' := t2 _ _ hf1
   have kk2 : JV G2 (upd G2 fl (.lst (x0 ++ y1 ++ y2))) := JP hf2'
   have hA2 : All2 TpV (upd G2 fl (.lst (x0 ++ y1 ++ y2))) (allF ks nds ls rls prs ps rows i ++ skF ps rows (0 + (i : Int)) ++ lvF ls ps rows (0 + (i : Int))) (x0 ++ y1 ++ y2) := All2.app (hA1.imp fun a y => TpV.keeps a y _ _ (t2.keeps.trans kk2)) (hB2.imp fun a y => TpV.keeps a y _ _ kk2)
   have s2 : Same H (upd G2 fl (.lst (x0 ++ y1 ++ y2))) := (s1.trans t2).upd nfl
   have hf2 : (upd G2 fl (.lst (x0 ++ y1 ++ y2))) fl = some (.lst (x0 ++ y1 ++ y2)) := J7
   have hq2 := hq.same s2
   have hz2 := s2 _ _ hr1
   walk_at "rd"
   clear hq1 hz1
   intro D3 G3 y3 t3 nD3 hD3 hB3
   have l3 : y3.length ≤ 4 := by rw [hB3.len]; exact (J8R hk4)
   have hf3' := t3 _ _ hf2
   have kk3 : JV G3 (upd G3 fl (.lst (x0 ++ y1 ++ y2 ++ y3))) := JP hf3'
   have hA3 : All2 TpV (upd G3 fl (.lst (x0 ++ y1 ++ y2 ++ y3))) (allF ks nds ls rls prs ps rows i ++ skF ps rows (0 + (i : Int)) ++ lvF ls ps rows (0 + (i : Int)) ++ neF ks nds rows (0 + (i : Int))) (x0 ++ y1 ++ y2 ++ y3) := All2.app (hA2.imp fun a y => TpV.keeps a y _ _ (t3.keeps.trans kk3)) (hB3.imp fun a y => TpV.keeps a y _ _ kk3)
   have s3 : Same H (upd G3 fl (.lst (x0 ++ y1 ++ y2 ++ y3))) := (s2.trans t3).upd nfl
   have hf3 : (upd G3 fl (.lst (x0 ++ y1 ++ y2 ++ y3))) fl = some (.lst (x0 ++ y1 ++ y2 ++ y3)) := J7
   have hq3 := hq.same s3
   have hz3 := s3 _ _ hr1
   walk_at "rd"
   clear hq2 hz2
   intro D4 G4 y4 t4 nD4 hD4 hB4
   have l4 : y4.length ≤ 8 := by rw [hB4.len]; exact (J3A _ _ _ hp8)
   have hf4' := t4 _ _ hf3
   have kk4 : JV G4 (upd G4 fl (.lst (x0 ++ y1 ++ y2 ++ y3 ++ y4))) := JP hf4'
   have hA4 : All2 TpV (upd G4 fl (.lst (x0 ++ y1 ++ y2 ++ y3 ++ y4))) (allF ks nds ls rls prs ps rows i ++ skF ps rows (0 + (i : Int)) ++ lvF ls ps rows (0 + (i : Int)) ++ neF ks nds rows (0 + (i : Int)) ++ moF ps rows (0 + (i : Int))) (x0 ++ y1 ++ y2 ++ y3 ++ y4) := All2.app (hA3.imp fun a y => TpV.keeps a y _ _ (t4.keeps.trans kk4)) (hB4.imp fun a y => TpV.keeps a y _ _ kk4)
   have s4 : Same H (upd G4 fl (.lst (x0 ++ y1 ++ y2 ++ y3 ++ y4))) := (s3.trans t4).upd nfl
   have hf4 : (upd G4 fl (.lst (x0 ++ y1 ++ y2 ++ y3 ++ y4))) fl = some (.lst (x0 ++ y1 ++ y2 ++ y3 ++ y4)) := J7
   have hq4 := hq.same s4
   have hRu4 := hRu.imp fun a y => RuT.keeps a y _ _ s4.keeps
   have hz4 := s4 _ _ hr1
   walk_at "rd"
   clear hq3 hz3
   intro D5 G5 y5 t5 nD5 hD5 hB5
   have l5 : y5.length ≤ 64 := by rw [hB5.len]; exact J8t h6 hp8
   have hf5' := t5 _ _ hf4
   have kk5 : JV G5 (upd G5 fl (.lst (x0 ++ y1 ++ y2 ++ y3 ++ y4 ++ y5))) := JP hf5'
   have hA5 : All2 TpV (upd G5 fl (.lst (x0 ++ y1 ++ y2 ++ y3 ++ y4 ++ y5))) (allF ks nds ls rls prs ps rows i ++ skF ps rows (0 + (i : Int)) ++ lvF ls ps rows (0 + (i : Int)) ++ neF ks nds rows (0 + (i : Int)) ++ moF ps rows (0 + (i : Int)) ++ ruF rls ps rows (0 + (i : Int))) (x0 ++ y1 ++ y2 ++ y3 ++ y4 ++ y5) := All2.app (hA4.imp fun a y => TpV.keeps a y _ _ (t5.keeps.trans kk5)) (hB5.imp fun a y => TpV.keeps a y _ _ kk5)
   have s5 : Same H (upd G5 fl (.lst (x0 ++ y1 ++ y2 ++ y3 ++ y4 ++ y5))) := (s4.trans t5).upd nfl
   have hf5 : (upd G5 fl (.lst (x0 ++ y1 ++ y2 ++ y3 ++ y4 ++ y5))) fl = some (.lst (x0 ++ y1 ++ y2 ++ y3 ++ y4 ++ y5)) := J7
   have hq5 := hq.same s5
   have hPr5 := hPr.imp fun a y => PrT.keeps a y _ _ s5.keeps
   have hz5 := s5 _ _ hr1
   walk_at "rd"
   clear hq4 hz4
   intro D6 G6 y6 t6 nD6 hD6 hB6
   have l6 : y6.length ≤ 8 := by rw [hB6.len]; exact Nat.le_trans (J54 _ _ _ _) hp2
   have hf6' := t6 _ _ hf5
   have kk6 : JV G6 (upd G6 fl (.lst (x0 ++ y1 ++ y2 ++ y3 ++ y4 ++ y5 ++ y6))) := JP hf6'
   have hA6 : All2 TpV (upd G6 fl (.lst (x0 ++ y1 ++ y2 ++ y3 ++ y4 ++ y5 ++ y6))) (allF ks nds ls rls prs ps rows i ++ skF ps rows (0 + (i : Int)) ++ lvF ls ps rows (0 + (i : Int)) ++ neF ks nds rows (0 + (i : Int)) ++ moF ps rows (0 + (i : Int)) ++ ruF rls ps rows (0 + (i : Int)) ++ paF prs rows (0 + (i : Int))) (x0 ++ y1 ++ y2 ++ y3 ++ y4 ++ y5 ++ y6) := All2.app (hA5.imp fun a y => TpV.keeps a y _ _ (t6.keeps.trans kk6)) (hB6.imp fun a y => TpV.keeps a y _ _ kk6)
   have s6 : Same H (upd G6 fl (.lst (x0 ++ y1 ++ y2 ++ y3 ++ y4 ++ y5 ++ y6))) := (s5.trans t6).upd nfl
   have hf6 : (upd G6 fl (.lst (x0 ++ y1 ++ y2 ++ y3 ++ y4 ++ y5 ++ y6))) fl = some (.lst (x0 ++ y1 ++ y2 ++ y3 ++ y4 ++ y5 ++ y6)) := J7
   have hq6 := hq.same s6
   have hz6 := s6 _ _ hr1
   walk_at "rd"
   clear hq5 hz5
   refine Here.mk ⟨_,_,rfl,J7,?_,s6⟩
   have e : allF ks nds ls rls prs ps rows (i + 1) = allF ks nds ls rls prs ps rows i ++ skF ps rows (0 + (i : Int)) ++ lvF ls ps rows (0 + (i : Int)) ++ neF ks nds rows (0 + (i : Int)) ++ moF ps rows (0 + (i : Int)) ++ ruF rls ps rows (0 + (i : Int)) ++ paF prs rows (0 + (i : Int)) := by
    rw [allF,dayF]
    simp only [List.append_assoc]
   rw [e]
   exact hA6
  ·rintro σ H2 hv
   obtain ⟨v1,x0,rfl,hf0,hA0,s0⟩ := hv.out
   walk_at "rd"
   exact q fl H2 x0 s0 nfl hf0 hA0
end
noncomputable def JbH (K : PySem.W.Frag) : Sp := fun vs H Q _ => ∃ (l : Addr) (d : Int) (k : Nat) (nds : List Nd) (xs : List V),vs = [.ref l,.int d,T [k]] ∧ H l = some (.lst xs) ∧ All2 NdAt H nds xs ∧ ∀ (t : Addr) (H' : Hp),Same H H' → H' t = some (.tup [.int (J1y nds d k).1,.int (J1y nds d k).2]) → Q (.ref t) H'
noncomputable def Jco : Sp := fun vs H Q _ => ∃ (c d : Int) (ks : List Nat),vs = [.int c,.int d,T ks] ∧ 1 ≤ d ∧ d ≤ 14 ∧ ks.length ≤ 4 ∧ ∀ (a : Addr) (H' : Hp) (nds : List Nd) (xs : List V),Same H H' → H a = none → H' a = some (.lst xs) → All2 NdAt H' nds xs → Q (.ref a) H'
section
variable {P : Program} {w : World} {K : PySem.W.Frag} {mg : Str → Option Value} {base : Heap} {Jb Jf Ja Jh J8 Jn J5 J3 : Addr}
theorem J38 (tx : Tx K mg Jb Jf Ja Jh J8 Jn J5 J3) : FnG P w K mg base "_law_cell_at" 1 ["_law_script","_law_k"] (JcC K) := by
 refine tx.J7i.g J6z (fun _ _ _ _ _ _ us hl => match us,hl with | [_,_],_ => rfl) (fun vs H Q E h => ?_) (fun f cdv A outer s H vs Q E hr h => ?_)
 ·obtain ⟨a,ns,k,rfl,_⟩ := h
  rfl
 ·obtain ⟨a,ns,k,rfl,hS,h0,q⟩ := h
  refine ⟨_,(J2 (JO (Jl J5Q (pv 1) (Ju (JH (K := K) rfl) rfl tx.J05 PySem.boot_len (J0 (pv 0) J1)) (Jq _)) (J9 (Jt (Jv (Jz (K := K) rfl) (pv 0) (pv 1) (fun _ _ => rfl)))) Jw)
   (J9 (Jt J6))),?_⟩
  walk_at "st"
  walk_at "rd"
  refine ite2 (fun c => ?_) (fun c => ?_)
  ·have c' : k < ((ns.map V.int).length : Int) := of_decide_eq_true c
   rw [List.length_map] at c'
   have hv := JcF h0 c'
   walk_at "rd"
   exact q
  ·have c' : ¬ k < ((ns.map V.int).length : Int) := of_decide_eq_false (Bool.eq_false_iff.mpr c)
   rw [List.length_map] at c'
   walk_at "rd"
   rw [Jd6 (by omega)] at q
   exact q
theorem J2L (tx : Tx K mg Jb Jf Ja Jh J8 Jn J5 J3) : FnG P w K mg base "_law_stream" 1 ["_law_cell","_law_many"] Ja6 := by
 refine tx.J7T.g J0N (fun _ _ _ _ _ _ us hl => match us,hl with | [_,_],_ => rfl) (fun vs H Q E h => ?_) (fun f cdv A outer s H vs Q E hr h => ?_)
 ·obtain ⟨c,m,rfl,_⟩ := h
  rfl
 ·obtain ⟨c,m,rfl,h0,h1,q⟩ := h
  refine ⟨_,(J2 (Jm (i := 2) J0N.nd rfl (Or.inl rfl) (J0b J1))
   (J2 (Jm (i := 3) J0N.nd rfl (Or.inl rfl) (Jd JM (pv 0) J6))
   (J2 (Jm (i := 4) J0N.nd rfl (Or.inl rfl) (Jd J0a (Jd JD (pv 3) J6) J6))
   (J2 (J0E PassesOwn.never rfl (J06 rfl tx.J0m (J0 (Jd J0a (pv 1) J6) J1)) (Je (i := 5) J0N.nd rfl (Or.inl rfl)) (J2 (Jm (i := 4) J0N.nd rfl (Or.inl rfl) (Jd JD (Jd J0a (Jd J0a (Jd J3b (pv 4) (pv 4)) (Jd J3b J6 (pv 4))) (pv 5)) J6))
   (J2 (JO (PW.pt (J1x (Jl J0c (Jd JD (pv 0) J6) J6 (Jq _)) (J1N (Jl J3m (pv 3) J6 (Jq _))))) (J9 (J0D (J1O PySem.F.plainAttrs_list PySem.F.slot_list_append PySem.F.type_list_append JW (pv 2) (J0 (Jd JD (pv 3) J6) J1)))) (J9 (J0D (J1O PySem.F.plainAttrs_list PySem.F.slot_list_append PySem.F.type_list_append JW (pv 2) (J0 (pv 4) J1)))))
   (J9 (Jm (i := 3) J0N.nd rfl (Or.inl rfl) (Jd JM (pv 3) J6))))))
   (J9 (Jt (JJ (J0Z (K := K) rfl) (pv 2) (JT J6) J09))))))),?_⟩
  walk_at "st"
  have b0 : 0 ≤ c / 2 % 2147483647 := Int.emod_nonneg _ (by decide)
  have b1 : c / 2 % 2147483647 < 2147483647 := Int.emod_lt_of_pos _ (by decide)
  walk_at "rd"
  intro p hp
  walk_at "rd"
  refine J2g (n := (m + 1).toNat) (fun i σ H2 => Here (∃ (g n : Int) (v : Option V) (ys : List Int),σ = [some (.int c),some (.int m),some (.ref p),some (.int g),some (.int n),v] ∧ 0 ≤ n ∧ n < 2147600000 ∧ ys.length = i ∧ H2 p = some (.lst (ys.map V.int)) ∧ Same H H2))
   (Here.mk ⟨_,_,none,[],rfl,by omega,by omega,rfl,J7,Ji hp _⟩) ?_ ?_
  ·rintro i σ H2 hi hv
   obtain ⟨g,n,v,ys,rfl,hn0,hn1,hy,hpp,hs⟩ := hv.out
   have z0 : 0 ≤ (n * n + 48271 * n + (0 + (i : Int))) % 2147483647 := Int.emod_nonneg _ (by decide)
   have z1 : (n * n + 48271 * n + (0 + (i : Int))) % 2147483647 < 2147483647 := Int.emod_lt_of_pos _ (by decide)
   have hl : (ys.map V.int).length ≤ 1000 := by rw [List.length_map]; omega
   have fin : ∀ z : Int,(upd H2 p (.lst (ys.map V.int ++ [V.int z])) p = some (.lst ((ys ++ [z]).map V.int))) ∧ (ys ++ [z]).length = i + 1 := fun z => ⟨by rw [J7,List.map_append]; rfl,by rw [List.length_append,List.length_singleton,hy]⟩
   walk_at "rd"
   refine ite2 (fun _ => ?_) (fun _ => ?_)
   ·walk_at "rd"
    refine ite2 (fun _ => ?_) (fun _ => ?_)
    ·walk_at "rd"
     exact Here.mk ⟨_,_,_,_,rfl,z0,by omega,(fin _).2,(fin _).1,hs.upd hp⟩
    ·walk_at "rd"
     exact Here.mk ⟨_,_,_,_,rfl,z0,by omega,(fin _).2,(fin _).1,hs.upd hp⟩
   ·walk_at "rd"
    exact Here.mk ⟨_,_,_,_,rfl,z0,by omega,(fin _).2,(fin _).1,hs.upd hp⟩
  ·rintro σ H2 hv
   obtain ⟨g,n,v,ys,rfl,hn0,hn1,hy,hpp,hs⟩ := hv.out
   walk_at "rd"
   intro r hr'
   refine q r _ (ys.drop 1) (hs.trans (Ji hr' _)) (hs.free hr') ?_ ?_
   ·rw [J7]
    have e : cutV (ys.map V.int) (some 1) none = (ys.drop 1).map V.int := by
     rw [List.map_drop]
     exact J3S (ys.map V.int) 1 (by decide)
    rw [e]
   ·rw [List.length_drop,hy]
    omega
theorem J9c (tx : Tx K mg Jb Jf Ja Jh J8 Jn J5 J3) : FnG P w K mg base "_law_kinds" 1 ["_law_cell"] Jcx := by
 refine tx.J8Z.g J3q (fun _ _ _ _ _ _ us hl => match us,hl with | [_],_ => rfl) (fun vs H Q E h => ?_) (fun f cdv A outer s H vs Q E hr h => ?_)
 ·obtain ⟨c,rfl,_⟩ := h
  rfl
 ·obtain ⟨c,rfl,q⟩ := h
  refine ⟨_,(J2 (Jm (i := 1) J3q.nd rfl (Or.inr rfl) (Js (l := [65,66,67,68,69,70,71,72,73,74,75,76,77,78,79,80,81,82,83,84,85,86,87,88,89,90]) (by decide +kernel)))
   (J2 (Jm (i := 2) J3q.nd rfl (Or.inl rfl) (Jd J0a J6 (Jd JD (pv 0) J6)))
   (J9 (Jt (J3R (K := K) rfl (Js (l := []) (by decide +kernel)) (J0 (J0p (osc := J4 J1s) (ON := ["_law_cell","_law_some_here","_law_many"]) (N := ["_law_k","_law_some_here","_law_cell"]) (js := [none,some 1,some 0]) ⟨rfl,by decide +kernel,by decide +kernel,by decide +kernel,rfl,by decide +kernel⟩ rfl rfl rfl (J06 rfl tx.J0m (J0 (pv 2) J1)) (fun _ _ _ _ _ => Je (i := 0) (show List.Nodup (["_law_k","_law_some_here","_law_cell"] : List Str) from by decide +kernel) rfl (Or.inl rfl)) (fun _ _ _ _ _ => J0A) (fun _ _ _ _ _ => (Jv J0B (pv 1) (Jd JD (Jd J0a (Jd JM (pv 2) J6) (Jd J3b (pv 0) (Jd J0a J6 (Jd JD (Jd JM (pv 2) J6) J6)))) J6) (fun _ _ => rfl)))) J1)))))),?_⟩
  walk_at "st"
  have h0 : 0 ≤ c % 4 := Int.emod_nonneg _ (by decide)
  have h1 : c % 4 < 4 := Int.emod_lt_of_pos _ (by decide)
  walk_at "rd"
  refine J4X (onI fun i => cap ((c / 4 + i * (1 + c / 104 % 6)) % 26)) (J0L 0 (1 + c % 4).toNat) ?_ (fun x hx H' s' R hR => ?_) (fun D H2 hD s2 hDD => ?_)
  ·rw [List.length_map,List.length_range]; omega
  ·obtain ⟨k,hk,rfl⟩ := List.mem_map.mp hx
   have hk := List.mem_range.mp hk
   have ha := Jfg ((c / 4 + (0 + (k : Int)) * (1 + c / 104 % 6)) % 26) (Int.emod_nonneg _ (by decide)) (Int.emod_lt_of_pos _ (by decide))
   walk_at "rd"
   exact hR H' (Same.refl _)
  rw [J9G _ (fun i => cap ((c / 4 + i * (1 + c / 104 % 6)) % 26))] at hDD
  refine ⟨[],_,D,rfl,rfl,SqL.of hDD,?_,?_⟩
  ·rw [J3h,List.length_map,List.length_nil,Nat.mul_zero,List.length_range]
   omega
  rw [J2S,J2R]
  exact q H2 s2
theorem J9Z (tx : Tx K mg Jb Jf Ja Jh J8 Jn J5 J3) : FnG P w K mg base "_law_name" 1 ["_law_cell","_law_p"] JdU := by
 refine tx.Jag.g J2E (fun _ _ _ _ _ _ us hl => match us,hl with | [_,_],_ => rfl) (fun vs H Q E h => ?_) (fun f cdv A outer s H vs Q E hr h => ?_)
 ·obtain ⟨c,p,rfl,_⟩ := h
  rfl
 ·obtain ⟨c,p,rfl,q⟩ := h
  refine ⟨_,(J2 (Jm (i := 2) J2E.nd rfl (Or.inr rfl) (Js (l := [97,98,99,100,101,102,103,104,105,106,107,108,109,110,111,112,113,114,115,116,117,118,119,120,121,122]) (by decide +kernel)))
   (J2 (Jm (i := 3) J2E.nd rfl (Or.inl rfl) (J3R (K := K) rfl (Js (l := []) (by decide +kernel)) (J0 (J0p (osc := J4 J20) (ON := ["_law_cell","_law_p","_law_some_here","_law_body","_law_at","_law_name_here"]) (N := ["_law_k","_law_some_here","_law_cell"]) (js := [none,some 2,some 0]) ⟨rfl,by decide +kernel,by decide +kernel,by decide +kernel,rfl,by decide +kernel⟩ rfl rfl rfl (J06 rfl tx.J0m (J0 (Jd JD (Jd JM (pv 0) J6) J6) J1)) (fun _ _ _ _ _ => Je (i := 0) (show List.Nodup (["_law_k","_law_some_here","_law_cell"] : List Str) from by decide +kernel) rfl (Or.inl rfl)) (fun _ _ _ _ _ => J0A) (fun _ _ _ _ _ => (Jv J0B (pv 1) (Jd JD (Jd JM (pv 2) (Jd J0a J6 (Jd J3b J6 (pv 0)))) J6) (fun _ _ => rfl)))) J1)))
   (J2 (Jm (i := 4) J2E.nd rfl (Or.inl rfl) (Jd JD (Jd JM (pv 0) J6) (Jd J0a (Ju JX rfl tx.J05 PySem.boot_len (J0 (pv 3) J1)) J6)))
   (J2 (Jm (i := 5) J2E.nd rfl (Or.inl rfl) (Jd JE (Jd JE (JJ J3T (pv 3) J09 (JT (pv 4))) (Jv J0B (pv 2) (Jd JD (Jd J0a (pv 0) (pv 1)) J6) (fun _ _ => rfl))) (JJ J3T (pv 3) (JT (pv 4)) J09)))
   (J2 (JO (Jl J0c (pv 5) (Js (l := [97,108,108]) (by decide +kernel)) (Jq _)) (J9 (Jt (Js (l := [97,108,108,101]) (by decide +kernel)))) Jw)
   (J9 (Jt (pv 5)))))))),?_⟩
  walk_at "st"
  have h0 : 0 ≤ c / 3 % 8 := Int.emod_nonneg _ (by decide)
  have h1 : c / 3 % 8 < 8 := Int.emod_lt_of_pos _ (by decide)
  walk_at "rd"
  refine J4X (onI fun i => ltr (c / (16 + 5 * i) % 26)) (J0L 0 (c / 3 % 8).toNat) ?_ (fun x hx H' s' R hR => ?_) (fun D H2 hD s2 hDD => ?_)
  ·rw [List.length_map,List.length_range]; omega
  ·obtain ⟨k,hk,rfl⟩ := List.mem_map.mp hx
   have hk := List.mem_range.mp hk
   have ha := JdB (c / (16 + 5 * (0 + (k : Int))) % 26) (Int.emod_nonneg _ (by decide)) (Int.emod_lt_of_pos _ (by decide))
   walk_at "rd"
   exact hR H' (Same.refl _)
  rw [J9G _ (fun i => ltr (c / (16 + 5 * i) % 26))] at hDD
  refine ⟨[],_,D,rfl,rfl,SqL.of hDD,?_,?_⟩
  ·rw [J3h,List.length_map,List.length_nil,Nat.mul_zero,List.length_range]
   omega
  rw [J2S,J2R]
  have hb := JbR c
  have c1 := J2M (J3E c) none (some (c / 7 % ((J3E c).length + 1)))
  have c2 := J2M (J3E c) (some (c / 7 % ((J3E c).length + 1))) none
  have ha := JdB ((c + p) % 26) (Int.emod_nonneg _ (by decide)) (Int.emod_lt_of_pos _ (by decide))
  have q' := q H2 s2
  clear q h0 h1 hD hDD s2
  show J3e _ (T (J3E c)) _ _ _
  unfold J3G at q'
  unfold J31 at q'
  generalize J3E c = b at hb c1 c2 q' ⊢
  walk_at "rd"
  refine ite2 (fun e => ?_) (fun e => ?_)
  ·have e' := J1V (of_decide_eq_true e)
   rw [if_pos e'] at q'
   walk_at "rd"
   exact q'
  ·have e' : ¬ cutN b none (some (c / 7 % ((b.length : Int) + 1))) ++ [ltr ((c + p) % 26)] ++ cutN b (some (c / 7 % ((b.length : Int) + 1))) none = [97,108,108] := fun z => e (decide_eq_true (by rw [z]))
   rw [if_neg e'] at q'
   walk_at "rd"
   exact q'
theorem Jap (tx : Tx K mg Jb Jf Ja Jh J8 Jn J5 J3) : FnG P w K mg base "_law_rota" 2 ["_law_cell","_law_many","_law_days","_law_marks"] JdO := by
 have J0n := J2L (P := P) (w := w) (base := base) tx
 refine tx.Jal.g J2F (fun _ _ _ _ _ _ us hl => match us,hl with | [_,_,_,_],_ => rfl) (fun vs H Q E h => ?_) (fun f cdv A outer s H vs Q E hr h => ?_)
 ·obtain ⟨c,m,d,ms,rfl,_⟩ := h
  rfl
 ·obtain ⟨c,m,d,ms,rfl,m0,m1,d0,d1,l0,l1,q⟩ := h
  refine ⟨_,(J2 (Jm (i := 4) J2F.nd rfl (Or.inr rfl) (JB J0n (hr.mono (by decide)) (J0 (pv 0) (J0 (Jd J3b (pv 1) (pv 2)) J1))))
   (J2 (Jm (i := 5) J2F.nd rfl (Or.inl rfl) (J0b J1))
   (J2 (J0E PassesOwn.never rfl (J06 rfl tx.J0m (J0 (pv 1) J1)) (Je (i := 6) J2F.nd rfl (Or.inr rfl)) (J2 (J44 (k := 7) (osc := J4 J21) (ON := ["_law_cell","_law_many","_law_days","_law_marks","_law_numbers","_law_rota_here","_law_p","_law_row"]) (N := ["_law_day","_law_marks","_law_numbers","_law_p","_law_days"]) (js := [none,some 3,some 4,some 6,some 2]) J2F.nd rfl (Or.inl rfl) ⟨rfl,by decide +kernel,by decide +kernel,by decide +kernel,rfl,by decide +kernel⟩ rfl rfl rfl (J06 rfl tx.J0m (J0 (pv 2) J1)) (fun _ _ _ _ _ => Je (i := 0) (show List.Nodup (["_law_day","_law_marks","_law_numbers","_law_p","_law_days"] : List Str) from by decide +kernel) rfl (Or.inl rfl)) (fun _ _ _ _ _ => J0A) (fun _ _ _ _ _ => (Jv J0B (pv 1) (Jd JD (Jv (Jz (K := K) rfl) (pv 2) (Jd J0a (Jd J3b (pv 3) (pv 4)) (pv 0)) (fun _ _ => rfl)) (Ju JX rfl tx.J05 PySem.boot_len (J0 (pv 1) J1))) (fun _ _ => rfl))))
   (J9 (J0D (J1O PySem.F.plainAttrs_list PySem.F.slot_list_append PySem.F.type_list_append JW (pv 5) (J0 (J3R (K := K) rfl (Js (l := []) (by decide +kernel)) (J0 (pv 7) J1)) J1))))))
   (J9 (Jt (pv 5)))))),?_⟩
  walk_at "st"
  have md0 : 0 ≤ m * d := Int.mul_nonneg m0 (by omega)
  have md1 : m * d ≤ 112 := by
   have := Int.mul_le_mul m1 d1 (by omega) (by decide)
   omega
  walk_at "rd"
  intro nl H1 xs s1 nnl hn hxs
  walk_at "rd"
  intro rl hr
  have e1 : upd H1 rl (.lst []) nl = some (.lst (xs.map V.int)) := by rw [Jg (Jc hn hr)]; exact hn
  have fr : H rl = none := s1.free hr
  walk_at "rd"
  refine J2g (n := m.toNat) (fun i σ H2 => Here (∃ (v1 v2 : Option V) (rows : List (List Nat)),σ = [some (.int c),some (.int m),some (.int d),some (T ms),some (.ref nl),some (.ref rl),v1,v2] ∧ rows.length = i ∧ (∀ r ∈ rows,(r.length : Int) = d ∧ ∀ x ∈ r,x ∈ ms) ∧ H2 rl = some (.lst (rows.map T)) ∧ H2 nl = some (.lst (xs.map V.int)) ∧ Same H H2))
   (Here.mk ⟨none,none,[],rfl,rfl,fun r hr => (by simp at hr),J7,e1,s1.trans (Ji hr _)⟩) ?_ ?_
  ·rintro i σ H2 hi hv
   obtain ⟨v1,v2,rows,rfl,hl,hrows,h2r,h2n,s2⟩ := hv.out
   have hlen : (rows.map T).length ≤ 100 := by rw [List.length_map]; omega
   walk_at "rd"
   refine J9L (fun _ y => ∃ z,y = T [z] ∧ z ∈ ms) (J0L 0 d.toNat) ?_ (fun x hx H' s' R hR => ?_) (fun D H3 ys hD s3 hys hP hDD => ?_)
   ·rw [List.length_map,List.length_range]; omega
   ·obtain ⟨k,hk,rfl⟩ := List.mem_map.mp hx
    have hk := List.mem_range.mp hk
    have hm2 : ((i : Int) + 1) * d ≤ m * d := Int.mul_le_mul_of_nonneg_right (by omega) (by omega)
    rw [Int.add_mul,Int.one_mul] at hm2
    have hid : 0 ≤ (i : Int) * d := Int.mul_nonneg (by omega) (by omega)
    obtain ⟨z,hz,_⟩ := J5s xs ((0 + (i : Int)) * d + (0 + (k : Int))) (by rw [Int.zero_add]; omega) (by rw [Int.zero_add]; omega)
    obtain ⟨y,hy,hy2⟩ := J2C ms (z % (ms.length : Int)) (Int.emod_nonneg _ (by omega)) (Int.emod_lt_of_pos _ (by omega))
    have h2n' := s' _ _ h2n
    walk_at "rd"
    exact hR _ H' ⟨y,rfl,List.mem_of_getElem? hy2⟩ (Same.refl _)
   rw [List.length_map,List.length_range] at hys
   have hall : ∀ y ∈ ys,∃ z,y = T [z] ∧ z ∈ ms := fun y hy => by
    obtain ⟨j,hj,rfl⟩ := List.mem_iff_getElem.mp hy
    exact hP j _ _ (List.getElem?_eq_getElem (by rw [List.length_map,List.length_range]; omega)) (List.getElem?_eq_getElem hj)
   obtain ⟨l,rfl,hcs⟩ := J6K (ys := ys) fun y hy => let ⟨z,e,_⟩ := hall y hy; ⟨z,e⟩
   have hlm : ∀ x ∈ l,x ∈ ms := fun x hx => by
    obtain ⟨z,e,hz⟩ := hall (T [x]) (by rw [List.map_map]; exact List.mem_map.mpr ⟨x,hx,rfl⟩)
    have e' : [x] = [z] := J1V e
    rw [List.head_eq_of_cons_eq e']
    exact hz
   have h3r := s3 _ _ h2r
   have h3n := s3 _ _ h2n
   have hjl : (((l.map fun c => [c]).map List.length).sum + (l.map fun c => [c]).length * ([] : List Nat).length ≤ 16777216) := by
    rw [J3h,List.length_map,List.length_nil,Nat.mul_zero]
    omega
   have hD3 : SqL K H3 D ((l.map fun c => [c]).map T) := SqL.of hDD
   walk_at "rd"
   rw [J2S,J2R]
   have nnr : nl ≠ rl := Jc hn hr
   refine Here.mk ⟨_,_,rows ++ [l],rfl,by rw [List.length_append,List.length_singleton,hl],fun r hr => ?_,?_,?_,(s2.trans s3).upd fr⟩
   ·rcases List.mem_append.mp hr with hr | hr
    ·exact hrows r hr
    ·obtain rfl := List.mem_singleton.mp hr
     exact ⟨by omega,hlm⟩
   ·rw [J7,List.map_append]
    rfl
   ·rw [Jg nnr]
    exact h3n
  ·rintro σ H2 hv
   obtain ⟨v1,v2,rows,rfl,hl,hrows,h2r,h2n,s2⟩ := hv.out
   walk_at "rd"
   exact q rl H2 rows s2 fr h2r (by omega) hrows
theorem J6F (tx : Tx K mg Jb Jf Ja Jh J8 Jn J5 J3) : FnG P w K mg base "_law_some" 1 ["_law_signs","_law_number"] JdH := by
 refine tx.Jak.g J5N (fun _ _ _ _ _ _ us hl => match us,hl with | [_,_],_ => rfl) (fun vs H Q E h => ?_) (fun f cdv A outer s H vs Q E hr h => ?_)
 ·obtain ⟨l,n,rfl,_⟩ := h
  rfl
 ·obtain ⟨l,n,rfl,hl,q⟩ := h
  refine ⟨_,(J2 (Jm (i := 2) J5N.nd rfl (Or.inl rfl) (J3R (K := K) rfl (Js (l := []) (by decide +kernel)) (J0 (J0p (osc := J4 J1Z) (ON := ["_law_signs","_law_number","_law_found"]) (N := ["_law_k","_law_signs","_law_number"]) (js := [none,some 0,some 1]) ⟨rfl,by decide +kernel,by decide +kernel,by decide +kernel,rfl,by decide +kernel⟩ rfl rfl rfl (J06 rfl tx.J0m (J0 (Ju JX rfl tx.J05 PySem.boot_len (J0 (pv 0) J1)) J1)) (fun _ _ _ _ _ => Je (i := 0) (show List.Nodup (["_law_k","_law_signs","_law_number"] : List Str) from by decide +kernel) rfl (Or.inl rfl)) (fun _ _ _ _ _ => J17 (Jl J0c (Jd Jdj (Jd Jdl (pv 2) (pv 0)) J6) J6 (Jq _))) (fun _ _ _ _ _ => (Jv J0B (pv 1) (pv 0) (fun _ _ => rfl)))) J1)))
   (J2 (JO (Jl J0c (Jd Jdj (Jd Jdl (pv 1) (Ju JX rfl tx.J05 PySem.boot_len (J0 (pv 0) J1))) J6) J6 (Jq _)) (J9 (Jt (Jfd (pv 2) (Jb6 J8y J6)))) Jw)
   (J9 (Jt (pv 2))))),?_⟩
  walk_at "st"
  walk_at "rd"
  refine J0k ((List.range l.length).map fun (i : Nat) => (0 + (i : Int))) (fun i => decide (V.int (Builtin.bitAnd (n / 2 ^ i.toNat) 1) = V.int 1)) (fun _ y _ => ∃ c,y = T [c]) (fun σ => ∃ v,σ = [v,some (T l),some (.int n)]) (J0L 0 l.length) ?_ ?_ ⟨_,rfl⟩ (fun _ _ _ _ _ z => z) (fun i a v σ H' ha hv hσ s' Rf Rt hF hR => ?_) (fun D H2 ys hD s2 hys hDD => ?_)
  ·rw [List.length_map,List.length_map]
  ·rw [List.length_map,List.length_range]; omega
  ·obtain ⟨w,rfl⟩ := hσ
   rw [List.getElem?_map] at ha hv
   have hi : i < l.length := by
    cases e : (List.range l.length)[i]? with
    | none => rw [e] at ha; cases ha
    | some j => have := (List.getElem?_eq_some_iff.mp e).1; rw [List.length_range] at this; exact this
   rw [List.getElem?_range hi] at ha hv
   cases ha
   cases hv
   obtain ⟨c,hc,_⟩ := J2C l (0 + (i : Int)) (by omega) (by omega)
   have i0 : (0 : Int) ≤ 0 + (i : Int) := by omega
   walk_at "rd"
   refine ite2 (fun e => ?_) (fun e => ?_)
   ·walk_at "rd"
    exact hR _ _ _ e ⟨_,rfl⟩ (Same.refl _) ⟨c,rfl⟩
   ·exact hF _ _ (Bool.eq_false_iff.mpr e) ⟨_,rfl⟩ (Same.refl _)
  have hlen := hys.len
  have hfl := List.length_filter_le (fun i : Int => decide (V.int (Builtin.bitAnd (n / 2 ^ i.toNat) 1) = V.int 1)) ((List.range l.length).map fun (i : Nat) => (0 + (i : Int)))
  rw [List.length_map,List.length_range] at hfl
  obtain ⟨cs,rfl,hcs⟩ := J6K (ys := ys) fun y hy => by
   obtain ⟨i,hi,rfl⟩ := List.mem_iff_getElem.mp hy
   obtain ⟨a,_,h⟩ := hys.back (List.getElem?_eq_getElem hi)
   exact h
  have hjl : (((cs.map fun c => [c]).map List.length).sum + (cs.map fun c => [c]).length * ([] : List Nat).length ≤ 16777216) := by
   rw [J3h,List.length_map,List.length_nil,Nat.mul_zero]
   omega
  have hD3 : SqL K H2 D ((cs.map fun c => [c]).map T) := SqL.of hDD
  have l0 : (0 : Int) ≤ (l.length : Int) := by omega
  walk_at "rd"
  rw [J2S,J2R]
  walk_at "rd"
  have hcs' : cs.length ≤ l.length := by omega
  have hcs2 : cs.length ≤ 1000 := by omega
  refine ite2 (fun e => ?_) (fun e => ?_)
  ·walk_at "rd"
   exact q cs.reverse H2 s2 (by rw [List.length_reverse]; exact hcs')
  ·walk_at "rd"
   exact q cs H2 s2 hcs'
theorem J9m (tx : Tx K mg Jb Jf Ja Jh J8 Jn J5 J3) : FnG P w K mg base "_law_needs" 2 ["_law_cell","_law_days","_law_kinds_here"] Jco := by
 have J0n := J2L (P := P) (w := w) (base := base) tx
 refine tx.J8T.g J13 (fun _ _ _ _ _ _ us hl => match us,hl with | [_,_,_],_ => rfl) (fun vs H Q E h => ?_) (fun f cdv A outer s H vs Q E hr h => ?_)
 ·obtain ⟨c,d,ks,rfl,_⟩ := h
  rfl
 ·obtain ⟨c,d,ks,rfl,d0,d1,hk,q⟩ := h
  refine ⟨_,(J2 (Jm (i := 3) J13.nd rfl (Or.inl rfl) (J0b J1))
   (J2 (Jm (i := 4) J13.nd rfl (Or.inl rfl) (JB J0n (hr.mono (by decide)) (J0 (pv 0) (J0 (Jd J3b (pv 1) (Ju JX rfl tx.J05 PySem.boot_len (J0 (pv 2) J1))) J1))))
   (J2 (J0E PassesOwn.never rfl (J06 rfl tx.J0m (J0 (pv 1) J1)) (Je (i := 5) J13.nd rfl (Or.inl rfl)) (J9 (J0E PassesOwn.never rfl (J06 rfl tx.J0m (J0 (Ju JX rfl tx.J05 PySem.boot_len (J0 (pv 2) J1)) J1)) (Je (i := 6) J13.nd rfl (Or.inl rfl)) (J2 (Jm (i := 7) J13.nd rfl (Or.inl rfl) (Jv (Jz (K := K) rfl) (pv 4) (Jd J0a (Jd J3b (pv 5) (Ju JX rfl tx.J05 PySem.boot_len (J0 (pv 2) J1))) (pv 6)) (fun _ _ => rfl)))
   (J2 (Jm (i := 8) J13.nd rfl (Or.inl rfl) (Jd JD (Jd JM (pv 7) J6) J6))
   (J9 (JO (Jl J3m (Jd JD (pv 7) J6) J6 (Jq _)) (J9 (J0D (J1O PySem.F.plainAttrs_list PySem.F.slot_list_append PySem.F.type_list_append JW (pv 3) (J0 (JS (J0 (pv 5) (J0 (Jv J0B (pv 2) (pv 6) (fun _ _ => rfl)) (J0 (Jd JD (Jd JM (pv 7) J6) (Jd J0a (pv 8) J6)) (J0 (pv 8) J1))))) J1)))) Jw)))))))
   (J9 (Jt (pv 3)))))),?_⟩
  walk_at "st"
  clear J0n
  have kl0 : (0 : Int) ≤ (ks.length : Int) := by omega
  have md0 : 0 ≤ d * (ks.length : Int) := Int.mul_nonneg (by omega) kl0
  have md1 : d * (ks.length : Int) ≤ 56 := by
   have := Int.mul_le_mul d1 (show (ks.length : Int) ≤ 4 by omega) kl0 (by decide)
   omega
  walk_at "rd"
  intro fl nfl
  obtain ⟨H1,e1,hfl1,s1⟩ : ∃ H1,H1 = upd H fl (.lst []) ∧ H1 fl = some (.lst []) ∧ Same H H1 := ⟨_,rfl,J7,Ji nfl _⟩
  rw [← e1]
  walk_at "rd"
  intro nl H2 ns s2 nnl hnl hns
  have hfl2 := s2 _ _ hfl1
  have nne : nl ≠ fl := (Jc hfl1 nnl).symm
  walk_at "rd"
  refine J2g (n := d.toNat) (fun i σ H3 => Here (∃ v1 v2 v3 v4 nds xs,σ = [some (.int c),some (.int d),some (T ks),some (.ref fl),some (.ref nl),v1,v2,v3,v4] ∧ H3 fl = some (.lst xs) ∧ All2 NdAt H3 nds xs ∧ xs.length ≤ 4 * i ∧ H3 nl = some (.lst (ns.map V.int)) ∧ Same H H3)) (Here.mk ⟨none,none,none,none,[],[],rfl,hfl2,trivial,Nat.zero_le _,hnl,s1.trans s2⟩) ?_ ?_
  ·rintro i σ H3 hi hv
   obtain ⟨v1,v2,v3,v4,nds,xs,rfl,hfl3,hA3,hx3,hnl3,s3⟩ := hv.out
   walk_at "rd"
   refine J2g (n := ks.length) (fun j σ H4 => Here (∃ v2 v3 v4 nds xs,σ = [some (.int c),some (.int d),some (T ks),some (.ref fl),some (.ref nl),some (.int (0 + (i : Int))),v2,v3,v4] ∧ H4 fl = some (.lst xs) ∧ All2 NdAt H4 nds xs ∧ xs.length ≤ 4 * i + j ∧ H4 nl = some (.lst (ns.map V.int)) ∧ Same H H4)) (Here.mk ⟨_,_,_,nds,xs,rfl,hfl3,hA3,by omega,hnl3,s3⟩) ?_ ?_
   ·rintro j σ H4 hj hv
    obtain ⟨v2,v3,v4,nds,xs,rfl,hfl4,hA4,hx4,hnl4,s4⟩ := hv.out
    have hm2 : ((i : Int) + 1) * (ks.length : Int) ≤ d * (ks.length : Int) := Int.mul_le_mul_of_nonneg_right (by omega) kl0
    rw [Int.add_mul,Int.one_mul] at hm2
    have hid : 0 ≤ (i : Int) * (ks.length : Int) := Int.mul_nonneg (by omega) kl0
    obtain ⟨z,hz,_⟩ := J5s ns ((0 + (i : Int)) * (ks.length : Int) + (0 + (j : Int))) (by rw [Int.zero_add]; omega) (by rw [Int.zero_add]; omega)
    obtain ⟨k,hk1,_⟩ := J2C ks (0 + (j : Int)) (by omega) (by omega)
    have m0 : 0 ≤ z / 3 % 9 := Int.emod_nonneg _ (by decide)
    have m1 : z / 3 % 9 < 9 := Int.emod_lt_of_pos _ (by decide)
    have hxl : xs.length ≤ 100 := by omega
    walk_at "rd"
    refine ite2 (fun e => ?_) (fun e => ?_)
    ·walk_at "rd"
     intro t ht
     obtain ⟨H5,e5,ht5,s5⟩ : ∃ H5,H5 = upd H4 t (.tup [.int (0 + (i : Int)),T [k],.int (z / 27 % (z / 3 % 9 + 1)),.int (z / 3 % 9)]) ∧ H5 t = some (.tup [.int (0 + (i : Int)),T [k],.int (z / 27 % (z / 3 % 9 + 1)),.int (z / 3 % 9)]) ∧ Same H4 H5 := ⟨_,rfl,J7,Ji ht _⟩
     rw [← e5]
     have hfl5 := s5 _ _ hfl4
     walk_at "rd"
     have kk : JV H5 (upd H5 fl (.lst (xs ++ [.ref t]))) := JP hfl5
     refine Here.mk ⟨_,_,_,nds ++ [⟨0 + (i : Int),k,z / 27 % (z / 3 % 9 + 1),z / 3 % 9⟩],xs ++ [.ref t],rfl,J7,All2.snoc (hA4.imp fun a y => NdAt.keeps a y _ _ (s5.keeps.trans kk)) ⟨t,rfl,kk _ _ ht5 (fun zs z => by cases z)⟩,by rw [List.length_append,List.length_singleton]; omega,?_,(s4.trans s5).upd nfl⟩
     rw [Jg nne]
     exact s5 _ _ hnl4
    ·exact Here.mk ⟨_,_,_,nds,xs,rfl,hfl4,hA4,by omega,hnl4,s4⟩
   ·rintro σ H4 hv
    obtain ⟨v2,v3,v4,nds,xs,rfl,hfl4,hA4,hx4,hnl4,s4⟩ := hv.out
    exact Here.mk ⟨_,_,_,_,nds,xs,rfl,hfl4,hA4,by omega,hnl4,s4⟩
  ·rintro σ H3 hv
   obtain ⟨v1,v2,v3,v4,nds,xs,rfl,hfl3,hA3,hx3,hnl3,s3⟩ := hv.out
   walk_at "rd"
   exact q fl H3 nds xs s3 nfl hfl3 hA3
end
theorem JaO (a b : List Nat) (i : Int) (h0 : 0 ≤ i) (h1 : i < 2) : ∃ w,atI [T a,T b] i = some (T w) ∧ (w = a ∨ w = b) := by
 have : i = 0 ∨ i = 1 := by omega
 rcases this with rfl | rfl
 ·exact ⟨a,at0 _ _,.inl rfl⟩
 ·exact ⟨b,at1 _ _,.inr rfl⟩
theorem at5 (a b c d e : V) : atI [a,b,c,d,e] 0 = some a ∧ atI [a,b,c,d,e] 1 = some b ∧ atI [a,b,c,d,e] 2 = some c ∧ atI [a,b,c,d,e] 3 = some d ∧ atI [a,b,c,d,e] 4 = some e := by simp [atI,ixN]
theorem All2.takeL {α : Type} {P : α → V → Hp → Prop} {H : Hp} : ∀ {as : List α} {ys : List V} (n : Nat),All2 P H as ys → All2 P H (as.take n) (ys.take n)
 | _,_,0,_ => by rw [List.take_zero,List.take_zero]; exact trivial
 | [],[],_ + 1,_ => trivial
 | _ :: _,_ :: _,n + 1,h => ⟨h.1,All2.takeL n h.2⟩
 | [],_ :: _,_ + 1,h => h.elim
 | _ :: _,[],_ + 1,h => h.elim
noncomputable abbrev sg28 : List Nat := [65,66,67,68,69,70,71,72,73,74,75,76,77,78,79,80,81,82,83,84,85,86,87,88,89,90,45,35]
noncomputable def JeQ : Sp := fun vs H Q _ => ∃ (n : Int),vs = [.int n] ∧ ∀ (r : R) (H' : Hp),Same H H' → r.ok → r.sz = 1 → Q (T r.tx) H'
structure TxR (r : R) (t : List Nat) : Prop where
 ok : r.ok
 dp : r.depth ≤ 2
 rd : rdW 60 (Jx 32 t) = some r
 ln : t.length ≤ 300
 wc : (Jx 32 t).length ≤ 60
noncomputable def JeN : Sp := fun vs H Q _ => ∃ (n : Int),vs = [.int n] ∧ ∀ (t : Addr) (H' : Hp) (r : R) (tx nx : List Nat),Same H H' → H' t = some (.tup [T tx,T nx]) → TxR r tx → Q (.ref t) H'
noncomputable def JbI (K : PySem.W.Frag) : Sp := fun vs H Q _ => ∃ (a : Addr) (ns : List Int) (p : Int) (ks : List Nat),vs = [.ref a,.int p,T ks] ∧ SqL K H a (ns.map V.int) ∧ 0 ≤ p ∧ ks.length ≤ 4 ∧ ∀ (t : Addr) (H' : Hp) (n : Ps),Same H H' → H' t = some (.tup [T n.nm,T n.sk,.int n.most,.int n.car,T n.past]) → n.past.length ≤ 100 → n.nm = J3G (J0i ns 1) p → Q (.ref t) H'
noncomputable def JdV : Sp := fun vs H Q _ => ∃ (nm : List Nat) (c d : Int) (ks : List Nat),vs = [T nm,.int c,.int d,T ks] ∧ 1 ≤ d ∧ d ≤ 14 ∧ ks.length ≤ 4 ∧ ∀ (t : Addr) (H' : Hp),Same H H' → Q (.ref t) H'
theorem J2H {r : R} (ho : r.ok) (hz : r.sz = 1) : (Jx 32 r.tx).length ≤ 6 := by
 cases r with
 | nev w =>
  show (Jx 32 ([110,101,118,101,114,32] ++ w)).length ≤ 6
  rw [show [110,101,118,101,114,32] ++ w = [110,101,118,101,114] ++ 32 :: w from rfl,J1m,J2D (w := [110,101,118,101,114]) (by decide),J2D (J9y ho)]
  show 2 ≤ 6
  decide
 | most n m d =>
  show (Jx 32 (cnT [109,111,115,116] n m d)).length ≤ 6
  rw [J8E (by decide) (J4U ho.2.2)]
  exact Nat.le_refl 6
 | least n m d =>
  show (Jx 32 (cnT [108,101,97,115,116] n m d)).length ≤ 6
  rw [J8E (by decide) (J4U ho.2.2)]
  exact Nat.le_refl 6
 | both l r => have h : l.sz + r.sz + 1 = 1 := hz; have := l.sz_pos; omega
 | either l r => have h : l.sz + r.sz + 1 = 1 := hz; have := l.sz_pos; omega
 | neg i => have h : i.sz + 1 = 1 := hz; have := i.sz_pos; omega
theorem J0v {r : R} (hz : r.sz = 1) : r.lvl = 0 ∧ r.depth = 0 := by
 cases r with
 | nev w => exact ⟨rfl,rfl⟩
 | most n m d => exact ⟨rfl,rfl⟩
 | least n m d => exact ⟨rfl,rfl⟩
 | both l r => have h : l.sz + r.sz + 1 = 1 := hz; have := l.sz_pos; omega
 | either l r => have h : l.sz + r.sz + 1 = 1 := hz; have := l.sz_pos; omega
 | neg i => have h : i.sz + 1 = 1 := hz; have := i.sz_pos; omega
theorem TxR.of {r : R} {t : List Nat} (x : TxA r t) (ho : r.ok) (hd : r.depth ≤ 2) (hz : r.sz ≤ 9) (hw : (Jx 32 t).length ≤ 60) : TxR r t :=
 ⟨ho,hd,Jey (x.rd.up (R.lvl2 r) (Nat.le_refl _)) 60 hw,by have := x.ln; omega,hw⟩
theorem TxR.one {r : R} (ho : r.ok) (hz : r.sz = 1) : TxR r r.tx := TxR.of (R.tx_ok ho) ho (by rw [(J0v hz).2]; omega) (by omega) (Nat.le_trans (J2H ho hz) (by decide))
theorem TxR.br1 {r : R} (ho : r.ok) (hz : r.sz = 1) : TxR r ([40,32] ++ r.tx ++ [32,41]) := by
 have hw := J2H ho hz
 have hx := (R.tx_ok ho).br 2 (by decide)
 have hw2 : (Jx 32 ([40,32] ++ r.tx ++ [32,41])).length ≤ 60 := by
  rw [J5E,List.length_cons,List.length_append,List.length_singleton]
  omega
 exact ⟨ho,by rw [(J0v hz).2]; omega,Jey hx.rd 60 hw2,by have := hx.ln; omega,hw2⟩
theorem Jex {a b : R} (ha : a.ok) (hb : b.ok) (za : a.sz = 1) (zb : b.sz = 1) : TxA (.both a b) (a.tx ++ [32,97,110,100,32] ++ b.tx) :=
 Jbp ((R.tx_ok ha).in (by decide) (by rw [(J0v za).1]; decide)) ((R.tx_ok hb).in (by decide) (by rw [(J0v zb).1]; decide))
theorem TxR.and2 {a b : R} (ha : a.ok) (hb : b.ok) (za : a.sz = 1) (zb : b.sz = 1) : TxR (.both a b) (a.tx ++ [32,97,110,100,32] ++ b.tx) := by
 have wa := J2H ha za
 have wb := J2H hb zb
 refine TxR.of (Jex ha hb za zb) ⟨ha,hb⟩ ?_ ?_ ?_
 ·show max a.depth b.depth + 1 ≤ 2
  rw [(J0v za).2,(J0v zb).2]
  decide
 ·show a.sz + b.sz + 1 ≤ 9
  omega
 ·rw [J56,List.length_append,List.length_cons]
  omega
theorem TxR.nor2 {a b : R} (ha : a.ok) (hb : b.ok) (za : a.sz = 1) (zb : b.sz = 1) : TxR (.neg (.either a b)) ([110,111,116,32,40,32] ++ a.tx ++ [32,111,114,32] ++ b.tx ++ [32,41]) := by
 have wa := J2H ha za
 have wb := J2H hb zb
 have x : TxA (.either a b) (a.tx ++ [32,111,114,32] ++ b.tx) := J5B ((R.tx_ok ha).in (by decide) (by rw [(J0v za).1]; decide)) ((R.tx_ok hb).in (by decide) (by rw [(J0v zb).1]; decide))
 have e : [110,111,116,32,40,32] ++ a.tx ++ [32,111,114,32] ++ b.tx ++ [32,41] = [110,111,116,32] ++ ([40,32] ++ (a.tx ++ [32,111,114,32] ++ b.tx) ++ [32,41]) := by simp
 rw [e]
 refine TxR.of (JaP (x.br 0 (by decide))) ⟨ha,hb⟩ ?_ ?_ ?_
 ·show max a.depth b.depth + 1 + 1 ≤ 2
  rw [(J0v za).2,(J0v zb).2]
  decide
 ·show a.sz + b.sz + 1 + 1 ≤ 9
  omega
 ·rw [J4O,J5E,J6P,List.length_cons,List.length_cons,List.length_append,List.length_append,List.length_cons,List.length_singleton]
  omega
theorem TxR.orn2 {a b : R} (ha : a.ok) (hb : b.ok) (za : a.sz = 1) (zb : b.sz = 1) : TxR (.either (.both a b) (.neg a)) ([40,32] ++ (a.tx ++ [32,97,110,100,32] ++ b.tx) ++ [32,41,32,111,114,32,40,32,110,111,116,32] ++ a.tx ++ [32,41]) := by
 have wa := J2H ha za
 have wb := J2H hb zb
 have x := Jex ha hb za zb
 have y : TxA (.neg a) ([110,111,116,32] ++ a.tx) := JaP ((R.tx_ok ha).in (by decide) (by rw [(J0v za).1]; decide))
 have e : [40,32] ++ (a.tx ++ [32,97,110,100,32] ++ b.tx) ++ [32,41,32,111,114,32,40,32,110,111,116,32] ++ a.tx ++ [32,41] = ([40,32] ++ (a.tx ++ [32,97,110,100,32] ++ b.tx) ++ [32,41]) ++ [32,111,114,32] ++ ([40,32] ++ ([110,111,116,32] ++ a.tx) ++ [32,41]) := by simp
 rw [e]
 refine TxR.of (J5B (x.br 2 (by decide)) (y.br 1 (by decide))) ⟨⟨ha,hb⟩,ha⟩ ?_ ?_ ?_
 ·show max (max a.depth b.depth + 1) (a.depth + 1) + 1 ≤ 2
  rw [(J0v za).2,(J0v zb).2]
  decide
 ·show a.sz + b.sz + 1 + (a.sz + 1) + 1 ≤ 9
  omega
 ·rw [J6P,J5E,J5E,J56,J4O]
  simp only [List.length_append,List.length_cons,List.length_nil]
  omega
theorem J9N : ∀ x ∈ sg28,J3P x = true := by decide
theorem Jd1 {x : Nat} (h : J3P x = true) : J4j x = true := by
 unfold J3P at h
 unfold J4j
 rw [h]
 rfl
section
variable {P : Program} {w : World} {K : PySem.W.Frag} {mg : Str → Option Value} {base : Heap} {Jb Jf Ja Jh J8 Jn J5 J3 : Addr}
theorem J5j (tx : Tx K mg Jb Jf Ja Jh J8 Jn J5 J3) : FnG P w K mg base "_law_plain_rule" 1 ["_law_number"] JeQ := by
 refine tx.J5l.g J0d (fun _ _ _ _ _ _ us hl => match us,hl with | [_],_ => rfl) (fun vs H Q E h => ?_) (fun f cdv A outer s H vs Q E hr h => ?_)
 ·obtain ⟨n,rfl,_⟩ := h
  rfl
 ·obtain ⟨n,rfl,q⟩ := h
  refine ⟨_,(J2 (Jm (i := 1) J0d.nd rfl (Or.inl rfl) (Js (l := [65,66,67,68,69,70,71,72,73,74,75,76,77,78,79,80,81,82,83,84,85,86,87,88,89,90,45,35]) (by decide +kernel)))
   (J2 (Jm (i := 2) J0d.nd rfl (Or.inl rfl) (Jv J0B (pv 1) (Jd JD (pv 0) J6) (fun _ _ => rfl)))
   (J2 (Jm (i := 3) J0d.nd rfl (Or.inl rfl) (Jv J0B (pv 1) (Jd JD (Jd J0a (Jd J0a (Jd JM (pv 0) J6) J6) (Jd JD (pv 0) J6)) J6) (fun _ _ => rfl)))
   (J2 (JO (Jl J0c (Jd JD (Jd JM (pv 0) J6) J6) J6 (Jq _)) (J9 (Jt (Jd JE (Js (l := [110,101,118,101,114,32]) (by decide +kernel)) (JJ J3T (Jd JE (Jd JE (Jd JE (pv 2) (pv 3)) (Js (l := [63,45,35]) (by decide +kernel))) (pv 3)) J09 (JT (Jd J0a J6 (Jd JD (Jd JM (pv 0) J6) J6))))))) Jw)
   (J2 (Jm (i := 4) J0d.nd rfl (Or.inl rfl) (pv 2))
   (J2 (J1R (JO (PW.pt (J1x (Jl J0c (Jd JD (Jd JM (pv 0) J6) J6) J6 (Jq _)) (J1N (Jl J2Y (pv 2) (pv 3) (Jq _))))) (J9 (Jm (i := 4) J0d.nd rfl (Or.inl rfl) (Jd JE (pv 2) (pv 3)))) Jw))
   (J2 (Jm (i := 5) J0d.nd rfl (Or.inl rfl) (Jd JE (Jd JE (Jd JE (Jd JE (J07 J4Y rfl tx.J7y J7N (J0 (Jd JD (Jd JM (pv 0) J6) J6) J1)) (Js (l := [32,111,102,32]) (by decide +kernel))) (pv 4)) (Js (l := [32,105,110,32]) (by decide +kernel))) (J07 J4Y rfl tx.J7y J7N (J0 (Jd J0a J6 (Jd JD (Jd JM (pv 0) J6) J6)) J1))))
   (J9 (Jt (Jd JE (Jv (Jz (K := K) rfl) (J0b (J0 (Js (l := [109,111,115,116,32]) (by decide +kernel)) (J0 (Js (l := [108,101,97,115,116,32]) (by decide +kernel)) J1))) (Jd JD (Jd JM (pv 0) J6) J6) (fun _ _ => rfl)) (pv 5))))))))))),?_⟩
  walk_at "st"
  obtain ⟨a,ha,ha2⟩ := J2C sg28 (n % 28) (Int.emod_nonneg _ (by decide)) (Int.emod_lt_of_pos _ (by decide))
  obtain ⟨b,hb,hb2⟩ := J2C sg28 ((n / 28 + 1 + n % 28) % 28) (Int.emod_nonneg _ (by decide)) (Int.emod_lt_of_pos _ (by decide))
  have sa := J9N a (List.mem_of_getElem? ha2)
  have sb := J9N b (List.mem_of_getElem? hb2)
  walk_at "rd"
  refine ite2 (fun _ => ?_) (fun _ => ?_)
  ·have cl := J2M ([a] ++ [b] ++ [63,45,35] ++ [b]) none (some (1 + n / 2352 % 6))
   simp only [List.length_append,List.length_cons,List.length_nil] at cl
   have b0 : 0 ≤ n / 2352 % 6 := Int.emod_nonneg _ (by decide)
   have b1 : n / 2352 % 6 < 6 := Int.emod_lt_of_pos _ (by decide)
   walk_at "rd"
   refine q (.nev (cutN ([a] ++ [b] ++ [63,45,35] ++ [b]) none (some (1 + n / 2352 % 6)))) H (Same.refl _) ?_ rfl
   have ec := J4u ([a] ++ [b] ++ [63,45,35] ++ [b]) (1 + n / 2352 % 6) (by omega)
   refine JcN ?_ (by omega) ?_
   ·rw [ec,List.length_take]
    simp only [List.length_append,List.length_cons,List.length_nil]
    omega
   ·intro x hx
    rw [ec] at hx
    have hx := List.mem_of_mem_take hx
    simp only [List.mem_append,List.mem_cons,List.not_mem_nil,or_false] at hx
    rcases hx with ((rfl | rfl) | rfl | rfl | rfl) | rfl
    ·exact Jd1 sa
    ·exact Jd1 sb
    ·decide
    ·decide
    ·decide
    ·exact Jd1 sb
  walk_at "rd"
  refine tCut.mk (fun σ' H' => Here (∃ mk,σ' = [some (.int n),some (T sg28),some (T [a]),some (T [b]),some (T mk),none] ∧ J0z mk = true ∧ mk.length ≤ 2 ∧ H' = H)) ?_ ?_
  ·have g1 : J0z [a] = true := J9x (by simp) (by simp) (fun x hx => by rw [List.mem_singleton.mp hx]; exact sa) (by simp)
   walk_at "rd"
   refine ite2 (fun _ => ?_) (fun _ => ?_)
   ·walk_at "rd"
    refine ite2 (fun c => ?_) (fun _ => ?_)
    ·have c' : ¬ a = b := fun z => by rw [z] at c; exact absurd c (by rw [decide_eq_true rfl]; decide)
     walk_at "rd"
     refine Here.mk ⟨[a] ++ [b],rfl,J9x (by simp) (by simp) (fun x hx => ?_) (by simpa using c'),by simp,rfl⟩
     simp only [List.mem_append,List.mem_cons,List.not_mem_nil,or_false] at hx
     rcases hx with rfl | rfl
     ·exact sa
     ·exact sb
    ·exact Here.mk ⟨[a],rfl,g1,by simp,rfl⟩
   ·walk_at "rd"
    exact Here.mk ⟨[a],rfl,g1,by simp,rfl⟩
  rintro σ' H' hv
  obtain ⟨mk,rfl,gmk,hmk,eH⟩ := hv.out
  rw [eH]
  clear hv eH
  have f0 : 0 ≤ n / 4704 % 8 := Int.emod_nonneg _ (by decide)
  have f1 : n / 4704 % 8 < 8 := Int.emod_lt_of_pos _ (by decide)
  have g0 : 0 ≤ n / 37632 % 7 := Int.emod_nonneg _ (by decide)
  have g1 : n / 37632 % 7 < 7 := Int.emod_lt_of_pos _ (by decide)
  obtain ⟨wd,hw,hwl⟩ := JaO [109,111,115,116,32] [108,101,97,115,116,32] (n / 784 % 2) (Int.emod_nonneg _ (by decide)) (Int.emod_lt_of_pos _ (by decide))
  have hwl' : wd.length ≤ 6 := by rcases hwl with rfl | rfl <;> decide
  walk_at "rd"
  intro p hp
  walk_at "rd"
  have s1 : Same H (upd H p (.lst [T [109,111,115,116,32],T [108,101,97,115,116,32]])) := Ji hp _
  have cn : ∀ (w0 : List Nat) (i d : Int),w0 ++ [32] ++ ([48 + i.toNat] ++ [32,111,102,32] ++ mk ++ [32,105,110,32] ++ [48 + d.toNat]) = cnT w0 i mk d := fun w0 i d => by
   unfold cnT
   simp
  rcases hwl with rfl | rfl
  ·have q' := q (.most (n / 4704 % 8) mk (1 + n / 37632 % 7)) _ s1 ⟨⟨f0,by omega⟩,⟨by omega,by omega⟩,gmk⟩ rfl
   have e : (R.most (n / 4704 % 8) mk (1 + n / 37632 % 7)).tx = [109,111,115,116,32] ++ ([48 + (n / 4704 % 8).toNat] ++ [32,111,102,32] ++ mk ++ [32,105,110,32] ++ [48 + (1 + n / 37632 % 7).toNat]) := (cn [109,111,115,116] _ _).symm
   rw [e] at q'
   exact q'
  ·have q' := q (.least (n / 4704 % 8) mk (1 + n / 37632 % 7)) _ s1 ⟨⟨f0,by omega⟩,⟨by omega,by omega⟩,gmk⟩ rfl
   have e : (R.least (n / 4704 % 8) mk (1 + n / 37632 % 7)).tx = [108,101,97,115,116,32] ++ ([48 + (n / 4704 % 8).toNat] ++ [32,111,102,32] ++ mk ++ [32,105,110,32] ++ [48 + (1 + n / 37632 % 7).toNat]) := (cn [108,101,97,115,116] _ _).symm
   rw [e] at q'
   exact q'
theorem Jab (tx : Tx K mg Jb Jf Ja Jh J8 Jn J5 J3) : FnG P w K mg base "_law_rule" 2 ["_law_cell"] JeN := by
 have J3c := J5j (P := P) (w := w) (base := base) tx
 have J0n := J2L (P := P) (w := w) (base := base) tx
 refine tx.Ja0.g J32 (fun _ _ _ _ _ _ us hl => match us,hl with | [_],_ => rfl) (fun vs H Q E h => ?_) (fun f cdv A outer s H vs Q E hr h => ?_)
 ·obtain ⟨n,rfl,_⟩ := h
  rfl
 ·obtain ⟨n,rfl,q⟩ := h
  refine ⟨_,(J2 (J2y (J0p (osc := J4 J1W) (ON := ["_law_cell","_law_one","_law_two","_law_both"]) (N := ["_law_number"]) (js := [none]) ⟨rfl,by decide +kernel,by decide +kernel,by decide +kernel,rfl,by decide +kernel⟩ rfl rfl rfl (J0J (K := K) rfl (JB J0n (hr.mono (by decide)) (J0 (Jd JM (pv 0) J6) (J0 J6 J1)))) (fun _ _ _ _ _ => Je (i := 0) (show List.Nodup (["_law_number"] : List Str) from by decide +kernel) rfl (Or.inl rfl)) (fun _ _ _ _ _ => J0A) (fun _ _ _ _ _ => (JB J3c (hr.mono (by decide)) (J0 (pv 0) J1)))) (Jfn rfl (Jk (Je (i := 1) J32.nd rfl (Or.inl rfl)) (Jk (Je (i := 2) J32.nd rfl (Or.inl rfl)) J08))))
   (J2 (JO (Jl J0c (Jd JD (pv 0) J6) J6 (Jq _)) (J9 (Jt (JS (J0 (Jd JE (Jd JE (Js (l := [40,32]) (by decide +kernel)) (pv 1)) (Js (l := [32,41]) (by decide +kernel))) (J0 (pv 1) J1))))) Jw)
   (J2 (JO (Jl J0c (Jd JD (pv 0) J6) J6 (Jq _)) (J9 (Jt (JS (J0 (Jd JE (Jd JE (pv 1) (Js (l := [32,97,110,100,32]) (by decide +kernel))) (pv 2)) (J0 (Jd JE (Jd JE (pv 1) (Js (l := [32,97,110,100,32]) (by decide +kernel))) (pv 2)) J1))))) Jw)
   (J2 (JO (Jl J0c (Jd JD (pv 0) J6) J6 (Jq _)) (J9 (Jt (JS (J0 (Jd JE (Jd JE (Jd JE (Jd JE (Js (l := [110,111,116,32,40,32]) (by decide +kernel)) (pv 1)) (Js (l := [32,111,114,32]) (by decide +kernel))) (pv 2)) (Js (l := [32,41]) (by decide +kernel))) (J0 (Jd JE (Jd JE (Jd JE (Jd JE (Js (l := [110,111,116,32,40,32]) (by decide +kernel)) (pv 1)) (Js (l := [32,111,114,32]) (by decide +kernel))) (pv 2)) (Js (l := [32,41]) (by decide +kernel))) J1))))) Jw)
   (J2 (JO (Jl J0c (Jd JD (pv 0) J6) J6 (Jq _)) (J2 (Jm (i := 3) J32.nd rfl (Or.inl rfl) (Jd JE (Jd JE (pv 1) (Js (l := [32,97,110,100,32]) (by decide +kernel))) (pv 2)))
   (J9 (Jt (JS (J0 (Jd JE (Jd JE (Jd JE (Jd JE (Js (l := [40,32]) (by decide +kernel)) (pv 3)) (Js (l := [32,41,32,111,114,32,40,32,110,111,116,32]) (by decide +kernel))) (pv 1)) (Js (l := [32,41]) (by decide +kernel))) (J0 (Jd JE (Jd JE (pv 3) (Js (l := [32,111,114,32,110,111,116,32]) (by decide +kernel))) (pv 1)) J1)))))) Jw)
   (J9 (Jt (JS (J0 (pv 1) (J0 (pv 1) J1)))))))))),?_⟩
  walk_at "st"
  clear J3c J0n
  walk_at "rd"
  intro st H1 xs s1 nst hst hxs
  walk_at "rd"
  refine J0k xs (fun _ => true) (fun _ y _ => ∃ r : R,y = T r.tx ∧ r.ok ∧ r.sz = 1) (fun σ => ∃ v,σ = [v]) (J16 (SqL.of hst)) (by rw [List.length_map]) (by omega) ⟨_,rfl⟩ (fun _ _ _ _ _ z => z) (fun i a v σ H' ha hv hσ s' Rf Rt _ hR => ?_) (fun D H2 ys nD s2 hys hD => ?_)
  ·obtain ⟨w1,rfl⟩ := hσ
   rw [List.getElem?_map,ha] at hv
   cases hv
   walk_at "rd"
   exact fun r H2 s2 ho hz => hR _ _ _ rfl ⟨_,rfl⟩ s2 ⟨r,rfl,ho,hz⟩
  have hyl := hys.len
  rw [List.filter_eq_self.mpr fun _ _ => rfl] at hyl hys
  obtain ⟨r1,r2,rfl,o1,z1,o2,z2⟩ : ∃ r1 r2 : R,ys = [T r1.tx,T r2.tx] ∧ r1.ok ∧ r1.sz = 1 ∧ r2.ok ∧ r2.sz = 1 := by
   match ys,hyl,hys with
   | [y1,y2],_,hys =>
    obtain ⟨_,_,r1,rfl,a1,b1⟩ := hys.back (i := 0) rfl
    obtain ⟨_,_,r2,rfl,a2,b2⟩ := hys.back (i := 1) rfl
    exact ⟨r1,r2,rfl,a1,b1,a2,b2⟩
   | [],e,_ => exact absurd e (by simp only [List.length_nil]; omega)
   | [_],e,_ => exact absurd e (by simp only [List.length_cons,List.length_nil]; omega)
   | _ :: _ :: _ :: _,e,_ => exact absurd e (by simp only [List.length_cons]; omega)
  clear hys hyl hst hxs nst nD
  have s12 := s1.trans s2
  have l1 : r1.tx.length ≤ 32 := by have := (R.tx_ok o1).ln; omega
  have l2 : r2.tx.length ≤ 32 := by have := (R.tx_ok o2).ln; omega
  walk_at "rd"
  refine ite2 (fun _ => ?_) (fun _ => ?_)
  ·walk_at "rd"
   exact fun t ht => q t _ _ _ _ (s12.trans (Ji ht _)) J7 (TxR.br1 o1 z1)
  walk_at "rd"
  refine ite2 (fun _ => ?_) (fun _ => ?_)
  ·walk_at "rd"
   exact fun t ht => q t _ _ _ _ (s12.trans (Ji ht _)) J7 (TxR.and2 o1 o2 z1 z2)
  walk_at "rd"
  refine ite2 (fun _ => ?_) (fun _ => ?_)
  ·walk_at "rd"
   exact fun t ht => q t _ _ _ _ (s12.trans (Ji ht _)) J7 (TxR.nor2 o1 o2 z1 z2)
  walk_at "rd"
  refine ite2 (fun _ => ?_) (fun _ => ?_)
  ·walk_at "rd"
   exact fun t ht => q t _ _ _ _ (s12.trans (Ji ht _)) J7 (TxR.orn2 o1 o2 z1 z2)
  walk_at "rd"
  exact fun t ht => q t _ _ _ _ (s12.trans (Ji ht _)) J7 (TxR.one o1 z1)
theorem Jae (tx : Tx K mg Jb Jf Ja Jh J8 Jn J5 J3) : FnG P w K mg base "_law_wish" 2 ["_law_name_here","_law_cell","_law_days","_law_kinds_here"] JdV := by
 have J2X := J6F (P := P) (w := w) (base := base) tx
 refine tx.J9X.g J3K (fun _ _ _ _ _ _ us hl => match us,hl with | [_,_,_,_],_ => rfl) (fun vs H Q E h => ?_) (fun f cdv A outer s H vs Q E hr h => ?_)
 ·obtain ⟨nm,c,d,ks,rfl,_⟩ := h
  rfl
 ·obtain ⟨nm,c,d,ks,rfl,d0,d1,hk,q⟩ := h
  refine ⟨_,(J2 (Jm (i := 4) J3K.nd rfl (Or.inl rfl) (JB J2X (hr.mono (by decide)) (J0 (Jd JE (pv 3) (Js (l := [45]) (by decide +kernel))) (J0 (Jd JM (pv 1) (pv 2)) J1))))
   (J2 (J1R (JO (Jl J0c (pv 4) (Js (l := []) (by decide +kernel)) (Jq _)) (J9 (Jm (i := 4) J3K.nd rfl (Or.inl rfl) (Js (l := [45]) (by decide +kernel)))) Jw))
   (J9 (Jt (JS (J0 (pv 0) (J0 (Jd JD (pv 1) (pv 2)) (J0 (pv 4) J1)))))))),?_⟩
  walk_at "st"
  clear J2X
  walk_at "rd"
  intro mk H1 s1 lmk
  walk_at "rd"
  refine tCut.mk (fun σ' H' => Here (∃ mk,σ' = [some (T nm),some (.int c),some (.int d),some (T ks),some (T mk)] ∧ H' = H1)) ?_ ?_
  ·walk_at "rd"
   refine ite2 (fun _ => ?_) (fun _ => ?_)
   ·walk_at "rd"
    exact Here.mk ⟨_,rfl,rfl⟩
   ·exact Here.mk ⟨_,rfl,rfl⟩
  rintro σ' H' hv
  obtain ⟨mk,rfl,rfl⟩ := hv.out
  walk_at "rd"
  exact fun t ht => q t _ (s1.trans (Ji ht _))
theorem J8m (tx : Tx K mg Jb Jf Ja Jh J8 Jn J5 J3) : FnG P w K mg base "_law_person" 2 ["_law_script","_law_p","_law_kinds_here"] (JbI K) := by
 have JU := J38 (P := P) (w := w) (base := base) tx
 have J0n := J2L (P := P) (w := w) (base := base) tx
 have J2X := J6F (P := P) (w := w) (base := base) tx
 have J6k := J9Z (P := P) (w := w) (base := base) tx
 refine tx.J87.g J0s (fun _ _ _ _ _ _ us hl => match us,hl with | [_,_,_],_ => rfl) (fun vs H Q E h => ?_) (fun f cdv A outer s H vs Q E hr h => ?_)
 ·obtain ⟨a,ns,p,ks,rfl,_⟩ := h
  rfl
 ·obtain ⟨a,ns,p,ks,rfl,hS,p0,hk,q⟩ := h
  refine ⟨_,(J2 (Jm (i := 3) J0s.nd rfl (Or.inl rfl) (JB JU (hr.mono (by decide)) (J0 (pv 0) (J0 (Jd J0a J6 (pv 1)) J1))))
   (J2 (Jm (i := 4) J0s.nd rfl (Or.inr rfl) (JB J0n (hr.mono (by decide)) (J0 (Jd J0a (pv 3) (pv 1)) (J0 J6 J1))))
   (J2 (Jm (i := 5) J0s.nd rfl (Or.inr rfl) (Jd JE (pv 2) (Js (l := [45]) (by decide +kernel))))
   (J2 (Jm (i := 6) J0s.nd rfl (Or.inl rfl) (J3R (K := K) rfl (Js (l := []) (by decide +kernel)) (J0 (J0p (osc := J4 J11) (ON := ["_law_script","_law_p","_law_kinds_here","_law_cell","_law_numbers","_law_marks","_law_past","_law_carried","_law_skills"]) (N := ["_law_k","_law_marks","_law_numbers"]) (js := [none,some 5,some 4]) ⟨rfl,by decide +kernel,by decide +kernel,by decide +kernel,rfl,by decide +kernel⟩ rfl rfl rfl (J06 rfl tx.J0m (J0 (Jd JD (Jv (Jz (K := K) rfl) (pv 4) J6 (fun _ _ => rfl)) J6) J1)) (fun _ _ _ _ _ => Je (i := 0) (show List.Nodup (["_law_k","_law_marks","_law_numbers"] : List Str) from by decide +kernel) rfl (Or.inl rfl)) (fun _ _ _ _ _ => J0A) (fun _ _ _ _ _ => (Jv J0B (pv 1) (Jd JD (Jd JM (Jv (Jz (K := K) rfl) (pv 2) J6 (fun _ _ => rfl)) (Jd J0a J6 (Jd J3b J6 (pv 0)))) (Ju JX rfl tx.J05 PySem.boot_len (J0 (pv 1) J1))) (fun _ _ => rfl)))) J1)))
   (J2 (Jm (i := 7) J0s.nd rfl (Or.inl rfl) (Jd JD (Jd JM (pv 3) J6) (Jd Jff J6 J6)))
   (J2 (J1R (JO (Jl J0c (Jd JD (pv 3) J6) J6 (Jq _)) (J9 (Jm (i := 7) J0s.nd rfl (Or.inl rfl) (Jd JD (Jv (Jz (K := K) rfl) (pv 4) J6 (fun _ _ => rfl)) J6))) Jw))
   (J2 (Jm (i := 8) J0s.nd rfl (Or.inl rfl) (JB J2X (hr.mono (by decide)) (J0 (pv 2) (J0 (Jv (Jz (K := K) rfl) (pv 4) J6 (fun _ _ => rfl)) J1))))
   (J9 (Jt (JS (J0 (JB J6k (hr.mono (by decide)) (J0 (JB JU (hr.mono (by decide)) (J0 (pv 0) (J0 J6 J1))) (J0 (pv 1) J1))) (J0 (pv 8) (J0 (Jd JD (Jd JM (Jv (Jz (K := K) rfl) (pv 4) J6 (fun _ _ => rfl)) J6) J6) (J0 (pv 7) (J0 (pv 6) J1))))))))))))))),?_⟩
  walk_at "st"
  clear JU J0n J2X J6k
  walk_at "rd"
  intro st H1 xs s1 nst hst hxs
  obtain ⟨x0,e0,_⟩ := J5s xs 0 (by decide) (by omega)
  obtain ⟨x1,e1,_⟩ := J5s xs 1 (by decide) (by omega)
  obtain ⟨x2,e2,_⟩ := J5s xs 2 (by decide) (by omega)
  have m0 : 0 ≤ x1 % 7 := Int.emod_nonneg _ (by decide)
  have m1 : x1 % 7 < 7 := Int.emod_lt_of_pos _ (by decide)
  walk_at "rd"
  refine J9L (fun _ y => ∃ c,y = T [c]) (J0L 0 (x1 % 7).toNat) ?_ (fun x hx H' s' R hR => ?_) (fun D H2 ys nD s2 hlen hP hD => ?_)
  ·rw [List.length_map,List.length_range]; omega
  ·obtain ⟨k,hk',rfl⟩ := List.mem_map.mp hx
   have hk' := List.mem_range.mp hk'
   have hst' := s' _ _ hst
   obtain ⟨c,hc,_⟩ := J2C (ks ++ [45]) (x1 / (7 + 5 * (0 + (k : Int))) % ((ks ++ [45]).length : Int)) (Int.emod_nonneg _ (by rw [List.length_append,List.length_singleton]; omega)) (Int.emod_lt_of_pos _ (by rw [List.length_append,List.length_singleton]; omega))
   have hlp : (0 : Int) < ((ks ++ [45]).length : Int) := by rw [List.length_append,List.length_singleton]; omega
   walk_at "rd"
   exact hR _ H' ⟨c,rfl⟩ (Same.refl _)
  rw [List.length_map,List.length_range] at hlen
  obtain ⟨l,rfl,hcs⟩ := J6K (ys := ys) fun y hy => by
   obtain ⟨i,hi,rfl⟩ := List.mem_iff_getElem.mp hy
   exact hP i _ _ (List.getElem?_eq_getElem (by rw [List.length_map,List.length_range]; omega)) (List.getElem?_eq_getElem hi)
  have hjl : (((l.map fun c => [c]).map List.length).sum + (l.map fun c => [c]).length * ([] : List Nat).length ≤ 16777216) := by
   rw [J3h,List.length_map,List.length_nil,Nat.mul_zero]
   omega
  have hD3 : SqL K H2 D ((l.map fun c => [c]).map T) := SqL.of hD
  have p40 : CPow 10 40 := ⟨by decide,by decide,by decide⟩
  have z40 : (0 : Int) < 10 ^ (40 : Int).toNat := by decide
  have hst2 := s2 _ _ hst
  have hll : l.length ≤ 7 := by omega
  walk_at "rd"
  rw [J2S,J2R]
  clear hP hD hD3 hjl hcs hlen
  walk_at "rd"
  refine tCut.mk (fun σ' H' => Here (∃ car,σ' = [some (.ref a),some (.int p),some (T ks),some (.int (J0i ns (4 + p))),some (.ref st),some (T (ks ++ [45])),some (T l),some (.int car),none] ∧ H' = H2)) ?_ ?_
  ·walk_at "rd"
   refine ite2 (fun _ => ?_) (fun _ => ?_)
   ·walk_at "rd"
    exact Here.mk ⟨_,rfl,rfl⟩
   ·exact Here.mk ⟨_,rfl,rfl⟩
  rintro σ' H' hv
  obtain ⟨car,rfl,rfl⟩ := hv.out
  walk_at "rd"
  intro sk H3 s3 lsk
  have t3 := (s1.trans s2).trans s3
  have hS3 := t3.seq hS
  walk_at "rd"
  intro H4 s4
  have hst4 := s4 _ _ (s3 _ _ hst2)
  walk_at "rd"
  intro t ht
  exact q t _ ⟨J3G (J0i ns 1) p,sk,x2 / 12 % 15,car,l⟩ ((t3.trans s4).trans (Ji ht _)) J7 (by show l.length ≤ 100; omega) rfl
end
structure Rt where
 nm : List Nat
 r : R
 tx : List Nat
noncomputable def RtT : Rt → V → Hp → Prop := fun a y H => ∃ t t2 nx,y = .ref t ∧ H t = some (.tup [T a.nm,.ref t2]) ∧ H t2 = some (.tup [T a.tx,T nx]) ∧ TxR a.r a.tx
theorem RtT.keeps (a : Rt) (y : V) (Ha Hb : Hp) (k : JV Ha Hb) (h : RtT a y Ha) : RtT a y Hb := let ⟨t,t2,nx,e,h1,h2,h3⟩ := h; ⟨t,t2,nx,e,k _ _ h1 (fun zs z => by cases z),k _ _ h2 (fun zs z => by cases z),h3⟩
noncomputable abbrev JcP : List Nat := [119,105,116,104]
noncomputable def PrG (ps : List Ps) (p : Pr) : Prop := PrIn ps p ∧ (p.wd = J5A ∨ p.wd = JcP)
noncomputable def Nms (c : Int) (ps : List Ps) : Prop := ps.length ≤ 8 ∧ ∀ (i : Nat) (n : Ps),ps[i]? = some n → n.past.length ≤ 100 ∧ n.nm = J3G c (i : Int)
theorem Nms.first {c : Int} {ps : List Ps} (h : Nms c ps) {i : Nat} {n : Ps} (hi : ps[i]? = some n) : (ps.map (·.nm))[i]? = some n.nm ∧ ∀ j < i,¬ (ps.map (·.nm))[j]? = some n.nm := by
 refine ⟨by rw [List.getElem?_map,hi]; rfl,fun j hj z => ?_⟩
 rw [List.getElem?_map] at z
 cases e : ps[j]? with
 | none => rw [e] at z; cases z
 | some m =>
  rw [e] at z
  have z' : m.nm = n.nm := Option.some.inj z
  have il := (List.getElem?_eq_some_iff.mp hi).1
  have h8 := h.1
  rw [(h.2 j m e).2,(h.2 i n hi).2] at z'
  have := Jcg ⟨by omega,by omega⟩ ⟨by omega,by omega⟩ z'
  omega
structure PInv (H0 H : Hp) (ps : List Ps) (a1 a2 a3 a4 : Addr) (b1 b2 b3 b4 : Nat) : Prop where
 ex : ∃ (ls : List (List Nat × Int)) (zs ws : List V) (rts : List Rt) (rs : List V) (prs : List Pr) (qs : List V),H a1 = some (.lst zs) ∧ All2 LvT H ls zs ∧ H a2 = some (.lst ws) ∧ H a3 = some (.lst rs) ∧ All2 RtT H rts rs ∧ H a4 = some (.lst qs) ∧ All2 PrT H prs qs ∧ (∀ p ∈ prs,PrG ps p) ∧ zs.length ≤ b1 ∧ ws.length ≤ b2 ∧ rs.length ≤ b3 ∧ qs.length ≤ b4 ∧ rs.length ≤ 8 ∧ qs.length ≤ 8
 sm : Same H0 H
theorem PInv.same {H0 H H' : Hp} {ps : List Ps} {a1 a2 a3 a4 : Addr} {b1 b2 b3 b4 : Nat} (x : PInv H0 H ps a1 a2 a3 a4 b1 b2 b3 b4) (s : Same H H') : PInv H0 H' ps a1 a2 a3 a4 b1 b2 b3 b4 := by
 obtain ⟨⟨ls,zs,ws,rts,rs,prs,qs,h1,h2,h3,h4,h4',h5,h5',h6⟩,sm⟩ := x
 exact ⟨⟨ls,zs,ws,rts,rs,prs,qs,s _ _ h1,h2.imp fun a y => LvT.keeps a y _ _ s.keeps,s _ _ h3,s _ _ h4,h4'.imp fun a y => RtT.keeps a y _ _ s.keeps,s _ _ h5,h5'.imp fun a y => PrT.keeps a y _ _ s.keeps,h6⟩,sm.trans s⟩
theorem PInv.up {H0 H : Hp} {ps : List Ps} {a1 a2 a3 a4 : Addr} {b1 b2 b3 b4 c1 c2 c3 c4 : Nat} (x : PInv H0 H ps a1 a2 a3 a4 b1 b2 b3 b4) (h1 : b1 ≤ c1) (h2 : b2 ≤ c2) (h3 : b3 ≤ c3) (h4 : b4 ≤ c4) : PInv H0 H ps a1 a2 a3 a4 c1 c2 c3 c4 := by
 obtain ⟨⟨ls,zs,ws,rts,rs,prs,qs,g1,g2,g3,g4,g4',g5,g5',gg,g6,g7,g8,g9,g10,g11⟩,sm⟩ := x
 exact ⟨⟨ls,zs,ws,rts,rs,prs,qs,g1,g2,g3,g4,g4',g5,g5',gg,by omega,by omega,by omega,by omega,g10,g11⟩,sm⟩
noncomputable def JcA (K : PySem.W.Frag) : Sp := fun vs H Q _ => ∃ (a : Addr) (ns : List Int),vs = [.ref a] ∧ SqL K H a (ns.map V.int) ∧ ns.length ≤ 63 ∧
 ∀ (t : Addr) (H' : Hp) (c d : Int) (ks : List Nat) (nds : List Nd) (ps : List Ps) (ls : List (List Nat × Int)) (a1 a2 a3 a4 a5 a6 : Addr) (xs ys zs ws : List V) (rts : List Rt) (rs : List V) (prs : List Pr) (qs : List V),Same H H' → H' t = some (.tup [.int d,T ks,.ref a1,.ref a2,.ref a3,.ref a4,.ref a5,.ref a6]) →
  H' a1 = some (.lst xs) → All2 NdAt H' nds xs → H' a2 = some (.lst ys) → All2 PsT H' ps ys → H' a3 = some (.lst zs) → All2 LvT H' ls zs → H' a4 = some (.lst ws) → H' a5 = some (.lst rs) → All2 RtT H' rts rs → H' a6 = some (.lst qs) → All2 PrT H' prs qs → (∀ p ∈ prs,PrG ps p) →
  1 ≤ d → d ≤ 14 → 1 ≤ ks.length → ks.length ≤ 4 → Nms c ps → rs.length ≤ 8 → qs.length ≤ 8 → Q (.ref t) H'
section
variable {P : Program} {w : World} {K : PySem.W.Frag} {mg : Str → Option Value} {base : Heap} {Jb Jf Ja Jh J8 Jn J5 J3 : Addr}
theorem J9g (tx : Tx K mg Jb Jf Ja Jh J8 Jn J5 J3) : FnG P w K mg base "_law_parts" 3 ["_law_script"] (JcA K) := by
 have JU := J38 (P := P) (w := w) (base := base) tx
 have J5M := J9c (P := P) (w := w) (base := base) tx
 have J5J := J9m (P := P) (w := w) (base := base) tx
 have J4N := J8m (P := P) (w := w) (base := base) tx
 have J6m := Jae (P := P) (w := w) (base := base) tx
 have J6s := Jab (P := P) (w := w) (base := base) tx
 refine tx.J8U.g JR (fun _ _ _ _ _ _ us hl => match us,hl with | [_],_ => rfl) (fun vs H Q E h => ?_) (fun f cdv A outer s H vs Q E hr h => ?_)
 ·obtain ⟨a,ns,rfl,_⟩ := h
  rfl
 ·obtain ⟨sc,ns,rfl,hS,hns,q⟩ := h
  refine ⟨_,(J2 (Jm (i := 1) JR.nd rfl (Or.inl rfl) (Jd J0a J6 (Jd JD (JB JU (hr.mono (by decide)) (J0 (pv 0) (J0 J6 J1))) J6)))
   (J2 (Jm (i := 2) JR.nd rfl (Or.inr rfl) (JB J5M (hr.mono (by decide)) (J0 (JB JU (hr.mono (by decide)) (J0 (pv 0) (J0 J6 J1))) J1)))
   (J2 (Jm (i := 3) JR.nd rfl (Or.inl rfl) (JJ (J0Z (K := K) rfl) (JB J5J (hr.mono (by decide)) (J0 (JB JU (hr.mono (by decide)) (J0 (pv 0) (J0 J6 J1))) (J0 (pv 1) (J0 (pv 2) J1)))) J09 (JT (Jd JD (Jd JM (JB JU (hr.mono (by decide)) (J0 (pv 0) (J0 J6 J1))) J6) J6))))
   (J2 (Jm (i := 4) JR.nd rfl (Or.inl rfl) (Jd JD (JB JU (hr.mono (by decide)) (J0 (pv 0) (J0 J6 J1))) J6))
   (J2 (J44 (k := 5) (osc := J4 J1q) (ON := ["_law_script","_law_days","_law_kinds_here","_law_needs_here","_law_many","_law_persons","_law_leave","_law_wishes","_law_rules","_law_pairs","_law_cell","_law_name_here","_law_other"]) (N := ["_law_p","_law_script","_law_kinds_here"]) (js := [none,some 0,some 2]) JR.nd rfl (Or.inl rfl) ⟨rfl,by decide +kernel,by decide +kernel,by decide +kernel,rfl,by decide +kernel⟩ rfl rfl rfl (J06 rfl tx.J0m (J0 (pv 4) J1)) (fun _ _ _ _ _ => Je (i := 0) (show List.Nodup (["_law_p","_law_script","_law_kinds_here"] : List Str) from by decide +kernel) rfl (Or.inl rfl)) (fun _ _ _ _ _ => J0A) (fun _ _ _ _ _ => (JB J4N (hr.mono (by decide)) (J0 (pv 1) (J0 (pv 0) (J0 (pv 2) J1))))))
   (J2 (Jm (i := 6) JR.nd rfl (Or.inl rfl) (J0b J1))
   (J2 (Jm (i := 7) JR.nd rfl (Or.inl rfl) (J0b J1))
   (J2 (Jm (i := 8) JR.nd rfl (Or.inl rfl) (J0b J1))
   (J2 (Jm (i := 9) JR.nd rfl (Or.inl rfl) (J0b J1))
   (J2 (J0E PassesOwn.never rfl (J0J (K := K) rfl (JJ (J0Z (K := K) rfl) (pv 0) (JT J6) (JT J6))) (Je (i := 10) JR.nd rfl (Or.inl rfl)) (J2 (Jm (i := 11) JR.nd rfl (Or.inl rfl) (Js (l := [97,108,108]) (by decide +kernel)))
   (J2 (J1R (JO (Jl J3m (pv 4) J6 (Jq _)) (J9 (Jm (i := 11) JR.nd rfl (Or.inl rfl) (Jv (JZ (K := K) rfl) (Jv (Jz (K := K) rfl) (pv 5) (Jd JD (Jd JM (pv 10) J6) (pv 4)) (fun _ _ => rfl)) J6 (fun _ _ => rfl)))) Jw))
   (J2 (Jm (i := 12) JR.nd rfl (Or.inl rfl) (pv 11))
   (J2 (J1R (JO (Jl J3m (pv 4) J6 (Jq _)) (J9 (Jm (i := 12) JR.nd rfl (Or.inl rfl) (Jv (JZ (K := K) rfl) (Jv (Jz (K := K) rfl) (pv 5) (Jd JD (Jd J0a (Jd J0a (Jd JM (pv 10) J6) J6) (Jd JD (Jd JM (pv 10) J6) (Jd JaD (pv 4) J6))) (pv 4)) (fun _ _ => rfl)) J6 (fun _ _ => rfl)))) Jw))
   (J2 (J1R (JO (PW.pt (J1x (Jl J0c (Jd JD (pv 10) J6) J6 (Jq _)) (J1N (Jl J3m (pv 4) J6 (Jq _))))) (J9 (J0D (J1O PySem.F.plainAttrs_list PySem.F.slot_list_append PySem.F.type_list_append JW (pv 6) (J0 (JS (J0 (pv 11) (J0 (Jd JD (Jd JM (pv 10) J6) (pv 1)) J1))) J1)))) Jw))
   (J2 (J1R (JO (PW.pt (J1x (Jl J0c (Jd JD (pv 10) J6) J6 (Jq _)) (J1N (Jl J3m (pv 4) J6 (Jq _))))) (J9 (J0D (J1O PySem.F.plainAttrs_list PySem.F.slot_list_append PySem.F.type_list_append JW (pv 7) (J0 (JB J6m (hr.mono (by decide)) (J0 (pv 11) (J0 (Jd JM (pv 10) J6) (J0 (pv 1) (J0 (pv 2) J1))))) J1)))) Jw))
   (J2 (J1R (JO (PW.pt (J1x (Jl J0c (Jd JD (pv 10) J6) J6 (Jq _)) (J1N (Jl J5Q (Ju (JH (K := K) rfl) rfl tx.J05 PySem.boot_len (J0 (pv 8) J1)) J6 (Jq _))))) (J9 (J0D (J1O PySem.F.plainAttrs_list PySem.F.slot_list_append PySem.F.type_list_append JW (pv 8) (J0 (JS (J0 (Jv (Jz (K := K) rfl) (J0b (J0 (pv 11) (J0 (Js (l := [97,108,108]) (by decide +kernel)) J1))) (Jd JD (Jd JM (pv 10) J6) J6) (fun _ _ => rfl)) (J0 (JB J6s (hr.mono (by decide)) (J0 (Jd JM (pv 10) J6) J1)) J1))) J1)))) Jw))
   (J9 (J1R (JO (PW.pt (J1x (Jl J0c (Jd JD (pv 10) J6) J6 (Jq _)) (J1x (Jl J3m (pv 4) J6 (Jq _)) (J1N (Jl J5Q (Ju (JH (K := K) rfl) rfl tx.J05 PySem.boot_len (J0 (pv 9) J1)) J6 (Jq _)))))) (J9 (J0D (J1O PySem.F.plainAttrs_list PySem.F.slot_list_append PySem.F.type_list_append JW (pv 9) (J0 (JS (J0 (Jv (Jz (K := K) rfl) (J0b (J0 (Js (l := [97,112,97,114,116]) (by decide +kernel)) (J0 (Js (l := [119,105,116,104]) (by decide +kernel)) J1))) (Jd JD (Jd JM (pv 10) J6) J6) (fun _ _ => rfl)) (J0 (pv 11) (J0 (pv 12) J1)))) J1)))) Jw)))))))))))
   (J9 (Jt (JS (J0 (pv 1) (J0 (pv 2) (J0 (pv 3) (J0 (pv 5) (J0 (pv 6) (J0 (pv 7) (J0 (pv 8) (J0 (pv 9) J1))))))))))))))))))))),?_⟩
  walk_at "st"
  clear JU J5M J5J J4N J6m J6s
  have d0 : 0 ≤ J0i ns 0 % 14 := Int.emod_nonneg _ (by decide)
  have d1 : J0i ns 0 % 14 < 14 := Int.emod_lt_of_pos _ (by decide)
  have m0 : 0 ≤ J0i ns 3 % 9 := Int.emod_nonneg _ (by decide)
  have m1 : J0i ns 3 % 9 < 9 := Int.emod_lt_of_pos _ (by decide)
  have n0 : 0 ≤ J0i ns 0 / 14 % 20 := Int.emod_nonneg _ (by decide)
  have kl := JaX (J0i ns 1)
  walk_at "rd"
  intro H1 s1
  have hS1 := s1.seq hS
  generalize J74 (J0i ns 1) = ks at kl ⊢
  generalize J0i ns 0 % 14 = d at d0 d1 ⊢
  walk_at "rd"
  intro nl0 H2 nds nxs s2 nnl hnl hN
  have hS2 := (s1.trans s2).seq hS
  walk_at "rd"
  intro nl nnl2
  obtain ⟨H3,e3,hnl3,s3⟩ := newl (xs := cutV nxs none (some (J0i ns 0 / 14 % 20))) nnl2
  rw [← e3]
  have hN3 : All2 NdAt H3 (nds.take (J0i ns 0 / 14 % 20).toNat) (cutV nxs none (some (J0i ns 0 / 14 % 20))) := by
   have e : cutV nxs none (some (J0i ns 0 / 14 % 20)) = nxs.take (J0i ns 0 / 14 % 20).toNat := J4u nxs _ n0
   rw [e]
   exact All2.takeL _ (hN.imp fun a y => NdAt.keeps a y _ _ s3.keeps)
  generalize nds.take (J0i ns 0 / 14 % 20).toNat = nds at hN3
  generalize cutV nxs none (some (J0i ns 0 / 14 % 20)) = nxs at hN3 hnl3 e3
  have t3 := (s1.trans s2).trans s3
  have hS3 := t3.seq hS
  clear hN hnl nnl s1 s2 s3 e3 nnl2 hS1 hS2 n0
  walk_at "rd"
  generalize J0i ns 3 % 9 = m at m0 m1 ⊢
  refine J0k (vs := (List.range m.toNat).map fun (i : Nat) => V.int (0 + (i : Int))) ((List.range m.toNat).map fun (i : Nat) => (0 + (i : Int))) (fun _ => true) (fun a y H => ∃ n : Ps,PsT n y H ∧ n.past.length ≤ 100 ∧ n.nm = J3G (J0i ns 1) a) (fun σ => ∃ v,σ = [v,some (.ref sc),some (T ks)]) (J0L 0 m.toNat) (by rw [List.length_map,List.length_map]) (by rw [List.length_map,List.length_range]; omega) ⟨_,rfl⟩ (fun a y Ha Hb k h => let ⟨n,g,l⟩ := h; ⟨n,g.keeps _ _ _ _ k,l⟩) (fun i a v σ H' ha hv hσ s' Rf Rt _ hR => ?_) (fun pl H4 ys npl s4 hys hpl => ?_)
  ·obtain ⟨w1,rfl⟩ := hσ
   have ha' := List.mem_of_getElem? ha
   obtain ⟨j,hj,rfl⟩ := List.mem_map.mp ha'
   have hv' : v = .int (0 + (j : Int)) := by
    rw [List.getElem?_map] at ha hv
    cases e : (List.range m.toNat)[i]? with
    | none => rw [e] at ha; cases ha
    | some x =>
     rw [e] at ha hv
     have z1 : (0 + (x : Int)) = 0 + (j : Int) := Option.some.inj ha
     have z2 : V.int (0 + (x : Int)) = v := Option.some.inj hv
     rw [← z2,z1]
   subst hv'
   have hS' := s'.seq hS3
   have j0 : (0 : Int) ≤ 0 + (j : Int) := by omega
   walk_at "rd"
   exact fun t H5 n s5 ht hp hn => hR _ _ _ rfl ⟨_,rfl⟩ s5 ⟨n,⟨t,rfl,ht⟩,hp,hn⟩
  rw [List.filter_eq_self.mpr fun _ _ => rfl] at hys
  obtain ⟨ps,hP,hpl8,hpp⟩ : ∃ ps : List Ps,All2 PsT H4 ps ys ∧ ps.length = m.toNat ∧ ∀ (i : Nat) (n : Ps),ps[i]? = some n → n.past.length ≤ 100 ∧ n.nm = J3G (J0i ns 1) (i : Int) := by
   have key : ∀ (as : List Int) (ys : List V),All2 (fun a y H => ∃ n : Ps,PsT n y H ∧ n.past.length ≤ 100 ∧ n.nm = J3G (J0i ns 1) a) H4 as ys → ∃ ps : List Ps,All2 PsT H4 ps ys ∧ ps.length = as.length ∧ ∀ (i : Nat) (a : Int) (n : Ps),as[i]? = some a → ps[i]? = some n → n.past.length ≤ 100 ∧ n.nm = J3G (J0i ns 1) a := by
    intro as
    induction as with
    | nil => intro ys h; cases ys with | nil => exact ⟨[],trivial,rfl,fun i a n hn => by simp at hn⟩ | cons _ _ => exact h.elim
    | cons a r ih =>
     intro ys h
     cases ys with
     | nil => exact h.elim
     | cons y r' =>
      obtain ⟨⟨n,g,l,nn⟩,h2⟩ := h
      obtain ⟨ps,z1,z2,z3⟩ := ih r' h2
      refine ⟨n :: ps,⟨g,z1⟩,by simp [z2],fun i b x hb hx => ?_⟩
      cases i with
      | zero =>
       cases hb
       cases hx
       exact ⟨l,nn⟩
      | succ i => exact z3 i b x hb hx
   obtain ⟨ps,z1,z2,z3⟩ := key _ _ hys
   rw [List.length_map,List.length_range] at z2
   refine ⟨ps,z1,z2,fun i n hn => ?_⟩
   have hi := (List.getElem?_eq_some_iff.mp hn).1
   have ha : ((List.range m.toNat).map fun (i : Nat) => (0 + (i : Int)))[i]? = some (0 + (i : Int)) := by rw [List.getElem?_map,List.getElem?_range (by omega)]; rfl
   have := z3 i _ n ha hn
   rwa [Int.zero_add] at this
  have hNms : Nms (J0i ns 1) ps := ⟨by omega,hpp⟩
  have t4 := t3.trans s4
  have hnl4 := s4 _ _ hnl3
  have hN4 := hN3.imp fun a y => NdAt.keeps a y _ _ s4.keeps
  clear hys hnl3 hN3 hS3 s4 t3 npl
  walk_at "rd"
  intro ll n1
  obtain ⟨Ha,ea,a1,ta⟩ := newl (xs := []) n1
  rw [← ea]
  walk_at "rd"
  intro wl n2
  obtain ⟨Hb,eb,b1,tb⟩ := newl (xs := []) n2
  rw [← eb]
  walk_at "rd"
  intro rl n3
  obtain ⟨Hc,ec,c1,tc⟩ := newl (xs := []) n3
  rw [← ec]
  walk_at "rd"
  intro ql n4
  obtain ⟨Hd,ed,dd1,td⟩ := newl (xs := []) n4
  rw [← ed]
  have y12 : ll ≠ wl := Jc a1 n2
  have y13 : ll ≠ rl := Jc (tb _ _ a1) n3
  have y14 : ll ≠ ql := Jc ((tb.trans tc) _ _ a1) n4
  have y23 : wl ≠ rl := Jc b1 n3
  have y24 : wl ≠ ql := Jc (tc _ _ b1) n4
  have y34 : rl ≠ ql := Jc c1 n4
  have f1 : H4 ll = none := n1
  have f2 : H4 wl = none := ta.free n2
  have f3 : H4 rl = none := (ta.trans tb).free n3
  have f4 : H4 ql = none := ((ta.trans tb).trans tc).free n4
  have I0 : PInv H4 Hd ps ll wl rl ql 0 0 0 0 := ⟨⟨[],[],[],[],[],[],[],((tb.trans tc).trans td) _ _ a1,trivial,(tc.trans td) _ _ b1,td _ _ c1,trivial,dd1,trivial,fun p hp => absurd hp List.not_mem_nil,Nat.le_refl _,Nat.le_refl _,Nat.le_refl _,Nat.le_refl _,Nat.zero_le _,Nat.zero_le _⟩,((ta.trans tb).trans tc).trans td⟩
  have hSd := (t4.trans I0.sm).seq hS
  clear ea eb ec ed a1 b1 c1 dd1 ta tb tc td n1 n2 n3 n4
  walk_at "rd"
  intro cl ncl
  rw [J9S]
  obtain ⟨He,ee,hcl,se⟩ := newl (xs := (cutN ns (some 12) (some 64)).map V.int) ncl
  rw [← ee]
  have lcs : (cutN ns (some 12) (some 64)).length ≤ 63 := Nat.le_trans (J2M ns _ _) hns
  generalize cutN ns (some 12) (some 64) = cs at lcs hcl ee ⊢
  have I1 := I0.same se
  have nc : ∀ {a : Addr} {o : HO},Hd a = some o → cl ≠ a := fun e => (Jc e ncl).symm
  obtain ⟨nc1,nc2,nc3,nc4⟩ : cl ≠ ll ∧ cl ≠ wl ∧ cl ≠ rl ∧ cl ≠ ql := by
   obtain ⟨ls,zs,ws,rts,rs,prs,qs,g1,g2,g3,g4,g4',g5,_⟩ := I0.ex
   exact ⟨nc g1,nc g3,nc g4,nc g5⟩
  clear I0 nc se ee ncl hSd
  have hlp := hP.len
  walk_at "rd"
  refine J3V (K := K) (xs := cs.map V.int) (fun i σ H5 => Here (∃ v1 v2 v3,σ = [some (.ref sc),some (.int (1 + d)),some (T ks),some (.ref nl),some (.int m),some (.ref pl),some (.ref ll),some (.ref wl),some (.ref rl),some (.ref ql),v1,v2,v3] ∧ PInv H4 H5 ps ll wl rl ql i i i i ∧ H5 cl = some (.lst (cs.map V.int)))) (Here.mk ⟨none,none,none,rfl,I1,hcl⟩) (fun i σ H5 _ hv => by obtain ⟨_,_,_,_,_,e⟩ := hv.out; exact SqL.of e) ?_ ?_
  ·rintro i x σ H5 hx hv
   obtain ⟨v1,v2,v3,rfl,I5,hcl5⟩ := hv.out
   have hi : i < cs.length := by have := (List.getElem?_eq_some_iff.mp hx).1; rwa [List.length_map] at this
   obtain ⟨z,rfl⟩ : ∃ z,x = .int z := by
    obtain ⟨n,_,e⟩ := List.mem_map.mp (List.mem_of_getElem? hx)
    exact ⟨n,e.symm⟩
   have hpl5 := I5.sm _ _ hpl
   have at_ : ∀ k : Int,0 ≤ k → k < m → ∃ (t : Addr) (n : Ps),atI ys k = some (.ref t) ∧ H5 t = some (.tup [T n.nm,T n.sk,.int n.most,.int n.car,T n.past]) ∧ ps[k.toNat]? = some n := fun k k0 k1 => by
    have hn : ps[k.toNat]? = some ps[k.toNat] := List.getElem?_eq_getElem (by omega)
    obtain ⟨y,hy,t,rfl,ht⟩ := hP.get hn
    refine ⟨t,_,?_,I5.sm _ _ ht,hn⟩
    have := J15 hy
    rwa [Int.toNat_of_nonneg k0] at this
   walk_at "rd"
   refine tCut.mk (fun σ' H' => Here (∃ nm,σ' = [some (.ref sc),some (.int (1 + d)),some (T ks),some (.ref nl),some (.int m),some (.ref pl),some (.ref ll),some (.ref wl),some (.ref rl),some (.ref ql),some (.int z),some (T nm),v3] ∧ (0 < m → ∃ (i : Nat) (n : Ps),ps[i]? = some n ∧ n.nm = nm) ∧ H' = H5)) ?_ ?_
   ·walk_at "rd"
    refine ite2 (fun c => ?_) (fun c => ?_)
    ·have c' : 0 < m := of_decide_eq_true c
     obtain ⟨t,n,e1,e2,en⟩ := at_ (z / 5 % m) (Int.emod_nonneg _ (by omega)) (Int.emod_lt_of_pos _ c')
     obtain ⟨e3,_⟩ := at5 (T n.nm) (T n.sk) (.int n.most) (.int n.car) (T n.past)
     walk_at "rd"
     exact Here.mk ⟨_,rfl,fun _ => ⟨_,n,en,rfl⟩,rfl⟩
    ·exact Here.mk ⟨_,rfl,fun y => absurd (decide_eq_true y) c,rfl⟩
   rintro σ' H' hv
   obtain ⟨nm,rfl,hnm,rfl⟩ := hv.out
   walk_at "rd"
   refine tCut.mk (fun σ' H'' => Here (∃ ot,σ' = [some (.ref sc),some (.int (1 + d)),some (T ks),some (.ref nl),some (.int m),some (.ref pl),some (.ref ll),some (.ref wl),some (.ref rl),some (.ref ql),some (.int z),some (T nm),some (T ot)] ∧ (1 < m → ∃ (i : Nat) (n : Ps),ps[i]? = some n ∧ n.nm = ot) ∧ H'' = H')) ?_ ?_
   ·walk_at "rd"
    refine ite2 (fun c => ?_) (fun c => ?_)
    ·have c' : 1 < m := of_decide_eq_true c
     obtain ⟨t,n,e1,e2,en⟩ := at_ ((z / 5 + 1 + z / 40 % (m - 1)) % m) (Int.emod_nonneg _ (by omega)) (Int.emod_lt_of_pos _ (by omega))
     obtain ⟨e3,_⟩ := at5 (T n.nm) (T n.sk) (.int n.most) (.int n.car) (T n.past)
     walk_at "rd"
     exact Here.mk ⟨_,rfl,fun _ => ⟨_,n,en,rfl⟩,rfl⟩
    ·exact Here.mk ⟨_,rfl,fun y => absurd (decide_eq_true y) c,rfl⟩
   rintro σ' H'' hv
   obtain ⟨ot,rfl,hot,rfl⟩ := hv.out
   clear at_ hpl5
   refine tCut.mk (fun σ' H' => Here (σ' = [some (.ref sc),some (.int (1 + d)),some (T ks),some (.ref nl),some (.int m),some (.ref pl),some (.ref ll),some (.ref wl),some (.ref rl),some (.ref ql),some (.int z),some (T nm),some (T ot)] ∧ PInv H4 H' ps ll wl rl ql (i + 1) i i i ∧ H' cl = some (.lst (cs.map V.int)))) ?_ ?_
   ·walk_at "rd"
    refine ite2 (fun c => ?_) (fun c => ?_)
    ·walk_at "rd"
     refine ite2 (fun c2 => ?_) (fun c2 => ?_)
     ·obtain ⟨ls,zs,ws,rts,rs,prs,qs,g1,g2,g3,g4,g4',g5,g5',gg,g6,g7,g8,g9,g10,g11⟩ := I5.ex
      walk_at "rd"
      intro t ht
      obtain ⟨H6,e6,ht6,s6⟩ := newt (xs := [T nm,V.int (z / 40 % (1 + d))]) ht
      rw [← e6]
      have k1 := s6 _ _ g1
      walk_at "rd"
      have kk : JV H6 (upd H6 ll (.lst (zs ++ [.ref t]))) := JP k1
      refine Here.mk ⟨rfl,⟨⟨ls ++ [(nm,z / 40 % (1 + d))],zs ++ [.ref t],ws,rts,rs,prs,qs,J7,All2.snoc (g2.imp fun a y => LvT.keeps a y _ _ (s6.keeps.trans kk)) ⟨t,rfl,kk _ _ ht6 (fun zs z => by cases z)⟩,?_,?_,g4'.imp fun a y => RtT.keeps a y _ _ (s6.keeps.trans kk),?_,g5'.imp fun a y => PrT.keeps a y _ _ (s6.keeps.trans kk),gg,by rw [List.length_append,List.length_singleton]; omega,g7,g8,g9,g10,g11⟩,(I5.sm.trans s6).upd f1⟩,?_⟩
      ·rw [Jg y12.symm]; exact s6 _ _ g3
      ·rw [Jg y13.symm]; exact s6 _ _ g4
      ·rw [Jg y14.symm]; exact s6 _ _ g5
      ·rw [Jg nc1]; exact s6 _ _ hcl5
     ·exact Here.mk ⟨rfl,I5.up (by omega) (Nat.le_refl _) (Nat.le_refl _) (Nat.le_refl _),hcl5⟩
    ·walk_at "rd"
     exact Here.mk ⟨rfl,I5.up (by omega) (Nat.le_refl _) (Nat.le_refl _) (Nat.le_refl _),hcl5⟩
   clear I5 hcl5
   rintro σ' H5 hv
   obtain ⟨rfl,I5,hcl5⟩ := hv.out
   refine tCut.mk (fun σ' H' => Here (σ' = [some (.ref sc),some (.int (1 + d)),some (T ks),some (.ref nl),some (.int m),some (.ref pl),some (.ref ll),some (.ref wl),some (.ref rl),some (.ref ql),some (.int z),some (T nm),some (T ot)] ∧ PInv H4 H' ps ll wl rl ql (i + 1) (i + 1) i i ∧ H' cl = some (.lst (cs.map V.int)))) ?_ ?_
   ·walk_at "rd"
    refine ite2 (fun c => ?_) (fun c => ?_)
    ·walk_at "rd"
     refine ite2 (fun c2 => ?_) (fun c2 => ?_)
     ·obtain ⟨ls,zs,ws,rts,rs,prs,qs,g1,g2,g3,g4,g4',g5,g5',gg,g6,g7,g8,g9,g10,g11⟩ := I5.ex
      walk_at "rd"
      intro t H6 s6
      have k3 := s6 _ _ g3
      walk_at "rd"
      have kk : JV H6 (upd H6 wl (.lst (ws ++ [.ref t]))) := JP k3
      refine Here.mk ⟨rfl,⟨⟨ls,zs,ws ++ [.ref t],rts,rs,prs,qs,?_,g2.imp fun a y => LvT.keeps a y _ _ (s6.keeps.trans kk),J7,?_,g4'.imp fun a y => RtT.keeps a y _ _ (s6.keeps.trans kk),?_,g5'.imp fun a y => PrT.keeps a y _ _ (s6.keeps.trans kk),gg,g6,by rw [List.length_append,List.length_singleton]; omega,g8,g9,g10,g11⟩,(I5.sm.trans s6).upd f2⟩,?_⟩
      ·rw [Jg y12]; exact s6 _ _ g1
      ·rw [Jg y23.symm]; exact s6 _ _ g4
      ·rw [Jg y24.symm]; exact s6 _ _ g5
      ·rw [Jg nc2]; exact s6 _ _ hcl5
     ·exact Here.mk ⟨rfl,I5.up (Nat.le_refl _) (by omega) (Nat.le_refl _) (Nat.le_refl _),hcl5⟩
    ·walk_at "rd"
     exact Here.mk ⟨rfl,I5.up (Nat.le_refl _) (by omega) (Nat.le_refl _) (Nat.le_refl _),hcl5⟩
   clear I5 hcl5
   rintro σ' H5 hv
   obtain ⟨rfl,I5,hcl5⟩ := hv.out
   refine tCut.mk (fun σ' H' => Here (σ' = [some (.ref sc),some (.int (1 + d)),some (T ks),some (.ref nl),some (.int m),some (.ref pl),some (.ref ll),some (.ref wl),some (.ref rl),some (.ref ql),some (.int z),some (T nm),some (T ot)] ∧ PInv H4 H' ps ll wl rl ql (i + 1) (i + 1) (i + 1) i ∧ H' cl = some (.lst (cs.map V.int)))) ?_ ?_
   ·have I6 := I5
    obtain ⟨ls,zs,ws,rts,rs,prs,qs,g1,g2,g3,g4,g4',g5,g5',gg,g6,g7,g8,g9,g10,g11⟩ := I6.ex
    walk_at "rd"
    refine ite2 (fun c => ?_) (fun c => ?_)
    ·walk_at "rd"
     refine ite2 (fun c2 => ?_) (fun c2 => ?_)
     ·obtain ⟨wd,hw,_⟩ := JaO nm [97,108,108] (z / 5 % 2) (Int.emod_nonneg _ (by decide)) (Int.emod_lt_of_pos _ (by decide))
      walk_at "rd"
      intro p hp
      walk_at "rd"
      intro t H6 rr tx nx s6 ht6 hx6
      walk_at "rd"
      intro t2 ht2
      have s7 : Same H5 (upd H6 t2 (.tup [T wd,V.ref t])) := ((Ji hp _).trans s6).trans (Ji ht2 _)
      have k4 := s7 _ _ g4
      walk_at "rd"
      have kk : JV (upd H6 t2 (.tup [T wd,V.ref t])) (upd (upd H6 t2 (.tup [T wd,V.ref t])) rl (.lst (rs ++ [.ref t2]))) := JP k4
      have c2' : (rs.length : Int) < 8 := of_decide_eq_true c2
      have ht2' : upd H6 t2 (.tup [T wd,V.ref t]) t = some (.tup [T tx,T nx]) := Ji ht2 _ _ _ ht6
      refine Here.mk ⟨rfl,⟨⟨ls,zs,ws,rts ++ [⟨wd,rr,tx⟩],rs ++ [.ref t2],prs,qs,?_,g2.imp fun a y => LvT.keeps a y _ _ (s7.keeps.trans kk),?_,J7,All2.snoc (g4'.imp fun a y => RtT.keeps a y _ _ (s7.keeps.trans kk)) ⟨t2,t,nx,rfl,kk _ _ J7 (fun zs z => by cases z),kk _ _ ht2' (fun zs z => by cases z),hx6⟩,?_,g5'.imp fun a y => PrT.keeps a y _ _ (s7.keeps.trans kk),gg,g6,g7,by rw [List.length_append,List.length_singleton]; omega,g9,by rw [List.length_append,List.length_singleton]; omega,g11⟩,(I5.sm.trans s7).upd f3⟩,?_⟩
      ·rw [Jg y13]; exact s7 _ _ g1
      ·rw [Jg y23]; exact s7 _ _ g3
      ·rw [Jg y34.symm]; exact s7 _ _ g5
      ·rw [Jg nc3]; exact s7 _ _ hcl5
     ·exact Here.mk ⟨rfl,I5.up (Nat.le_refl _) (Nat.le_refl _) (by omega) (Nat.le_refl _),hcl5⟩
    ·walk_at "rd"
     exact Here.mk ⟨rfl,I5.up (Nat.le_refl _) (Nat.le_refl _) (by omega) (Nat.le_refl _),hcl5⟩
   clear I5 hcl5
   rintro σ' H5 hv
   obtain ⟨rfl,I5,hcl5⟩ := hv.out
   refine tCut.mk (fun σ' H' => Here (σ' = [some (.ref sc),some (.int (1 + d)),some (T ks),some (.ref nl),some (.int m),some (.ref pl),some (.ref ll),some (.ref wl),some (.ref rl),some (.ref ql),some (.int z),some (T nm),some (T ot)] ∧ PInv H4 H' ps ll wl rl ql (i + 1) (i + 1) (i + 1) (i + 1) ∧ H' cl = some (.lst (cs.map V.int)))) ?_ (fun σ' H' hv => by obtain ⟨e,i1,e2⟩ := hv.out; exact Here.mk ⟨_,_,_,e,i1,e2⟩)
   have I6 := I5
   obtain ⟨ls,zs,ws,rts,rs,prs,qs,g1,g2,g3,g4,g4',g5,g5',gg,g6,g7,g8,g9,g10,g11⟩ := I6.ex
   have no : Here ([some (.ref sc),some (.int (1 + d)),some (T ks),some (.ref nl),some (.int m),some (.ref pl),some (.ref ll),some (.ref wl),some (.ref rl),some (.ref ql),some (.int z),some (T nm),some (T ot)] = [some (.ref sc),some (.int (1 + d)),some (T ks),some (.ref nl),some (.int m),some (.ref pl),some (.ref ll),some (.ref wl),some (.ref rl),some (.ref ql),some (.int z),some (T nm),some (T ot)] ∧ PInv H4 H5 ps ll wl rl ql (i + 1) (i + 1) (i + 1) (i + 1) ∧ H5 cl = some (.lst (cs.map V.int))) := Here.mk ⟨rfl,I5.up (Nat.le_refl _) (Nat.le_refl _) (Nat.le_refl _) (by omega),hcl5⟩
   walk_at "rd"
   refine ite2 (fun c => ?_) (fun c => ?_)
   ·walk_at "rd"
    refine ite2 (fun c2 => ?_) (fun c2 => ?_)
    ·walk_at "rd"
     refine ite2 (fun c3 => ?_) (fun c3 => ?_)
     ·obtain ⟨wd,hw,hwo⟩ := JaO [97,112,97,114,116] [119,105,116,104] (z / 320 % 2) (Int.emod_nonneg _ (by decide)) (Int.emod_lt_of_pos _ (by decide))
      walk_at "rd"
      intro p hp
      walk_at "rd"
      intro t2 ht2
      have s7 : Same H5 (upd (upd H5 p (.lst [T [97,112,97,114,116],T [119,105,116,104]])) t2 (.tup [T wd,T nm,T ot])) := (Ji hp _).trans (Ji ht2 _)
      have k5 := s7 _ _ g5
      walk_at "rd"
      have kk : JV (upd (upd H5 p (.lst [T [97,112,97,114,116],T [119,105,116,104]])) t2 (.tup [T wd,T nm,T ot])) (upd (upd (upd H5 p (.lst [T [97,112,97,114,116],T [119,105,116,104]])) t2 (.tup [T wd,T nm,T ot])) ql (.lst (qs ++ [.ref t2]))) := JP k5
      have c2' : 1 < m := of_decide_eq_true c2
      have c3' : (qs.length : Int) < 8 := of_decide_eq_true c3
      obtain ⟨i1,n1,hi1,en1⟩ := hnm (by omega)
      obtain ⟨i2,n2,hi2,en2⟩ := hot c2'
      have pin : PrG ps ⟨wd,nm,ot,i1,i2⟩ := ⟨⟨by rw [← en1]; exact hNms.first hi1,by rw [← en2]; exact hNms.first hi2⟩,hwo⟩
      refine Here.mk ⟨rfl,⟨⟨ls,zs,ws,rts,rs,prs ++ [⟨wd,nm,ot,i1,i2⟩],qs ++ [.ref t2],?_,g2.imp fun a y => LvT.keeps a y _ _ (s7.keeps.trans kk),?_,?_,g4'.imp fun a y => RtT.keeps a y _ _ (s7.keeps.trans kk),J7,All2.snoc (g5'.imp fun a y => PrT.keeps a y _ _ (s7.keeps.trans kk)) ⟨t2,rfl,kk _ _ J7 (fun zs z => by cases z)⟩,fun p hp => ?_,g6,g7,g8,by rw [List.length_append,List.length_singleton]; omega,g10,by rw [List.length_append,List.length_singleton]; omega⟩,(I5.sm.trans s7).upd f4⟩,?_⟩
      ·rw [Jg y14]; exact s7 _ _ g1
      ·rw [Jg y24]; exact s7 _ _ g3
      ·rw [Jg y34]; exact s7 _ _ g4
      ·rcases List.mem_append.mp hp with hp | hp
       ·exact gg p hp
       ·rw [List.mem_singleton.mp hp]; exact pin
      ·rw [Jg nc4]; exact s7 _ _ hcl5
     ·exact no
    ·walk_at "rd"
     exact no
   ·walk_at "rd"
    exact no
  rintro σ H5 hv
  obtain ⟨v1,v2,v3,rfl,I5,hcl5⟩ := hv.out
  obtain ⟨ls,zs,ws,rts,rs,prs,qs,g1,g2,g3,g4,g4',g5,g5',gg,_,_,_,_,g10,g11⟩ := I5.ex
  walk_at "rd"
  intro t ht
  have s6 : Same H5 (upd H5 t (.tup [.int (1 + d),T ks,.ref nl,.ref pl,.ref ll,.ref wl,.ref rl,.ref ql])) := Ji ht _
  have s46 := I5.sm.trans s6
  exact q t _ (J0i ns 1) (1 + d) ks nds ps ls nl pl ll wl rl ql nxs ys zs ws rts rs prs qs (t4.trans s46) J7 (s46 _ _ hnl4) (hN4.imp fun a y => NdAt.keeps a y _ _ s46.keeps) (s46 _ _ hpl) (hP.imp fun a y => PsT.keeps a y _ _ s46.keeps) (s6 _ _ g1) (g2.imp fun a y => LvT.keeps a y _ _ s6.keeps) (s6 _ _ g3) (s6 _ _ g4) (g4'.imp fun a y => RtT.keeps a y _ _ s6.keeps) (s6 _ _ g5) (g5'.imp fun a y => PrT.keeps a y _ _ s6.keeps) gg (by omega) (by omega) kl.1 kl.2 hNms g10 g11
end
theorem s8a (x1 x2 x3 x4 x5 x6 x7 x8 : V) : ¬ (HT.sIx [x1,x2,x3,x4,x5,x6,x7,x8].length 0 none = 0 ∧ HT.sIx [x1,x2,x3,x4,x5,x6,x7,x8].length [x1,x2,x3,x4,x5,x6,x7,x8].length (some 4) = [x1,x2,x3,x4,x5,x6,x7,x8].length) := show ¬ (HT.sIx 8 0 none = 0 ∧ HT.sIx 8 8 (some 4) = 8) from by decide
theorem s8b (x1 x2 x3 x4 x5 x6 x7 x8 : V) : ¬ (HT.sIx [x1,x2,x3,x4,x5,x6,x7,x8].length 0 (some 4) = 0 ∧ HT.sIx [x1,x2,x3,x4,x5,x6,x7,x8].length [x1,x2,x3,x4,x5,x6,x7,x8].length none = [x1,x2,x3,x4,x5,x6,x7,x8].length) := show ¬ (HT.sIx 8 0 (some 4) = 0 ∧ HT.sIx 8 8 none = 8) from by decide
theorem c8a (x1 x2 x3 x4 x5 x6 x7 x8 : V) : cutV [x1,x2,x3,x4,x5,x6,x7,x8] none (some 4) = [x1,x2,x3,x4] := rfl
theorem c8b (x1 x2 x3 x4 x5 x6 x7 x8 : V) : cutV [x1,x2,x3,x4,x5,x6,x7,x8] (some 4) none = [x5,x6,x7,x8] := rfl
structure Pts (H : Hp) (t : Addr) (d : Int) (ks : List Nat) (nds : List Nd) (ps : List Ps) (ls : List (List Nat × Int)) (rts : List Rt) (prs : List Pr) (a1 a2 a3 a4 a5 a6 : Addr) (xs ys zs ws rs qs : List V) : Prop where
 tp : H t = some (.tup [.int d,T ks,.ref a1,.ref a2,.ref a3,.ref a4,.ref a5,.ref a6])
 h1 : H a1 = some (.lst xs)
 n1 : All2 NdAt H nds xs
 h2 : H a2 = some (.lst ys)
 n2 : All2 PsT H ps ys
 h3 : H a3 = some (.lst zs)
 n3 : All2 LvT H ls zs
 h4 : H a4 = some (.lst ws)
 h5 : H a5 = some (.lst rs)
 n5 : All2 RtT H rts rs
 h6 : H a6 = some (.lst qs)
 n6 : All2 PrT H prs qs
theorem Pts.same {H H' : Hp} {t : Addr} {d : Int} {ks : List Nat} {nds : List Nd} {ps : List Ps} {ls : List (List Nat × Int)} {rts : List Rt} {prs : List Pr} {a1 a2 a3 a4 a5 a6 : Addr} {xs ys zs ws rs qs : List V} (x : Pts H t d ks nds ps ls rts prs a1 a2 a3 a4 a5 a6 xs ys zs ws rs qs) (s : Same H H') : Pts H' t d ks nds ps ls rts prs a1 a2 a3 a4 a5 a6 xs ys zs ws rs qs :=
 ⟨s _ _ x.tp,s _ _ x.h1,x.n1.imp fun a y => NdAt.keeps a y _ _ s.keeps,s _ _ x.h2,x.n2.imp fun a y => PsT.keeps a y _ _ s.keeps,s _ _ x.h3,x.n3.imp fun a y => LvT.keeps a y _ _ s.keeps,s _ _ x.h4,s _ _ x.h5,x.n5.imp fun a y => RtT.keeps a y _ _ s.keeps,s _ _ x.h6,x.n6.imp fun a y => PrT.keeps a y _ _ s.keeps⟩
theorem Jdy {α : Type} {l : List α} (h : l.Nodup) {i j : Nat} {a : α} (hi : l[i]? = some a) (hj : l[j]? = some a) : i = j := by
 have h1 := (List.getElem?_eq_some_iff.mp hi).1
 have h2 := (List.getElem?_eq_some_iff.mp hj).1
 have e1 := (List.getElem?_eq_some_iff.mp hi).2
 have e2 := (List.getElem?_eq_some_iff.mp hj).2
 have key := List.pairwise_iff_getElem.mp h
 rcases Nat.lt_trichotomy i j with z | z | z
 ·exact absurd (e1.trans e2.symm) (key i j h1 h2 z)
 ·exact z
 ·exact absurd (e2.trans e1.symm) (key j i h2 h1 z)
theorem Jci {J : It} {H : Hp} {σ0 : St} {g : TG} {tc : TT} {te : TE} {Q : VK} (vs : List V) (hJ : J58 J H vs) (hx : vs.length ≤ 1000)
  (step : ∀ x σ H' (R : St → V → Hp → Prop) (Rf : St → Hp → Prop),(∀ σ2 p,H' p = none → R σ2 (.ref p) (upd H' p (.lst []))) → g x σ H' fun σ2 H2 => tc σ2 H2 fun b H3 => if b = true then te σ2 H3 (fun y H4 => R σ2 y H4) else Rf σ2 H3)
  (hQ : ∀ (D : Addr) (H' : Hp) (bs : List Addr),H D = none → Same H H' → bs.length = vs.length → bs.Nodup → (∀ b ∈ bs,b ≠ D ∧ H b = none ∧ H' b = some (.lst [])) → H' D = some (.lst (bs.map V.ref)) → Q (.ref D) H') : J4e J H σ0 g tc te Q := by
 intro D hD
 refine ⟨fun i m σ1 ys H' => m = vs.length - i ∧ i ≤ vs.length ∧ ∃ bs : List Addr,ys = bs.map V.ref ∧ bs.length = i ∧ bs.Nodup ∧ (∀ b ∈ bs,b ≠ D ∧ H b = none ∧ H' b = some (.lst [])) ∧ H' D = some (.lst ys) ∧ Same H H',
  ⟨vs.length,by simp,Nat.zero_le _,[],rfl,rfl,List.nodup_nil,fun b hb => absurd hb List.not_mem_nil,J7,Ji hD _⟩,?_⟩
 rintro i m σ1 ys H' ⟨rfl,hi,bs,rfl,hl,hn,hb,hDD,hs⟩
 by_cases hlt : i < vs.length
 ·refine .inr ⟨hJ.go i H' hs hlt,fun x H'' hy => ?_⟩
  obtain ⟨e,_⟩ := hJ.yld i H' x H'' hs hlt hy
  subst e
  refine step x σ1 H'' _ _ fun σ2 p hp => ?_
  have hs2 : Same H'' (upd H'' p (.lst [])) := Ji hp _
  have big : (1001 : Nat) ≤ sizeLine := by decide
  refine ⟨hs2 _ _ hDD,by rw [List.length_map]; omega,vs.length - (i + 1),by omega,rfl,hlt,bs ++ [p],by rw [List.map_append]; rfl,by rw [List.length_append,List.length_singleton,hl],?_,fun b hbm => ?_,J7,(hs.trans hs2).upd hD⟩
  ·rw [List.nodup_append]
   refine ⟨hn,by simp,fun a ha b hbb z => ?_⟩
   rw [List.mem_singleton.mp hbb] at z
   have := (hb a ha).2.2
   rw [z,hp] at this
   cases this
  ·have pD : p ≠ D := fun z => by rw [z,hDD] at hp; cases hp
   rcases List.mem_append.mp hbm with hbm | hbm
   ·obtain ⟨b1,b2,b3⟩ := hb b hbm
    exact ⟨b1,b2,by rw [Jg b1]; exact hs2 _ _ b3⟩
   ·rw [List.mem_singleton.mp hbm]
    exact ⟨pD,hs.free hp,by rw [Jg pD]; exact J7⟩
 ·have e : i = vs.length := by omega
  subst e
  exact .inl ⟨hJ.stop H' hs,hQ D H' bs hD hs hl hn hb hDD⟩
noncomputable def J35 (H : Hp) (D : Addr) (bs : List Addr) (F : Nat → List (List V)) : Prop := H D = some (.lst (bs.map V.ref)) ∧ bs.Nodup ∧ (∀ b ∈ bs,b ≠ D) ∧ ∀ (i : Nat) (b : Addr),bs[i]? = some b → ∃ xs,H b = some (.lst xs) ∧ All2 TpV H (F i) xs
theorem J35.same {H H' : Hp} {D : Addr} {bs : List Addr} {F : Nat → List (List V)} (c : J35 H D bs F) (s : Same H H') : J35 H' D bs F :=
 ⟨s _ _ c.1,c.2.1,c.2.2.1,fun i b hb => let ⟨xs,h1,h2⟩ := c.2.2.2 i b hb; ⟨xs,s _ _ h1,h2.imp fun a y => TpV.keeps a y _ _ s.keeps⟩⟩
theorem J35.congr {H : Hp} {D : Addr} {bs : List Addr} {F G : Nat → List (List V)} (c : J35 H D bs F) (e : ∀ i < bs.length,F i = G i) : J35 H D bs G :=
 ⟨c.1,c.2.1,c.2.2.1,fun i b hb => by rw [← e i (List.getElem?_eq_some_iff.mp hb).1]; exact c.2.2.2 i b hb⟩
theorem J35.push {H H2 : Hp} {D : Addr} {bs : List Addr} {F : Nat → List (List V)} {d : Nat} {b t : Addr} {xs v : List V} (c : J35 H D bs F) (hd : bs[d]? = some b) (hb : H b = some (.lst xs)) (hF : All2 TpV H (F d) xs) (s : Same H H2) (ht : H2 t = some (.tup v)) :
  J35 (upd H2 b (.lst (xs ++ [.ref t]))) D bs (fun i => if i = d then F i ++ [v] else F i) := by
 have hbm := List.mem_of_getElem? hd
 have hb2 := s _ _ hb
 have kk : JV H2 (upd H2 b (.lst (xs ++ [.ref t]))) := JP hb2
 refine ⟨?_,c.2.1,c.2.2.1,fun i b' hb' => ?_⟩
 ·rw [Jg (c.2.2.1 b hbm).symm]
  exact s _ _ c.1
 ·by_cases e : i = d
  ·subst e
   rw [hd] at hb'
   cases hb'
   refine ⟨_,J7,?_⟩
   show All2 TpV _ (if i = i then F i ++ [v] else F i) _
   rw [if_pos rfl]
   exact All2.snoc (hF.imp fun a y => TpV.keeps a y _ _ (s.keeps.trans kk)) ⟨t,rfl,kk _ _ ht fun zs z => by cases z⟩
  ·have nb : b' ≠ b := fun z => by
    subst z
    exact e (Jdy c.2.1 hb' hd)
   obtain ⟨ys,h1,h2⟩ := c.2.2.2 i b' hb'
   refine ⟨ys,by rw [Jg nb]; exact s _ _ h1,?_⟩
   show All2 TpV _ (if i = d then F i ++ [v] else F i) _
   rw [if_neg e]
   exact h2.imp fun a y => TpV.keeps a y _ _ (s.keeps.trans kk)
noncomputable def RdT (c : Cs) : Rt → V → Hp → Prop := fun a y H => ∃ p,y = .ref p ∧ JL c H a.r p
theorem RdT.keeps {c : Cs} (a : Rt) (y : V) (Ha Hb : Hp) (k : JV Ha Hb) (h : RdT c a y Ha) : RdT c a y Hb := let ⟨p,e,h⟩ := h; ⟨p,e,h.keeps k⟩
noncomputable def ruOf (rts : List Rt) : List Ru := rts.map fun a => ⟨a.nm,a.r.bad⟩
theorem J8H {rts : List Rt} {i : Nat} {a : Rt} (h : rts[i]? = some a) : (ruOf rts)[i]? = some ⟨a.nm,a.r.bad⟩ := by unfold ruOf; rw [List.getElem?_map,h]; rfl
theorem J2p (rts : List Rt) : (ruOf rts).length = rts.length := List.length_map ..
noncomputable def ruK (rls : List Ru) (n : Ps) (row : List Nat) (k : Nat) (d : Nat) : List (List V) := ((List.range k).filter fun j => J3H rls n.nm j && ruB rls (n.past ++ row.take (d + 1)) j).map (ruV (d : Int) n.nm)
theorem Je9 (rls : List Ru) (n : Ps) (row : List Nat) (d : Nat) : ruK rls n row rls.length d = ruP rls (d : Int) (n,row) := by
 unfold ruK ruP ruI
 rw [List.filter_filter]
 congr 1
 refine List.filter_congr fun j _ => ?_
 rw [Bool.and_comm,J4u _ _ (by omega),show ((d : Int) + 1).toNat = d + 1 by omega]
theorem J9z (rls : List Ru) (n : Ps) (row : List Nat) (k d : Nat) : ruK rls n row (k + 1) d = ruK rls n row k d ++ (if (J3H rls n.nm k && ruB rls (n.past ++ row.take (d + 1)) k) = true then [ruV (d : Int) n.nm k] else []) := by
 unfold ruK
 rw [List.range_succ,List.filter_append,List.map_append]
 congr 1
 rw [List.filter_cons]
 split <;> rfl
noncomputable def JeO (K : PySem.W.Frag) (c6 : Cs) : Sp := fun vs H Q _ => ∃ (pt rd r : Addr) (d : Int) (ks : List Nat) (nds : List Nd) (ps : List Ps) (ls : List (List Nat × Int)) (rts : List Rt) (prs : List Pr) (a1 a2 a3 a4 a5 a6 : Addr) (xs ys zs ws rs qs us : List V) (rows : List (List Nat)),vs = [.ref pt,.ref rd,.ref r] ∧ Pts H pt d ks nds ps ls rts prs a1 a2 a3 a4 a5 a6 xs ys zs ws rs qs ∧
 H rd = some (.lst us) ∧ All2 (RdT c6) H rts us ∧ H r = some (.lst (rows.map T)) ∧ rows.length = ps.length ∧ ps.length ≤ 8 ∧ rts.length ≤ 8 ∧ 1 ≤ d ∧ d ≤ 14 ∧ (∀ r ∈ rows,(r.length : Int) = d) ∧ (∀ n ∈ ps,n.past.length ≤ 100) ∧ (∀ a ∈ rts,a.r.depth ≤ 2) ∧
 ∀ (D : Addr) (H' : Hp) (bs : List Addr),Same H H' → bs.length = d.toNat → J35 H' D bs (fun i => ruF (ruOf rts) ps rows (i : Int)) → Q (.ref D) H'
section
variable {P : Program} {w : World} {K : PySem.W.Frag} {mg : Str → Option Value} {base : Heap} {Jb Jf Ja Jh J8 Jn J5 J3 : Addr}
theorem J4B (tx : Tx K mg Jb Jf Ja Jh J8 Jn J5 J3) : FnG P w K mg base "_law_rule_faults" 31 ["_law_parts_here","_law_read","_law_rota_here"] (JeO K (cs6 Jb Jf Ja Jh J8 Jn J5 J3)) := by
 have J66 := Jaj (P := P) (w := w) (base := base) tx
 refine tx.J4z.g JA (fun _ _ _ _ _ _ us hl => match us,hl with | [_,_,_],_ => rfl) (fun vs H Q E h => ?_) (fun f cdv A outer s H vs Q E hr h => ?_)
 ·obtain ⟨pt,rd,r,d,ks,nds,ps,ls,rts,prs,a1,a2,a3,a4,a5,a6,xs,ys,zs,ws,rs,qs,us,rows,rfl,_⟩ := h
  rfl
 ·obtain ⟨pt,rd,r,d,ks,nds,ps,ls,rts,prs,a1,a2,a3,a4,a5,a6,xs,ys,zs,ws,rs,qs,us,rows,rfl,hP,hrd,hU,hr1,hl,hp8,hr8,d0,d1,hrows,hpast,hdep,q⟩ := h
  refine ⟨_,(J2 (J2y (JJ J5G (pv 0) J09 (JT J6)) (J0Y rfl (Jk (Je (i := 3) JA.nd rfl (Or.inl rfl)) (Jk (Je (i := 4) JA.nd rfl (Or.inl rfl)) (Jk (Je (i := 5) JA.nd rfl (Or.inl rfl)) (Jk (Je (i := 6) JA.nd rfl (Or.inl rfl)) J08))))))
   (J2 (J2y (JJ J5G (pv 0) (JT J6) J09) (J0Y rfl (Jk (Je (i := 7) JA.nd rfl (Or.inl rfl)) (Jk (Je (i := 8) JA.nd rfl (Or.inl rfl)) (Jk (Je (i := 9) JA.nd rfl (Or.inl rfl)) (Jk (Je (i := 10) JA.nd rfl (Or.inl rfl)) J08))))))
   (J2 (J44 (k := 11) (osc := J4 J0h) (ON := ["_law_parts_here","_law_read","_law_rota_here","_law_days","_law_kinds_here","_law_needs_here","_law_persons","_law_leave","_law_wishes","_law_rules","_law_pairs","_law_found","_law_person_here","_law_row","_law_k","_law_day"]) (N := ["_law_day"]) (js := [none]) JA.nd rfl (Or.inl rfl) ⟨rfl,by decide +kernel,by decide +kernel,by decide +kernel,rfl,by decide +kernel⟩ rfl rfl rfl (J06 rfl tx.J0m (J0 (pv 3) J1)) (fun _ _ _ _ _ => Je (i := 0) (show List.Nodup (["_law_day"] : List Str) from by decide +kernel) rfl (Or.inl rfl)) (fun _ _ _ _ _ => J0A) (fun _ _ _ _ _ => (J0b J1)))
   (J2 (J0E PassesOwn.never rfl (J59 (K := K) rfl rfl tx.J4L (J0 (pv 6) (J0 (pv 2) J1))) (J0Y rfl (Jk (Je (i := 12) JA.nd rfl (Or.inl rfl)) (Jk (Je (i := 13) JA.nd rfl (Or.inl rfl)) J08))) (J9 (J0E PassesOwn.never rfl (J06 rfl tx.J0m (J0 (Ju (JH (K := K) rfl) rfl tx.J05 PySem.boot_len (J0 (pv 9) J1)) J1)) (Je (i := 14) JA.nd rfl (Or.inl rfl)) (J9 (JO (Jl (JcX (K := K) rfl) (Jv (JZ (K := K) rfl) (Jv (Jz (K := K) rfl) (pv 9) (pv 14) (fun _ _ => rfl)) J6 (fun _ _ => rfl)) (JS (J0 (Js (l := [97,108,108]) (by decide +kernel)) (J0 (Jv (JZ (K := K) rfl) (pv 12) J6 (fun _ _ => rfl)) J1))) rfl) (J9 (J0E PassesOwn.never rfl (J0J (K := K) rfl (JB J66 (hr.mono (by decide)) (J0 (Jv (Jz (K := K) rfl) (pv 1) (pv 14) (fun _ _ => rfl)) (J0 (Jv (JZ (K := K) rfl) (pv 12) J6 (fun _ _ => rfl)) (J0 (pv 13) J1))))) (Je (i := 15) JA.nd rfl (Or.inl rfl)) (J9 (J0D (J1O PySem.F.plainAttrs_list PySem.F.slot_list_append PySem.F.type_list_append JW (Jv (Jz (K := K) rfl) (pv 11) (pv 15) (fun _ _ => rfl)) (J0 (JS (J0 (pv 15) (J0 (Js (l := [114,117,108,101]) (by decide +kernel)) (J0 (Jv (JZ (K := K) rfl) (pv 12) J6 (fun _ _ => rfl)) (J0 (pv 14) J1))))) J1)))))) Jw)))))
   (J9 (Jt (pv 11))))))),?_⟩
  walk_at "st"
  clear J66
  have htp := hP.tp
  have c1 := s8a (.int d) (T ks) (.ref a1) (.ref a2) (.ref a3) (.ref a4) (.ref a5) (.ref a6)
  have c2 := s8b (.int d) (T ks) (.ref a1) (.ref a2) (.ref a3) (.ref a4) (.ref a5) (.ref a6)
  walk_at "rd"
  intro t1 nt1
  rw [c8a]
  obtain ⟨Ha,e1,g1,sa⟩ := newt (xs := [V.int d,T ks,.ref a1,.ref a2]) nt1
  rw [← e1]
  clear e1
  have htp1 := sa _ _ htp
  walk_at "rd"
  intro t2 nt2
  rw [c8b]
  obtain ⟨H2,e2,g2,sb⟩ := newt (xs := [V.ref a3,.ref a4,.ref a5,.ref a6]) nt2
  rw [← e2]
  clear e2
  have s2 := sa.trans sb
  clear htp1 c1 c2
  walk_at "rd"
  refine Jci ((List.range d.toNat).map fun (i : Nat) => V.int (0 + (i : Int))) (J0L 0 d.toNat) (by rw [List.length_map,List.length_range]; omega) (fun x σ H' R Rf hR => ?_) (fun D H3 bs nD s3 hbl hbn hb hD => ?_)
  ·walk_at "rd"
   exact hR _
  rw [List.length_map,List.length_range] at hbl
  have nDH : H D = none := s2.free nD
  have nbH : ∀ b ∈ bs,H b = none := fun b hb' => s2.free (hb b hb').2.1
  have C0 : J35 H3 D bs (fun _ => []) := ⟨hD,hbn,fun b hb' => (hb b hb').1,fun i b hb' => ⟨[],(hb b (List.mem_of_getElem? hb')).2.2,trivial⟩⟩
  have s03 := s2.trans s3
  have hyl := hP.n2.len
  clear g1 g2 sa sb nt1 nt2 hb hD s3 s2
  have hrl : rs.length = rts.length := hP.n5.len
  have h23 := s03 _ _ hP.h2
  have hr3 := s03 _ _ hr1
  walk_at "rd"
  refine J76 (K := K) (xs := ys) (ys := rows.map T) (fun i σ H4 => Here (∃ v1 v2 v3 v4,σ = [some (.ref pt),some (.ref rd),some (.ref r),some (.int d),some (T ks),some (.ref a1),some (.ref a2),some (.ref a3),some (.ref a4),some (.ref a5),some (.ref a6),some (.ref D),v1,v2,v3,v4] ∧ J35 H4 D bs (fun e => (((ps.zip rows).take i).map (ruP (ruOf rts) (e : Int))).flatten) ∧ Same H H4))
   (Here.mk ⟨none,none,none,none,rfl,C0,s03⟩) (fun i σ H4 _ _ hv => by obtain ⟨_,_,_,_,_,_,s4⟩ := hv.out; exact ⟨SqL.of (s4 _ _ hP.h2),SqL.of (s4 _ _ hr1)⟩) ?_ ?_
  ·rintro i x y p σ H4 hx hy hp hv
   obtain ⟨v1,v2,v3,v4,rfl,C4,s4⟩ := hv.out
   obtain ⟨n,hn,tn,rfl,htn⟩ := hP.n2.back hx
   obtain ⟨row,hrow,rfl⟩ : ∃ row,rows[i]? = some row ∧ y = T row := by
    rw [List.getElem?_map] at hy
    cases e : rows[i]? with
    | none => rw [e] at hy; cases hy
    | some z => rw [e] at hy; exact ⟨z,rfl,(Option.some.inj hy).symm⟩
   have hrw := hrows row (List.mem_of_getElem? hrow)
   have hpl := hpast n (List.mem_of_getElem? hn)
   obtain ⟨H5,e5,hp5,s5⟩ := newt (xs := [V.ref tn,T row]) hp
   rw [← e5]
   clear e5
   have C5 := C4.same s5
   have s05 := s4.trans s5
   have h5 := s05 _ _ hP.h5
   have ek : ∀ e : Nat,(((ps.zip rows).take (i + 1)).map (ruP (ruOf rts) (e : Int))).flatten = (((ps.zip rows).take i).map (ruP (ruOf rts) (e : Int))).flatten ++ ruP (ruOf rts) (e : Int) (n,row) := fun e => by
    rw [List.take_add_one,show (ps.zip rows)[i]? = some (n,row) from List.getElem?_zip_eq_some.mpr ⟨hn,hrow⟩,List.map_append,List.flatten_append]
    simp
   have hrl8 : rs.length ≤ 8 := by omega
   walk_at "rd"
   refine J2g (n := ((rs.length : Nat) : Int).toNat) (fun k σ H6 => Here (∃ v3 v4,σ = [some (.ref pt),some (.ref rd),some (.ref r),some (.int d),some (T ks),some (.ref a1),some (.ref a2),some (.ref a3),some (.ref a4),some (.ref a5),some (.ref a6),some (.ref D),some (.ref tn),some (T row),v3,v4] ∧ J35 H6 D bs (fun e => (((ps.zip rows).take i).map (ruP (ruOf rts) (e : Int))).flatten ++ ruK (ruOf rts) n row k e) ∧ Same H H6))
    (Here.mk ⟨_,_,rfl,C5.congr (fun e _ => by show _ = _ ++ []; rw [List.append_nil]),s05⟩) ?_ ?_
   ·rintro k σ H6 hk hv
    obtain ⟨v3,v4,rfl,C6,s6⟩ := hv.out
    have hk' : k < rts.length := by omega
    have hrt : rts[k]? = some rts[k] := List.getElem?_eq_getElem hk'
    generalize rts[k] = rt at hrt
    obtain ⟨yk,hyk,tk,tk2,nxk,rfl,htk,htk2,hxr⟩ := hP.n5.get hrt
    obtain ⟨uk,huk,pk,rfl,hrk⟩ := hU.get hrt
    have hdk := hdep rt (List.mem_of_getElem? hrt)
    have at1' : atI rs (0 + (k : Int)) = some (.ref tk) := by rw [Int.zero_add]; exact J15 hyk
    have at2' : atI us (0 + (k : Int)) = some (.ref pk) := by rw [Int.zero_add]; exact J15 huk
    have h56 := s6 _ _ hP.h5
    have hrd6 := s6 _ _ hrd
    have htk6 := s6 _ _ htk
    have htn6 := s6 _ _ htn
    have u0 := at0 (T rt.nm) (V.ref tk2)
    obtain ⟨w0,_,_,_,w4⟩ := at5 (T n.nm) (T n.sk) (.int n.most) (.int n.car) (T n.past)
    walk_at "rd"
    intro tt ntt
    obtain ⟨H7,e7,htt,s7⟩ := newt (xs := [T wAll,T n.nm]) ntt
    rw [← e7]
    clear e7
    have eB : J3H (ruOf rts) n.nm k = inV (T rt.nm) [T wAll,T n.nm] := by
     unfold J3H
     rw [J60 (J8H hrt)]
     exact (Jdi rt.nm [wAll,n.nm]).symm
    have f1 : J0l (T rt.nm) = true := rfl
    have f2 : [T wAll,T n.nm].all J0l = true := rfl
    have hI2 : SqL K H7 tt [T wAll,T n.nm] ∨ SqT K H7 tt [T wAll,T n.nm] := .inr (SqT.of htt)
    have s67 := s6.trans s7
    have C7 := C6.same s7
    have hrd7 := s67 _ _ hrd
    have htn7 := s67 _ _ htn
    have hrk7 := hrk.same s67
    walk_at "rd"
    refine ite2 (fun c => ?_) (fun c => ?_)
    ·rw [show inV (T rt.nm) [T wAll,T n.nm] = J3H (ruOf rts) n.nm k from eB.symm] at c
     have c : J3H (ruOf rts) n.nm k = true := c
     have hd23 : rt.r.depth ≤ 23 := by omega
     have p300 : n.past.length ≤ 300 := by omega
     have r300 : row.length ≤ 300 := by omega
     walk_at "rd"
     intro Db H8 s8 nDb hDb
     have C8 := C7.same s8
     have s08 := s67.trans s8
     have nDbb : ∀ b ∈ bs,Db ≠ b := fun b hbm z => by
      obtain ⟨j,hj⟩ := List.getElem?_of_mem hbm
      obtain ⟨xs',h1,_⟩ := C7.2.2.2 j b hj
      rw [z,h1] at nDb
      cases nDb
     walk_at "rd"
     refine J3V (K := K) (xs := dL (badL rt.r n.past row)) (fun j σ H9 => Here (∃ v4,σ = [some (.ref pt),some (.ref rd),some (.ref r),some (.int d),some (T ks),some (.ref a1),some (.ref a2),some (.ref a3),some (.ref a4),some (.ref a5),some (.ref a6),some (.ref D),some (.ref tn),some (T row),some (.int (0 + (k : Int))),v4] ∧ J35 H9 D bs (fun e => (((ps.zip rows).take i).map (ruP (ruOf rts) (e : Int))).flatten ++ ruK (ruOf rts) n row k e ++ (if e ∈ (badL rt.r n.past row).take j then [ruV (e : Int) n.nm k] else [])) ∧ H9 Db = some (.lst (dL (badL rt.r n.past row))) ∧ Same H H9))
      (Here.mk ⟨_,rfl,C8.congr (fun e _ => by rw [List.take_zero,if_neg List.not_mem_nil,List.append_nil]),hDb,s08⟩) (fun j σ H9 _ hv => by obtain ⟨_,_,_,e,_⟩ := hv.out; exact SqL.of e) ?_ ?_
     ·rintro j x σ H9 hx hv
      obtain ⟨v4,rfl,C9,hDb9,s9⟩ := hv.out
      obtain ⟨e,he,rfl⟩ : ∃ e : Nat,(badL rt.r n.past row)[j]? = some e ∧ x = V.int (e : Int) := by
       unfold dL at hx
       rw [List.map_map,List.getElem?_map] at hx
       cases z : (badL rt.r n.past row)[j]? with
       | none => rw [z] at hx; cases hx
       | some y => rw [z] at hx; exact ⟨y,rfl,(Option.some.inj hx).symm⟩
      have hem := List.mem_of_getElem? he
      have hel : e < row.length := by
       unfold badL at hem
       exact List.mem_range.mp (List.mem_filter.mp hem).1
      have heb : e < bs.length := by omega
      have hbe : bs[e]? = some bs[e] := List.getElem?_eq_getElem heb
      generalize bs[e] = b at hbe
      obtain ⟨xs9,hb9,hF9⟩ := C9.2.2.2 e b hbe
      have hD9 := C9.1
      have atb : atI (bs.map V.ref) (e : Int) = some (.ref b) := J15 (by rw [List.getElem?_map,hbe]; rfl)
      have htn9 := s9 _ _ htn
      have x9l : xs9.length ≤ 1000 := by
       rw [hF9.len]
       have l1 := J63 (ruOf rts) (e : Int) (by rw [J2p]; exact hr8) ((ps.zip rows).take i)
       have l2 : (ruK (ruOf rts) n row k e).length ≤ k := by
        unfold ruK
        rw [List.length_map]
        exact Nat.le_trans (List.length_filter_le _ _) (by rw [List.length_range]; exact Nat.le_refl _)
       rw [List.length_take,List.length_zip] at l1
       rw [List.length_append,List.length_append]
       split
       ·rw [List.length_singleton]; omega
       ·rw [List.length_nil]; omega
      walk_at "rd"
      intro tf ntf
      obtain ⟨HA,eA,htf,sA⟩ := newt (xs := ruV (e : Int) n.nm k) ntf
      have eA' : upd H9 tf (.tup [V.int (e : Int),T [114,117,108,101],T n.nm,V.int (0 + (k : Int))]) = HA := by
       rw [eA,Int.zero_add]
       rfl
      rw [eA']
      clear eA eA'
      have hbA := sA _ _ hb9
      walk_at "rd"
      have CB := C9.push hbe hb9 hF9 sA htf
      have nd : e ∉ (badL rt.r n.past row).take j := fun z => by
       have hnd : (badL rt.r n.past row).Nodup := List.Pairwise.filter _ List.nodup_range
       obtain ⟨j2,hj2⟩ := List.getElem?_of_mem z
       rw [List.getElem?_take] at hj2
       split at hj2
       ·rename_i hlt
        have := Jdy hnd hj2 he
        omega
       ·cases hj2
      refine Here.mk ⟨_,rfl,CB.congr (fun e2 he2 => ?_),?_,(s9.trans sA).upd (nbH b (List.mem_of_getElem? hbe))⟩
      ·have et : (badL rt.r n.past row).take (j + 1) = (badL rt.r n.past row).take j ++ [e] := by rw [List.take_add_one,he]; rfl
       rw [et]
       by_cases z : e2 = e
       ·subst z
        rw [if_pos rfl,if_neg nd,if_pos (by simp),List.append_nil]
       ·rw [if_neg z]
        congr 1
        by_cases y : e2 ∈ (badL rt.r n.past row).take j
        ·rw [if_pos y,if_pos (List.mem_append_left _ y)]
        ·rw [if_neg y,if_neg (by simp [z,y])]
      ·rw [Jg (nDbb b (List.mem_of_getElem? hbe))]
       exact sA _ _ hDb9
     ·rintro σ H9 hv
      obtain ⟨v4,rfl,C9,hDb9,s9⟩ := hv.out
      refine Here.mk ⟨_,_,rfl,C9.congr (fun e he => ?_),s9⟩
      rw [J9z,List.append_assoc]
      congr 2
      rw [Jfh,List.take_length,c,Bool.true_and]
      have eR : ruB (ruOf rts) (n.past ++ row.take (e + 1)) k = rt.r.bad (n.past ++ row.take (e + 1)) := by
       unfold ruB
       rw [J60 (J8H hrt)]
      rw [eR]
      have hm : e ∈ badL rt.r n.past row ↔ rt.r.bad (n.past ++ row.take (e + 1)) = true := by
       unfold badL
       rw [List.mem_filter,List.mem_range]
       exact ⟨fun z => z.2,fun z => ⟨by omega,z⟩⟩
      by_cases z : rt.r.bad (n.past ++ row.take (e + 1)) = true
      ·rw [if_pos (hm.mpr z),if_pos z]
      ·rw [if_neg fun y => z (hm.mp y),if_neg z]
    ·rw [show inV (T rt.nm) [T wAll,T n.nm] = J3H (ruOf rts) n.nm k from eB.symm] at c
     have c : ¬ J3H (ruOf rts) n.nm k = true := c
     refine Here.mk ⟨_,_,rfl,C7.congr (fun e _ => ?_),s67⟩
     rw [J9z,Bool.eq_false_iff.mpr c,Bool.false_and,if_neg Bool.false_ne_true,List.append_nil]
   ·rintro σ H6 hv
    obtain ⟨v3,v4,rfl,C6,s6⟩ := hv.out
    refine Here.mk ⟨_,_,_,_,rfl,C6.congr (fun e _ => ?_),s6⟩
    rw [ek,← Je9,J2p,Int.toNat_natCast,hrl]
  ·rintro i σ H4 hi hv
   obtain ⟨v1,v2,v3,v4,rfl,C4,s4⟩ := hv.out
   have ei : i = (ps.zip rows).length := by
    rw [List.length_zip]
    rw [List.length_map] at hi
    omega
   subst ei
   walk_at "rd"
   refine q D H4 bs s4 (by omega) (C4.congr fun e _ => ?_)
   rw [List.take_length]
   rfl
end
section
variable {P : Program} {w : World} {K : PySem.W.Frag} {mg : Str → Option Value} {base : Heap} {Jb Jf Ja Jh J8 Jn J5 J3 : Addr}
theorem J79 (tx : Tx K mg Jb Jf Ja Jh J8 Jn J5 J3) : FnG P w K mg base "_law_need_by" 1 ["_law_needs_here","_law_day","_law_kind"] (JbH K) := by
 refine tx.J77.g J1o (fun _ _ _ _ _ _ us hl => match us,hl with | [_,_,_],_ => rfl) (fun vs H Q E h => ?_) (fun f cdv A outer s H vs Q E hr h => ?_)
 ·obtain ⟨h,d,k,nds,xs,rfl,_⟩ := h
  rfl
 ·obtain ⟨h,d,k,nds,xs,rfl,h2,h3,q⟩ := h
  refine ⟨_,(J2 (J0E PassesOwn.never rfl (J0J (K := K) rfl (pv 0)) (J0Y rfl (Jk (Je (i := 3) J1o.nd rfl (Or.inl rfl)) (Jk (Je (i := 4) J1o.nd rfl (Or.inl rfl)) (Jk (Je (i := 5) J1o.nd rfl (Or.inl rfl)) (Jk (Je (i := 6) J1o.nd rfl (Or.inl rfl)) J08))))) (J9 (JO (PW.pt (J1x (Jl J0c (pv 3) (pv 1) (Jq _)) (J1N (Jl J0c (pv 4) (pv 2) (Jq _))))) (J9 (Jt (JS (J0 (pv 5) (J0 (pv 6) J1))))) Jw)))
   (J9 (Jt (JS (J0 J6 (J0 J6 J1)))))),?_⟩
  walk_at "st"
  walk_at "rd"
  refine J3V (K := K) (xs := xs) (fun i σ H2 => Here (∃ v1 v2 v3 v4,σ = [some (.ref h),some (.int d),some (T [k]),v1,v2,v3,v4] ∧ (∀ j < i,∀ n,nds[j]? = some n → ¬ (n.day = d ∧ n.kind = k)) ∧ H2 = H)) (Here.mk ⟨none,none,none,none,rfl,fun j hj => absurd hj (Nat.not_lt_zero _),rfl⟩) (fun i σ H2 _ hv => by obtain ⟨_,_,_,_,_,_,e⟩ := hv.out; rw [e]; exact SqL.of h2) ?_ ?_
  ·rintro i x σ H2 hx hv
   obtain ⟨v1,v2,v3,v4,rfl,hno,rfl⟩ := hv.out
   obtain ⟨n,hn,t,rfl,ht⟩ := h3.back hx
   walk_at "rd"
   refine ite2 (fun e1 => ?_) (fun e1 => ?_)
   ·have e1' : n.day = d := by have := of_decide_eq_true e1; injection this
    walk_at "rd"
    refine ite2 (fun e2 => ?_) (fun e2 => ?_)
    ·have e2' : n.kind = k := by have := J1V (of_decide_eq_true e2); simpa using this
     walk_at "rd"
     intro t2 ht2
     refine q t2 _ (Ji ht2 _) ?_
     rw [J7,J7J hno hn ⟨e1',e2'⟩]
    ·have e2' : ¬ n.kind = k := fun z => e2 (decide_eq_true (by rw [z]))
     refine Here.mk ⟨_,_,_,_,rfl,fun j hj m hm => ?_,rfl⟩
     rcases Nat.lt_or_ge j i with z | z
     ·exact hno j z m hm
     ·have : j = i := by omega
      subst this
      rw [hn] at hm
      cases hm
      exact fun z => e2' z.2
   ·have e1' : ¬ n.day = d := fun z => e1 (decide_eq_true (by rw [z]))
    walk_at "rd"
    refine Here.mk ⟨_,_,_,_,rfl,fun j hj m hm => ?_,rfl⟩
    rcases Nat.lt_or_ge j i with z | z
    ·exact hno j z m hm
    ·have : j = i := by omega
     subst this
     rw [hn] at hm
     cases hm
     exact fun z => e1' z.1
  ·rintro σ H2 hv
   obtain ⟨v1,v2,v3,v4,rfl,hno,rfl⟩ := hv.out
   walk_at "rd"
   intro t2 ht2
   refine q t2 _ (Ji ht2 _) ?_
   rw [J7,J6W (by rw [← h3.len]; exact hno)]
end
noncomputable def sk1 (d : Int) (p : Ps × List Nat) : List (List V) := if (onB d p && skB d p) = true then [skV d p] else []
noncomputable def lv1 (ls : List (List Nat × Int)) (d : Int) (p : Ps × List Nat) : List (List V) := if (onB d p && lvB ls d p) = true then [lvV d p] else []
noncomputable def mo1 (d : Int) (p : Ps × List Nat) : List (List V) := if (onB d p && moB d p) = true then [moV d p] else []
theorem J8F {l : List (Ps × List Nat)} {f g : Ps × List Nat → Bool} {v : Ps × List Nat → List V} {i : Nat} {p : Ps × List Nat} (h : l[i]? = some p) : (((l.take (i + 1)).filter f).filter g).map v = (((l.take i).filter f).filter g).map v ++ (if (f p && g p) = true then [v p] else []) := by
 rw [List.take_add_one,h,List.filter_append,List.filter_append,List.map_append]
 congr 1
 show (List.filter g (List.filter f [p])).map v = _
 rw [List.filter_cons]
 cases hf : f p
 ·rfl
 ·show (List.filter g [p]).map v = _
  rw [List.filter_cons]
  cases hg : g p <;> rfl
noncomputable def JfG : Sp := fun vs H Q _ => ∃ (d : Int) (row : List Nat) (pt ll : Addr) (n : Ps) (ls : List (List Nat × Int)) (zs : List V),vs = [.int d,T row,.ref pt,.ref ll] ∧ H pt = some (.tup [T n.nm,T n.sk,.int n.most,.int n.car,T n.past]) ∧ H ll = some (.lst zs) ∧ All2 LvT H ls zs ∧ 0 ≤ d ∧ d < (row.length : Int) ∧ row.length ≤ 1000 ∧
 ∀ (t : Addr) (H' : Hp) (b1 b2 b3 : Addr) (y1 y2 y3 : List V),Same H H' → H' t = some (.tup [.ref b1,.ref b2,.ref b3]) → H' b1 = some (.lst y1) → All2 TpV H' (sk1 d (n,row)) y1 → H' b2 = some (.lst y2) → All2 TpV H' (lv1 ls d (n,row)) y2 → H' b3 = some (.lst y3) → All2 TpV H' (mo1 d (n,row)) y3 → Q (.ref t) H'
section
variable {P : Program} {w : World} {K : PySem.W.Frag} {mg : Str → Option Value} {base : Heap} {Jb Jf Ja Jh J8 Jn J5 J3 : Addr}
theorem J46 (tx : Tx K mg Jb Jf Ja Jh J8 Jn J5 J3) : FnG P w K mg base "_law_person_faults" 1 ["_law_day","_law_row","_law_person_here","_law_leave"] JfG := by
 refine tx.J45.g JG (fun _ _ _ _ _ _ us hl => match us,hl with | [_,_,_,_],_ => rfl) (fun vs H Q E h => ?_) (fun f cdv A outer s H vs Q E hr h => ?_)
 ·obtain ⟨d,row,pt,ll,n,ls,zs,rfl,_⟩ := h
  rfl
 ·obtain ⟨d,row,pt,ll,n,ls,zs,rfl,hpt,hll,hA,d0,d1,hrl,q⟩ := h
  refine ⟨_,(J2 (J2y (pv 2) (J0Y rfl (Jk (Je (i := 4) JG.nd rfl (Or.inl rfl)) (Jk (Je (i := 5) JG.nd rfl (Or.inl rfl)) (Jk (Je (i := 6) JG.nd rfl (Or.inl rfl)) (Jk (Je (i := 7) JG.nd rfl (Or.inl rfl)) (Jk (Je (i := 8) JG.nd rfl (Or.inl rfl)) J08)))))))
   (J2 (Jm (i := 9) JG.nd rfl (Or.inl rfl) (J0b J1))
   (J2 (Jm (i := 10) JG.nd rfl (Or.inl rfl) (J0b J1))
   (J2 (Jm (i := 11) JG.nd rfl (Or.inl rfl) (J0b J1))
   (J2 (Jm (i := 12) JG.nd rfl (Or.inl rfl) (Ju (JH (K := K) rfl) rfl tx.J05 PySem.boot_len (J0 (J0p (osc := J4 JY) (ON := ["_law_day","_law_row","_law_person_here","_law_leave","_law_name_here","_law_skills","_law_most","_law_carried","_law_past","_law_skill","_law_away","_law_beyond","_law_many"]) (N := ["_law_mark"]) (js := [none]) ⟨rfl,by decide +kernel,by decide +kernel,by decide +kernel,rfl,by decide +kernel⟩ rfl rfl rfl (J4x (JJ J3T (pv 1) J09 (JT (Jd J0a (pv 0) J6)))) (fun _ _ _ _ _ => Je (i := 0) (show List.Nodup (["_law_mark"] : List Str) from by decide +kernel) rfl (Or.inl rfl)) (fun _ _ _ _ _ => J17 (Jl J2Y (pv 0) (Js (l := [45]) (by decide +kernel)) (Jq _))) (fun _ _ _ _ _ => (pv 0))) J1)))
   (J2 (J1R (JO (Jl J2Y (Jv J0B (pv 1) (pv 0) (fun _ _ => rfl)) (Js (l := [45]) (by decide +kernel)) (Jq _)) (J2 (J1R (JO (Jl J7E (Jv J0B (pv 1) (pv 0) (fun _ _ => rfl)) (pv 5) rfl) (J9 (J0D (J1O PySem.F.plainAttrs_list PySem.F.slot_list_append PySem.F.type_list_append JW (pv 9) (J0 (JS (J0 (pv 0) (J0 (Js (l := [115,107,105,108,108]) (by decide +kernel)) (J0 (pv 4) (J0 (Jv J0B (pv 1) (pv 0) (fun _ _ => rfl)) J1))))) J1)))) Jw))
   (J2 (J1R (JO (Jl (Jd2 (K := K) rfl (JeG hr)) (JS (J0 (pv 4) (J0 (pv 0) J1))) (pv 3) rfl) (J9 (J0D (J1O PySem.F.plainAttrs_list PySem.F.slot_list_append PySem.F.type_list_append JW (pv 10) (J0 (JS (J0 (pv 0) (J0 (Js (l := [108,101,97,118,101]) (by decide +kernel)) (J0 (pv 4) (J0 (Jv J0B (pv 1) (pv 0) (fun _ _ => rfl)) J1))))) J1)))) Jw))
   (J9 (J1R (JO (Jl J3m (pv 12) (pv 6) (Jq _)) (J9 (J0D (J1O PySem.F.plainAttrs_list PySem.F.slot_list_append PySem.F.type_list_append JW (pv 11) (J0 (JS (J0 (pv 0) (J0 (Js (l := [109,111,115,116]) (by decide +kernel)) (J0 (pv 4) (J0 (pv 12) J1))))) J1)))) Jw))))) Jw))
   (J9 (Jt (JS (J0 (pv 9) (J0 (pv 10) (J0 (pv 11) J1)))))))))))),?_⟩
  walk_at "st"
  have ea := J4g d0 d1
  have cl := J2M row none (some (d + 1))
  walk_at "rd"
  intro b1 n1
  obtain ⟨Ha,e1,g1,s1⟩ := newl (xs := []) n1
  rw [← e1]
  walk_at "rd"
  intro b2 n2
  obtain ⟨Hb,e2,g2,s2⟩ := newl (xs := []) n2
  rw [← e2]
  walk_at "rd"
  intro b3 n3
  obtain ⟨Hc,e3,g3,s3⟩ := newl (xs := []) n3
  rw [← e3]
  have y12 : b1 ≠ b2 := Jc g1 n2
  have y13 : b1 ≠ b3 := Jc (s2 _ _ g1) n3
  have y23 : b2 ≠ b3 := Jc g2 n3
  have f1 : H b1 = none := n1
  have f2 : H b2 = none := s1.free n2
  have f3 : H b3 = none := (s1.trans s2).free n3
  walk_at "rd"
  refine J52 (fun x => !decide (x = T [45])) (fun x => x) (J3o (cutN row none (some (d + 1)))) ?_ (fun x hx H' s' R hR => ?_) (fun x hx hp H' s' R hR => ?_) (fun D H0 hD s4 hDD => ?_)
  ·rw [List.length_map]; omega
  ·obtain ⟨k,_,rfl⟩ := List.mem_map.mp hx
   walk_at "rd"
   exact hR H' (Same.refl _)
  ·walk_at "rd"
   exact hR H' (Same.refl _)
  have t0 : Same H H0 := ((s1.trans s2).trans s3).trans s4
  have k1 := ((s2.trans s3).trans s4) _ _ g1
  have k2 := (s3.trans s4) _ _ g2
  have k3 := s4 _ _ g3
  clear e1 e2 e3 g1 g2 g3 s1 s2 s3 s4 n1 n2 n3 hD
  walk_at "rd"
  rw [Jbj]
  clear hDD
  refine tCut.mk (fun σ' H' => Here (∃ y1 y2 y3,σ' = [some (.int d),some (T row),some (.ref pt),some (.ref ll),some (T n.nm),some (T n.sk),some (.int n.most),some (.int n.car),some (T n.past),some (.ref b1),some (.ref b2),some (.ref b3),some (.int (dut (cutN row none (some (d + 1))) : Nat))] ∧ H' b1 = some (.lst y1) ∧ All2 TpV H' (sk1 d (n,row)) y1 ∧ H' b2 = some (.lst y2) ∧ All2 TpV H' (lv1 ls d (n,row)) y2 ∧ H' b3 = some (.lst y3) ∧ All2 TpV H' (mo1 d (n,row)) y3 ∧ Same H H')) ?_ ?_
  ·walk_at "rd"
   refine ite2 (fun c => ?_) (fun c => ?_)
   ·have on : onB d (n,row) = true := by
     unfold onB
     rw [decide_eq_false fun z => ?_]
     ·rfl
     ·have z' : mkA row d = 45 := z
      rw [z'] at c
      exact absurd c (by decide)
    refine tCut.mk (fun σ' H' => Here (∃ y1,σ' = [some (.int d),some (T row),some (.ref pt),some (.ref ll),some (T n.nm),some (T n.sk),some (.int n.most),some (.int n.car),some (T n.past),some (.ref b1),some (.ref b2),some (.ref b3),some (.int (dut (cutN row none (some (d + 1))) : Nat))] ∧ H' b1 = some (.lst y1) ∧ All2 TpV H' (sk1 d (n,row)) y1 ∧ H' b2 = some (.lst []) ∧ H' b3 = some (.lst []) ∧ Same H H')) ?_ ?_
    ·walk_at "rd"
     refine ite2 (fun c => ?_) (fun c => ?_)
     ·walk_at "rd"
      intro t ht
      have s5 : Same H0 (upd H0 t (.tup [.int d,T JdF,T n.nm,T [mkA row d]])) := Ji ht _
      have k1' := s5 _ _ k1
      walk_at "rd"
      refine Here.mk ⟨[.ref t],rfl,J7,?_,?_,?_,(t0.trans s5).upd f1⟩
      ·unfold sk1
       rw [on,show skB d (n,row) = true from c]
       exact ⟨⟨t,rfl,JP k1' _ _ J7 (fun zs z => by cases z)⟩,trivial⟩
      ·rw [Jg y12.symm]; exact s5 _ _ k2
      ·rw [Jg y13.symm]; exact s5 _ _ k3
     ·refine Here.mk ⟨[],rfl,k1,?_,k2,k3,t0⟩
      unfold sk1
      rw [show skB d (n,row) = false from Bool.eq_false_iff.mpr c,Bool.and_false]
      exact trivial
    clear k1 k2 k3 t0
    rintro σ' H1 hv
    obtain ⟨y1,rfl,k1,A1,k2,k3,t1⟩ := hv.out
    refine tCut.mk (fun σ' H' => Here (∃ y2,σ' = [some (.int d),some (T row),some (.ref pt),some (.ref ll),some (T n.nm),some (T n.sk),some (.int n.most),some (.int n.car),some (T n.past),some (.ref b1),some (.ref b2),some (.ref b3),some (.int (dut (cutN row none (some (d + 1))) : Nat))] ∧ H' b1 = some (.lst y1) ∧ All2 TpV H' (sk1 d (n,row)) y1 ∧ H' b2 = some (.lst y2) ∧ All2 TpV H' (lv1 ls d (n,row)) y2 ∧ H' b3 = some (.lst []) ∧ Same H H')) ?_ ?_
    ·walk_at "rd"
     intro t2 ht2
     obtain ⟨H2,e2,ht22,s2⟩ := newt (xs := [T n.nm,V.int d]) ht2
     rw [← e2]
     have t2' := t1.trans s2
     have k6 := t2' _ _ hll
     have k7 := JcS (K := K) (hA.imp fun a y => LvT.keeps a y _ _ t2'.keeps)
     have fl : ([T n.nm,V.int d] : List V).all J0l = true := rfl
     walk_at "rd"
     refine ite2 (fun c => ?_) (fun c => ?_)
     ·have k2' := s2 _ _ k2
      walk_at "rd"
      intro t ht
      have s5 : Same H2 (upd H2 t (.tup [.int d,T J8M,T n.nm,T [mkA row d]])) := Ji ht _
      have k2'' := s5 _ _ k2'
      walk_at "rd"
      have kk : JV (upd H2 t (.tup [.int d,T J8M,T n.nm,T [mkA row d]])) (upd (upd H2 t (.tup [.int d,T J8M,T n.nm,T [mkA row d]])) b2 (.lst ([] ++ [.ref t]))) := JP k2''
      refine Here.mk ⟨[.ref t],rfl,?_,A1.imp fun a y => TpV.keeps a y _ _ ((s2.trans s5).keeps.trans kk),J7,?_,?_,(t2'.trans s5).upd f2⟩
      ·rw [Jg y12]; exact s5 _ _ (s2 _ _ k1)
      ·unfold lv1
       rw [on,show lvB ls d (n,row) = true from c]
       exact ⟨⟨t,rfl,kk _ _ J7 (fun zs z => by cases z)⟩,trivial⟩
      ·rw [Jg y23.symm]; exact s5 _ _ (s2 _ _ k3)
     ·refine Here.mk ⟨[],rfl,s2 _ _ k1,A1.imp fun a y => TpV.keeps a y _ _ s2.keeps,s2 _ _ k2,?_,s2 _ _ k3,t2'⟩
      unfold lv1
      rw [show lvB ls d (n,row) = false from Bool.eq_false_iff.mpr c,Bool.and_false]
      exact trivial
    clear k1 k2 k3 t1 A1
    rintro σ' H1 hv
    obtain ⟨y2,rfl,k1,A1,k2,A2,k3,t1⟩ := hv.out
    refine tCut.mk (fun σ' H' => Here (∃ y1 y2 y3,σ' = [some (.int d),some (T row),some (.ref pt),some (.ref ll),some (T n.nm),some (T n.sk),some (.int n.most),some (.int n.car),some (T n.past),some (.ref b1),some (.ref b2),some (.ref b3),some (.int (dut (cutN row none (some (d + 1))) : Nat))] ∧ H' b1 = some (.lst y1) ∧ All2 TpV H' (sk1 d (n,row)) y1 ∧ H' b2 = some (.lst y2) ∧ All2 TpV H' (lv1 ls d (n,row)) y2 ∧ H' b3 = some (.lst y3) ∧ All2 TpV H' (mo1 d (n,row)) y3 ∧ Same H H')) ?_ (fun _ _ hv => hv)
    walk_at "rd"
    refine ite2 (fun c => ?_) (fun c => ?_)
    ·walk_at "rd"
     intro t ht
     have s5 : Same H1 (upd H1 t (.tup [.int d,T wMoF,T n.nm,.int (dut (cutN row none (some (d + 1))) : Nat)])) := Ji ht _
     have k3' := s5 _ _ k3
     walk_at "rd"
     have kk : JV (upd H1 t (.tup [.int d,T wMoF,T n.nm,.int (dut (cutN row none (some (d + 1))) : Nat)])) (upd (upd H1 t (.tup [.int d,T wMoF,T n.nm,.int (dut (cutN row none (some (d + 1))) : Nat)])) b3 (.lst ([] ++ [.ref t]))) := JP k3'
     refine Here.mk ⟨y1,y2,[.ref t],rfl,?_,A1.imp fun a y => TpV.keeps a y _ _ (s5.keeps.trans kk),?_,A2.imp fun a y => TpV.keeps a y _ _ (s5.keeps.trans kk),J7,?_,(t1.trans s5).upd f3⟩
     ·rw [Jg y13]; exact s5 _ _ k1
     ·rw [Jg y23]; exact s5 _ _ k2
     ·unfold mo1
      rw [on,show moB d (n,row) = true from c]
      exact ⟨⟨t,rfl,kk _ _ J7 (fun zs z => by cases z)⟩,trivial⟩
    ·refine Here.mk ⟨y1,y2,[],rfl,k1,A1,k2,A2,k3,?_,t1⟩
     unfold mo1
     rw [show moB d (n,row) = false from Bool.eq_false_iff.mpr c,Bool.and_false]
     exact trivial
   ·have on : onB d (n,row) = false := by
     unfold onB
     have : mkA row d = 45 := Decidable.byContradiction fun z => c (by rw [decide_eq_false fun y => z (by simpa using J1V y)]; rfl)
     rw [decide_eq_true this]
     rfl
    refine Here.mk ⟨[],[],[],rfl,k1,?_,k2,?_,k3,?_,t0⟩
    ·unfold sk1; rw [on]; exact trivial
    ·unfold lv1; rw [on]; exact trivial
    ·unfold mo1; rw [on]; exact trivial
  clear k1 k2 k3 t0
  rintro σ' H1 hv
  obtain ⟨y1,y2,y3,rfl,k1,A1,k2,A2,k3,A3,t1⟩ := hv.out
  walk_at "rd"
  intro t ht
  have s5 : Same H1 (upd H1 t (.tup [.ref b1,.ref b2,.ref b3])) := Ji ht _
  exact q t _ b1 b2 b3 y1 y2 y3 (t1.trans s5) J7 (s5 _ _ k1) (A1.imp fun a y => TpV.keeps a y _ _ s5.keeps) (s5 _ _ k2) (A2.imp fun a y => TpV.keeps a y _ _ s5.keeps) (s5 _ _ k3) (A3.imp fun a y => TpV.keeps a y _ _ s5.keeps)
end
noncomputable def plF (ks : List Nat) (nds : List Nd) (ls : List (List Nat × Int)) (ps : List Ps) (rows : List (List Nat)) (d : Int) : List (List V) := skF ps rows d ++ lvF ls ps rows d ++ neF ks nds rows d ++ moF ps rows d
noncomputable def JeT : Sp := fun vs H Q _ => ∃ (d : Int) (pt r : Addr) (dd : Int) (ks : List Nat) (nds : List Nd) (ps : List Ps) (ls : List (List Nat × Int)) (rts : List Rt) (prs : List Pr) (a1 a2 a3 a4 a5 a6 : Addr) (xs ys zs ws rs qs : List V) (rows : List (List Nat)),vs = [.int d,.ref pt,.ref r] ∧ Pts H pt dd ks nds ps ls rts prs a1 a2 a3 a4 a5 a6 xs ys zs ws rs qs ∧ H r = some (.lst (rows.map T)) ∧ rows.length = ps.length ∧ ps.length ≤ 8 ∧ ks.length ≤ 4 ∧ ROk rows d ∧
 ∀ (D : Addr) (H' : Hp) (ys : List V),Same H H' → H' D = some (.lst ys) → All2 TpV H' (plF ks nds ls ps rows d) ys → Q (.ref D) H'
section
variable {P : Program} {w : World} {K : PySem.W.Frag} {mg : Str → Option Value} {base : Heap} {Jb Jf Ja Jh J8 Jn J5 J3 : Addr}
theorem J4m (tx : Tx K mg Jb Jf Ja Jh J8 Jn J5 J3) : FnG P w K mg base "_law_plain_faults" 2 ["_law_day","_law_parts_here","_law_rota_here"] JeT := by
 have J2K := J46 (P := P) (w := w) (base := base) tx
 have J47 := J79 (P := P) (w := w) (base := base) tx
 refine tx.J4p.g Jj (fun _ _ _ _ _ _ us hl => match us,hl with | [_,_,_],_ => rfl) (fun vs H Q E h => ?_) (fun f cdv A outer s H vs Q E hr h => ?_)
 ·obtain ⟨d,pt,r,dd,ks,nds,ps,ls,rts,prs,a1,a2,a3,a4,a5,a6,xs,ys,zs,ws,rs,qs,rows,rfl,_⟩ := h
  rfl
 ·obtain ⟨d,pt,r,dd,ks,nds,ps,ls,rts,prs,a1,a2,a3,a4,a5,a6,xs,ys,zs,ws,rs,qs,rows,rfl,hP,hr1,hl,hp8,hk4,hR,q⟩ := h
  refine ⟨_,(J2 (J2y (JJ J5G (pv 1) J09 (JT J6)) (J0Y rfl (Jk (Je (i := 3) Jj.nd rfl (Or.inl rfl)) (Jk (Je (i := 4) Jj.nd rfl (Or.inl rfl)) (Jk (Je (i := 5) Jj.nd rfl (Or.inl rfl)) (Jk (Je (i := 6) Jj.nd rfl (Or.inl rfl)) J08))))))
   (J2 (J2y (JJ J5G (pv 1) (JT J6) J09) (J0Y rfl (Jk (Je (i := 7) Jj.nd rfl (Or.inl rfl)) (Jk (Je (i := 8) Jj.nd rfl (Or.inl rfl)) (Jk (Je (i := 9) Jj.nd rfl (Or.inl rfl)) (Jk (Je (i := 10) Jj.nd rfl (Or.inl rfl)) J08))))))
   (J2 (Jm (i := 11) Jj.nd rfl (Or.inl rfl) (J0b J1))
   (J2 (Jm (i := 12) Jj.nd rfl (Or.inl rfl) (J0b J1))
   (J2 (Jm (i := 13) Jj.nd rfl (Or.inl rfl) (J0b J1))
   (J2 (J0E PassesOwn.never rfl (J59 (K := K) rfl rfl tx.J4L (J0 (pv 6) (J0 (pv 2) J1))) (J0Y rfl (Jk (Je (i := 14) Jj.nd rfl (Or.inl rfl)) (Jk (Je (i := 15) Jj.nd rfl (Or.inl rfl)) J08))) (J2 (J2y (JB J2K (hr.mono (by decide)) (J0 (pv 0) (J0 (pv 15) (J0 (pv 14) (J0 (pv 7) J1))))) (J65 (K := K) (n := 3) rfl rfl (Jk (Je (i := 16) Jj.nd rfl (Or.inl rfl)) (Jk (Je (i := 17) Jj.nd rfl (Or.inl rfl)) (Jk (Je (i := 18) Jj.nd rfl (Or.inl rfl)) J08)))))
   (J2 (Jm (i := 11) Jj.nd rfl (Or.inl rfl) (Jd J3z (pv 11) (pv 16)))
   (J2 (Jm (i := 12) Jj.nd rfl (Or.inl rfl) (Jd J3z (pv 12) (pv 17)))
   (J9 (Jm (i := 13) Jj.nd rfl (Or.inl rfl) (Jd J3z (pv 13) (pv 18))))))))
   (J2 (Jm (i := 19) Jj.nd rfl (Or.inl rfl) (J0b J1))
   (J2 (J0E PassesOwn.never rfl (J4x (pv 4)) (Je (i := 20) Jj.nd rfl (Or.inr rfl)) (J2 (Jm (i := 21) Jj.nd rfl (Or.inl rfl) (Ju (JH (K := K) rfl) rfl tx.J05 PySem.boot_len (J0 (J0p (osc := J4 J03) (ON := ["_law_day","_law_parts_here","_law_rota_here","_law_days","_law_kinds_here","_law_needs_here","_law_persons","_law_leave","_law_wishes","_law_rules","_law_pairs","_law_skill","_law_away","_law_beyond","_law_person_here","_law_row","_law_one","_law_two","_law_three","_law_short","_law_kind","_law_many","_law_least","_law_most"]) (N := ["_law_row","_law_kind","_law_day"]) (js := [none,some 20,some 0]) ⟨rfl,by decide +kernel,by decide +kernel,by decide +kernel,rfl,by decide +kernel⟩ rfl rfl rfl (J0J (K := K) rfl (pv 2)) (fun _ _ _ _ _ => Je (i := 0) (show List.Nodup (["_law_row","_law_kind","_law_day"] : List Str) from by decide +kernel) rfl (Or.inl rfl)) (fun _ _ _ _ _ => J17 (Jl J0c (Jv J0B (pv 0) (pv 2) (fun _ _ => rfl)) (pv 1) (Jq _))) (fun _ _ _ _ _ => (pv 0))) J1)))
   (J2 (J2y (JB J47 (hr.mono (by decide)) (J0 (pv 5) (J0 (pv 0) (J0 (pv 20) J1)))) (J65 (K := K) (n := 2) rfl rfl (Jk (Je (i := 22) Jj.nd rfl (Or.inl rfl)) (Jk (Je (i := 23) Jj.nd rfl (Or.inl rfl)) J08))))
   (J9 (J1R (JO (PW.pt (J4i (Jl J5Q (pv 21) (pv 22) (Jq _)) (J4v (Jl J3m (pv 21) (pv 23) (Jq _))))) (J9 (J0D (J1O PySem.F.plainAttrs_list PySem.F.slot_list_append PySem.F.type_list_append JW (pv 19) (J0 (JS (J0 (pv 0) (J0 (Js (l := [110,101,101,100]) (by decide +kernel)) (J0 (pv 20) (J0 (pv 21) J1))))) J1)))) Jw))))))
   (J9 (Jt (Jd J3z (Jd J3z (Jd J3z (pv 11) (pv 12)) (pv 19)) (pv 13)))))))))))),?_⟩
  walk_at "st"
  clear J2K J47
  have htp := hP.tp
  have c1 := s8a (.int dd) (T ks) (.ref a1) (.ref a2) (.ref a3) (.ref a4) (.ref a5) (.ref a6)
  have c2 := s8b (.int dd) (T ks) (.ref a1) (.ref a2) (.ref a3) (.ref a4) (.ref a5) (.ref a6)
  walk_at "rd"
  intro t1 nt1
  rw [c8a]
  obtain ⟨Ha,e1,g1,s1⟩ := newt (xs := [V.int dd,T ks,.ref a1,.ref a2]) nt1
  rw [← e1]
  have htp1 := s1 _ _ htp
  walk_at "rd"
  intro t2 nt2
  rw [c8b]
  obtain ⟨Hb,e2,g2,s2⟩ := newt (xs := [V.ref a3,.ref a4,.ref a5,.ref a6]) nt2
  rw [← e2]
  walk_at "rd"
  intro b1 m1
  obtain ⟨Hc,e3,k1,s3⟩ := newl (xs := []) m1
  rw [← e3]
  walk_at "rd"
  intro b2 m2
  obtain ⟨Hd,e4,k2,s4⟩ := newl (xs := []) m2
  rw [← e4]
  walk_at "rd"
  intro b3 m3
  obtain ⟨He,e5,k3,s5⟩ := newl (xs := []) m3
  rw [← e5]
  have te : Same H He := (((s1.trans s2).trans s3).trans s4).trans s5
  have z1 := (s4.trans s5) _ _ k1
  have z2 := s5 _ _ k2
  have hpe := te _ _ hP.h2
  have hre := te _ _ hr1
  clear htp c1 c2 e1 e2 e3 e4 e5 g1 g2 s1 s2 s3 s4 s5 m1 m2 m3 nt1 nt2 htp1 k1 k2
  have hyl := hP.n2.len
  walk_at "rd"
  refine J76 (K := K) (xs := ys) (ys := rows.map T) (fun i σ H2 => Here (∃ v1 v2 v3 v4 v5 b1 b2 b3 y1 y2 y3,σ = [some (.int d),some (.ref pt),some (.ref r),some (.int dd),some (T ks),some (.ref a1),some (.ref a2),some (.ref a3),some (.ref a4),some (.ref a5),some (.ref a6),some (.ref b1),some (.ref b2),some (.ref b3),v1,v2,v3,v4,v5,none,none,none,none,none] ∧ H2 b1 = some (.lst y1) ∧ All2 TpV H2 (((((ps.zip rows).take i).filter (onB d)).filter (skB d)).map (skV d)) y1 ∧ H2 b2 = some (.lst y2) ∧ All2 TpV H2 (((((ps.zip rows).take i).filter (onB d)).filter (lvB ls d)).map (lvV d)) y2 ∧ H2 b3 = some (.lst y3) ∧ All2 TpV H2 (((((ps.zip rows).take i).filter (onB d)).filter (moB d)).map (moV d)) y3 ∧ y1.length ≤ i ∧ y2.length ≤ i ∧ y3.length ≤ i ∧ Same H H2))
   (Here.mk ⟨none,none,none,none,none,b1,b2,b3,[],[],[],rfl,z1,trivial,z2,trivial,k3,trivial,Nat.le_refl _,Nat.le_refl _,Nat.le_refl _,te⟩) (fun i σ H2 _ _ hv => by obtain ⟨_,_,_,_,_,_,_,_,_,_,_,_,_,_,_,_,_,_,_,_,_,s2⟩ := hv.out; exact ⟨SqL.of (s2 _ _ hP.h2),SqL.of (s2 _ _ hr1)⟩) ?_ ?_
  ·clear z1 z2 k3 te hpe hre
   rintro i x y p σ H2 hx hy hp hv
   obtain ⟨v1,v2,v3,v4,v5,b1,b2,b3,y1,y2,y3,rfl,k1,A1,k2,A2,k3,A3,l1,l2,l3,s2⟩ := hv.out
   obtain ⟨n,hn,pa,rfl,hpa⟩ := hP.n2.back hx
   have hi : i < ps.length := (List.getElem?_eq_some_iff.mp hn).1
   have hrow : rows[i]? = some rows[i] := List.getElem?_eq_getElem (by omega)
   rw [List.getElem?_map,hrow] at hy
   cases hy
   have hz : (ps.zip rows)[i]? = some (n,rows[i]) := by rw [List.getElem?_zip_eq_some]; exact ⟨hn,hrow⟩
   obtain ⟨hd,hrl⟩ := hR.2 rows[i] (List.getElem_mem _)
   generalize rows[i] = row at hd hrl hz
   have d0 := hR.1
   obtain ⟨H3,e3,hp3,s3⟩ := newt (xs := [V.ref pa,T row]) hp
   rw [← e3]
   have t3 := s2.trans s3
   have q1 := t3 _ _ hpa
   have q2 := t3 _ _ hP.h3
   have q3 := hP.n3.imp fun a y => LvT.keeps a y _ _ t3.keeps
   walk_at "rd"
   intro t H4 c1 c2 c3 x1 x2 x3 s4 ht r1 B1 r2 B2 r3 B3
   have t24 := s3.trans s4
   have j1 := t24 _ _ k1
   have L1 : x1.length ≤ 1 := by rw [B1.len]; unfold sk1; split; exact Nat.le_refl 1; exact Nat.zero_le 1
   have L2 : x2.length ≤ 1 := by rw [B2.len]; unfold lv1; split; exact Nat.le_refl 1; exact Nat.zero_le 1
   have L3 : x3.length ≤ 1 := by rw [B3.len]; unfold mo1; split; exact Nat.le_refl 1; exact Nat.zero_le 1
   walk_at "rd"
   intro p1 np1
   obtain ⟨H5,e5,w1,s5⟩ := newl (xs := y1 ++ x1) np1
   rw [← e5]
   have j2 := (t24.trans s5) _ _ k2
   have r2' := s5 _ _ r2
   walk_at "rd"
   intro p2 np2
   obtain ⟨H6,e6,w2,s6⟩ := newl (xs := y2 ++ x2) np2
   rw [← e6]
   have j3 := ((t24.trans s5).trans s6) _ _ k3
   have r3' := (s5.trans s6) _ _ r3
   walk_at "rd"
   intro p3 np3
   obtain ⟨H7,e7,w3,s7⟩ := newl (xs := y3 ++ x3) np3
   rw [← e7]
   have u47 := (s5.trans s6).trans s7
   have u27 := t24.trans u47
   refine Here.mk ⟨_,_,_,_,_,p1,p2,p3,y1 ++ x1,y2 ++ x2,y3 ++ x3,rfl,(s6.trans s7) _ _ w1,?_,s7 _ _ w2,?_,w3,?_,by rw [List.length_append]; omega,by rw [List.length_append]; omega,by rw [List.length_append]; omega,s2.trans u27⟩
   ·rw [J8F hz]
    exact All2.app (A1.imp fun a y => TpV.keeps a y _ _ u27.keeps) (B1.imp fun a y => TpV.keeps a y _ _ u47.keeps)
   ·rw [J8F hz]
    exact All2.app (A2.imp fun a y => TpV.keeps a y _ _ u27.keeps) (B2.imp fun a y => TpV.keeps a y _ _ u47.keeps)
   ·rw [J8F hz]
    exact All2.app (A3.imp fun a y => TpV.keeps a y _ _ u27.keeps) (B3.imp fun a y => TpV.keeps a y _ _ u47.keeps)
  clear z1 z2 k3 te hpe hre
  rintro i σ H2 hi hv
  obtain ⟨v1,v2,v3,v4,v5,b1,b2,b3,y1,y2,y3,rfl,k1,A1,k2,A2,k3,A3,l1,l2,l3,s2⟩ := hv.out
  rw [List.length_map] at hi
  have hi8 : i ≤ 8 := by omega
  rw [List.take_of_length_le (by rw [List.length_zip]; omega)] at A1 A2 A3
  walk_at "rd"
  intro sl nsl
  have f2 : H sl = none := s2.free nsl
  have sa : Same H2 (upd H2 sl (.lst [])) := Ji nsl _
  walk_at "rd"
  refine Jbu (l := ks) (fun i σ H3 => Here (∃ w1 w2 w3 w4 xs',σ = [some (.int d),some (.ref pt),some (.ref r),some (.int dd),some (T ks),some (.ref a1),some (.ref a2),some (.ref a3),some (.ref a4),some (.ref a5),some (.ref a6),some (.ref b1),some (.ref b2),some (.ref b3),v1,v2,v3,v4,v5,some (.ref sl),w1,w2,w3,w4] ∧ H3 sl = some (.lst xs') ∧ All2 TpV H3 (((ks.take i).filter (neB nds rows d)).map (neV rows d)) xs' ∧ Same H2 H3)) (Here.mk ⟨none,none,none,none,[],rfl,J7,trivial,sa⟩) ?_ ?_
  ·rintro i k σ H3 hk hv
   obtain ⟨w1,w2,w3,w4,xs',rfl,hf3,hA3,s3⟩ := hv.out
   have t3 := s2.trans s3
   have hr3 := t3 _ _ hr1
   have hxl : xs'.length ≤ 10 := by
    have h1 := hA3.len
    have h2 := List.length_filter_le (neB nds rows d) (ks.take i)
    rw [List.length_map] at h1
    rw [List.length_take] at h2
    omega
   walk_at "rd"
   refine J0k rows (fun r => decide (mkA r d = k)) (fun _ _ _ => True) (fun σ => ∃ v,σ = [v,some (T [k]),some (.int d)]) (J16 (SqL.of hr3)) (by rw [List.length_map]) (by omega) ⟨_,rfl⟩ (fun _ _ _ _ _ z => z) (fun j row v σ H' hj hv hσ s' Rf Rt hF hR' => ?_) (fun D H4 ds hD s4 hds hDD => ?_)
   ·obtain ⟨u1,rfl⟩ := hσ
    rw [List.getElem?_map,hj] at hv
    cases hv
    obtain ⟨hd,hrl⟩ := hR.2 row (List.mem_of_getElem? hj)
    have e := J4g hR.1 hd
    walk_at "rd"
    refine ite2 (fun c => ?_) (fun c => ?_)
    ·have c' : mkA row d = k := by simpa using J1V (of_decide_eq_true c)
     walk_at "rd"
     exact hR' _ _ _ (decide_eq_true c') ⟨_,rfl⟩ (Same.refl _) trivial
    ·exact hF _ _ (decide_eq_false fun z => c (decide_eq_true (by rw [z]))) ⟨_,rfl⟩ (Same.refl _)
   have hyl' : ds.length = cntF rows d k := hds.len
   have t4 := t3.trans s4
   have q1 := t4 _ _ hP.h1
   have q2 := hP.n1.imp fun a y => NdAt.keeps a y _ _ t4.keeps
   walk_at "rd"
   rw [hyl']
   clear hds hDD hyl' hD
   walk_at "rd"
   intro t H5 s5 ht
   have u35 := s4.trans s5
   have hf5 := u35 _ _ hf3
   have ek : ((ks.take (i + 1)).filter (neB nds rows d)).map (neV rows d) = ((ks.take i).filter (neB nds rows d)).map (neV rows d) ++ (if neB nds rows d k = true then [neV rows d k] else []) := by
    rw [List.take_add_one,hk,List.filter_append,List.map_append]
    congr 1
    show (List.filter (neB nds rows d) [k]).map _ = _
    rw [List.filter_cons]
    split <;> rfl
   walk_at "rd"
   refine tCut.mk (fun σ' H' => Here (∃ xs',σ' = [some (.int d),some (.ref pt),some (.ref r),some (.int dd),some (T ks),some (.ref a1),some (.ref a2),some (.ref a3),some (.ref a4),some (.ref a5),some (.ref a6),some (.ref b1),some (.ref b2),some (.ref b3),v1,v2,v3,v4,v5,some (.ref sl),some (T [k]),some (.int (cntF rows d k : Nat)),some (.int (J1y nds d k).1),some (.int (J1y nds d k).2)] ∧ H' sl = some (.lst xs') ∧ All2 TpV H' (((ks.take (i + 1)).filter (neB nds rows d)).map (neV rows d)) xs' ∧ Same H2 H')) ?_ (fun σ' H' hv => by obtain ⟨x,e,g1,g2,g3⟩ := hv.out; exact Here.mk ⟨_,_,_,_,x,e,g1,g2,g3⟩)
   have put : neB nds rows d k = true → ∀ t2,H5 t2 = none → Here (∃ xq,[some (.int d),some (.ref pt),some (.ref r),some (.int dd),some (T ks),some (.ref a1),some (.ref a2),some (.ref a3),some (.ref a4),some (.ref a5),some (.ref a6),some (.ref b1),some (.ref b2),some (.ref b3),v1,v2,v3,v4,v5,some (.ref sl),some (T [k]),some (.int (cntF rows d k : Nat)),some (.int (J1y nds d k).1),some (.int (J1y nds d k).2)] = [some (.int d),some (.ref pt),some (.ref r),some (.int dd),some (T ks),some (.ref a1),some (.ref a2),some (.ref a3),some (.ref a4),some (.ref a5),some (.ref a6),some (.ref b1),some (.ref b2),some (.ref b3),v1,v2,v3,v4,v5,some (.ref sl),some (T [k]),some (.int (cntF rows d k : Nat)),some (.int (J1y nds d k).1),some (.int (J1y nds d k).2)] ∧ upd (upd H5 t2 (.tup [.int d,T J2G,T [k],.int (cntF rows d k : Nat)])) sl (.lst (xs' ++ [.ref t2])) sl = some (.lst xq) ∧ All2 TpV (upd (upd H5 t2 (.tup [.int d,T J2G,T [k],.int (cntF rows d k : Nat)])) sl (.lst (xs' ++ [.ref t2]))) (((ks.take (i + 1)).filter (neB nds rows d)).map (neV rows d)) xq ∧ Same H2 (upd (upd H5 t2 (.tup [.int d,T J2G,T [k],.int (cntF rows d k : Nat)])) sl (.lst (xs' ++ [.ref t2])))) := fun hb t2 ht2 => by
    have s6 : Same H5 (upd H5 t2 (.tup [.int d,T J2G,T [k],.int (cntF rows d k : Nat)])) := Ji ht2 _
    have kk : JV (upd H5 t2 (.tup [.int d,T J2G,T [k],.int (cntF rows d k : Nat)])) (upd (upd H5 t2 (.tup [.int d,T J2G,T [k],.int (cntF rows d k : Nat)])) sl (.lst (xs' ++ [.ref t2]))) := JP (s6 _ _ hf5)
    refine Here.mk ⟨xs' ++ [.ref t2],rfl,J7,?_,((s3.trans u35).trans s6).upd nsl⟩
    rw [ek,if_pos hb]
    exact All2.snoc (hA3.imp fun a y => TpV.keeps a y _ _ ((u35.trans s6).keeps.trans kk)) ⟨t2,rfl,kk _ _ J7 (fun zs z => by cases z)⟩
   walk_at "rd"
   refine ite2 (fun c1 => ?_) (fun c1 => ?_)
   ·walk_at "rd"
    intro t2 ht2
    have hf6 := Ji ht2 (.tup [.int d,T J2G,T [k],.int (cntF rows d k : Nat)]) _ _ hf5
    walk_at "rd"
    exact put (by unfold neB; rw [c1]; rfl) t2 ht2
   ·walk_at "rd"
    refine ite2 (fun c2 => ?_) (fun c2 => ?_)
    ·walk_at "rd"
     intro t2 ht2
     have hf6 := Ji ht2 (.tup [.int d,T J2G,T [k],.int (cntF rows d k : Nat)]) _ _ hf5
     walk_at "rd"
     exact put (by unfold neB; rw [c2,Bool.or_true]) t2 ht2
    ·have hb : ¬ neB nds rows d k = true := by unfold neB; rw [Bool.eq_false_iff.mpr c1,Bool.eq_false_iff.mpr c2]; decide
     walk_at "rd"
     refine Here.mk ⟨xs',rfl,hf5,?_,s3.trans u35⟩
     rw [ek,if_neg hb,List.append_nil]
     exact hA3.imp fun a y => TpV.keeps a y _ _ u35.keeps
  rintro σ H3 hv
  obtain ⟨w1,w2,w3,w4,xs',rfl,hf3,hA3,s3⟩ := hv.out
  rw [List.take_of_length_le (Nat.le_refl _)] at hA3
  have lx : xs'.length ≤ 4 := by rw [hA3.len]; exact J8R hk4
  have j1 := s3 _ _ k1
  have j2 := s3 _ _ k2
  walk_at "rd"
  intro p1 np1
  obtain ⟨H4,e4,g4,s4⟩ := newl (xs := y1 ++ y2) np1
  rw [← e4]
  have hf4 := s4 _ _ hf3
  walk_at "rd"
  intro p2 np2
  obtain ⟨H5,e5,g5,s5⟩ := newl (xs := y1 ++ y2 ++ xs') np2
  rw [← e5]
  have j3 := ((s3.trans s4).trans s5) _ _ k3
  walk_at "rd"
  intro p3 np3
  have s6 : Same H5 (upd H5 p3 (.lst (y1 ++ y2 ++ xs' ++ y3))) := Ji np3 _
  have u3 := (s4.trans s5).trans s6
  have u2 := s3.trans u3
  refine q p3 _ _ (s2.trans u2) J7 ?_
  exact All2.app (All2.app (All2.app (A1.imp fun a y => TpV.keeps a y _ _ u2.keeps) (A2.imp fun a y => TpV.keeps a y _ _ u2.keeps)) (hA3.imp fun a y => TpV.keeps a y _ _ u3.keeps)) (A3.imp fun a y => TpV.keeps a y _ _ u2.keeps)
end
theorem at8 (a b c d e f g h : V) : atI [a,b,c,d,e,f,g,h] 3 = some d ∧ atI [a,b,c,d,e,f,g,h] 7 = some h := by simp [atI,ixN]
theorem Je8 {prs : List Pr} {i : Nat} {a : Pr} (h : prs[i]? = some a) : prAt prs i = a := by
 unfold prAt
 rw [List.getD_eq_getElem?_getD,h]
 rfl
theorem JcZ (prs : List Pr) (rows : List (List Nat)) (d : Int) (k : Nat) : paL prs rows d (k + 1) = paL prs rows d k ++ (if paB rows d (prAt prs k) = true then [paV d prs k] else []) := by
 unfold paL
 rw [List.range_succ,List.filter_append,List.map_append]
 congr 1
 rw [List.filter_cons]
 split <;> rfl
noncomputable def JeK : Sp := fun vs H Q _ => ∃ (d : Int) (pt r : Addr) (dd : Int) (ks : List Nat) (nds : List Nd) (ps : List Ps) (ls : List (List Nat × Int)) (rts : List Rt) (prs : List Pr) (a1 a2 a3 a4 a5 a6 : Addr) (xs ys zs ws rs qs : List V) (rows : List (List Nat)),vs = [.int d,.ref pt,.ref r] ∧ Pts H pt dd ks nds ps ls rts prs a1 a2 a3 a4 a5 a6 xs ys zs ws rs qs ∧ H r = some (.lst (rows.map T)) ∧ rows.length = ps.length ∧ ps.length ≤ 8 ∧ qs.length ≤ 8 ∧ (∀ p ∈ prs,PrG ps p) ∧ ROk rows d ∧
 ∀ (D : Addr) (H' : Hp) (ys : List V),Same H H' → H' D = some (.lst ys) → All2 TpV H' (paF prs rows d) ys → Q (.ref D) H'
section
variable {P : Program} {w : World} {K : PySem.W.Frag} {mg : Str → Option Value} {base : Heap} {Jb Jf Ja Jh J8 Jn J5 J3 : Addr}
theorem J4C (tx : Tx K mg Jb Jf Ja Jh J8 Jn J5 J3) : FnG P w K mg base "_law_pair_faults" 1 ["_law_day","_law_parts_here","_law_rota_here"] JeK := by
 refine tx.J4J.g JQ (fun _ _ _ _ _ _ us hl => match us,hl with | [_,_,_],_ => rfl) (fun vs H Q E h => ?_) (fun f cdv A outer s H vs Q E hr h => ?_)
 ·obtain ⟨d,pt,r,dd,ks,nds,ps,ls,rts,prs,a1,a2,a3,a4,a5,a6,xs,ys,zs,ws,rs,qs,rows,rfl,_⟩ := h
  rfl
 ·obtain ⟨d,pt,r,dd,ks,nds,ps,ls,rts,prs,a1,a2,a3,a4,a5,a6,xs,ys,zs,ws,rs,qs,rows,rfl,hP,hr1,hl,hp8,hq8,hG,⟨d0,hR⟩,q⟩ := h
  refine ⟨_,(J2 (J44 (k := 3) (osc := J4 J0g) (ON := ["_law_day","_law_parts_here","_law_rota_here","_law_names","_law_found","_law_k","_law_word","_law_name_here","_law_other","_law_one","_law_two"]) (N := ["_law_person_here"]) (js := [none]) JQ.nd rfl (Or.inl rfl) ⟨rfl,by decide +kernel,by decide +kernel,by decide +kernel,rfl,by decide +kernel⟩ rfl rfl rfl (J0J (K := K) rfl (Jv (JZ (K := K) rfl) (pv 1) J6 (fun _ _ => rfl))) (fun _ _ _ _ _ => Je (i := 0) (show List.Nodup (["_law_person_here"] : List Str) from by decide +kernel) rfl (Or.inl rfl)) (fun _ _ _ _ _ => J0A) (fun _ _ _ _ _ => (Jv (JZ (K := K) rfl) (pv 0) J6 (fun _ _ => rfl))))
   (J2 (Jm (i := 4) JQ.nd rfl (Or.inl rfl) (J0b J1))
   (J2 (J0E PassesOwn.never rfl (J06 rfl tx.J0m (J0 (Ju (JH (K := K) rfl) rfl tx.J05 PySem.boot_len (J0 (Jv (JZ (K := K) rfl) (pv 1) J6 (fun _ _ => rfl)) J1)) J1)) (Je (i := 5) JQ.nd rfl (Or.inl rfl)) (J2 (J2y (Jv (Jz (K := K) rfl) (Jv (JZ (K := K) rfl) (pv 1) J6 (fun _ _ => rfl)) (pv 5) (fun _ _ => rfl)) (J0Y rfl (Jk (Je (i := 6) JQ.nd rfl (Or.inl rfl)) (Jk (Je (i := 7) JQ.nd rfl (Or.inl rfl)) (Jk (Je (i := 8) JQ.nd rfl (Or.inl rfl)) J08)))))
   (J2 (Jm (i := 9) JQ.nd rfl (Or.inl rfl) (Jv J0B (Jv (Jz (K := K) rfl) (pv 2) (J1O PySem.F.plainAttrs_list PySem.F.slot_list_index PySem.F.type_list_index J9w (pv 3) (J0 (pv 7) J1)) (fun _ _ => rfl)) (pv 0) (fun _ _ => rfl)))
   (J2 (Jm (i := 10) JQ.nd rfl (Or.inl rfl) (Jv J0B (Jv (Jz (K := K) rfl) (pv 2) (J1O PySem.F.plainAttrs_list PySem.F.slot_list_index PySem.F.type_list_index J9w (pv 3) (J0 (pv 8) J1)) (fun _ _ => rfl)) (pv 0) (fun _ _ => rfl)))
   (J2 (JO (PW.pt (J1x (Jl J0c (pv 6) (Js (l := [97,112,97,114,116]) (by decide +kernel)) (Jq _)) (J1x (Jl J2Y (pv 9) (Js (l := [45]) (by decide +kernel)) (Jq _)) (J1N (Jl J0c (pv 9) (pv 10) (Jq _)))))) (J9 (J0D (J1O PySem.F.plainAttrs_list PySem.F.slot_list_append PySem.F.type_list_append JW (pv 4) (J0 (JS (J0 (pv 0) (J0 (Js (l := [112,97,105,114]) (by decide +kernel)) (J0 (pv 7) (J0 (pv 5) J1))))) J1)))) Jw)
   (J9 (JO (PW.pt (J1x (Jl J0c (pv 6) (Js (l := [119,105,116,104]) (by decide +kernel)) (Jq _)) (J1x (Jl J2Y (pv 9) (Js (l := [45]) (by decide +kernel)) (Jq _)) (J1N (Jl J2Y (pv 9) (pv 10) (Jq _)))))) (J9 (J0D (J1O PySem.F.plainAttrs_list PySem.F.slot_list_append PySem.F.type_list_append JW (pv 4) (J0 (JS (J0 (pv 0) (J0 (Js (l := [112,97,105,114]) (by decide +kernel)) (J0 (pv 7) (J0 (pv 5) J1))))) J1)))) Jw)))))))
   (J9 (Jt (pv 4)))))),?_⟩
  walk_at "st"
  have htp := hP.tp
  have h2 := hP.h2
  obtain ⟨e3,e7⟩ := at8 (.int dd) (T ks) (.ref a1) (.ref a2) (.ref a3) (.ref a4) (.ref a5) (.ref a6)
  walk_at "rd"
  refine J0k ps (fun _ => true) (fun n y _ => y = T n.nm) (fun σ => ∃ v,σ = [v]) (J16 (SqL.of h2)) hP.n2.len (by omega) ⟨_,rfl⟩ (fun _ _ _ _ _ z => z) (fun i n v σ H' hn hv hσ s' Rf Rt _ hR' => ?_) (fun Dn H1 ds nD s1 hds hDn => ?_)
  ·obtain ⟨u,rfl⟩ := hσ
   obtain ⟨y,hy,t,rfl,ht⟩ := hP.n2.get hn
   rw [hv] at hy
   cases hy
   have ht' := s' _ _ ht
   obtain ⟨w0,_⟩ := at5 (T n.nm) (T n.sk) (.int n.most) (.int n.car) (T n.past)
   walk_at "rd"
   exact hR' _ _ _ rfl ⟨_,rfl⟩ (Same.refl _) rfl
  rw [List.filter_eq_self.mpr fun _ _ => rfl] at hds
  have eds : ds = (ps.map (·.nm)).map T := by
   rw [hds.eqmap (f := fun n => T n.nm) (fun a y e => e),List.map_map]
   rfl
  rw [eds] at hDn
  clear hds eds nD
  have htp1 := s1 _ _ htp
  have hq1 := s1 _ _ hP.h6
  have hql : qs.length = prs.length := hP.n6.len
  walk_at "rd"
  intro fl nfl
  obtain ⟨H2,e2,hfl,s2⟩ := newl (xs := []) nfl
  rw [← e2]
  clear e2
  have htp2 := s2 _ _ htp1
  have hq2 := s2 _ _ hq1
  walk_at "rd"
  refine J2g (n := ((qs.length : Nat) : Int).toNat) (fun k σ H3 => Here (∃ v1 v2 v3 v4 v5 v6 es,σ = [some (.int d),some (.ref pt),some (.ref r),some (.ref Dn),some (.ref fl),v1,v2,v3,v4,v5,v6] ∧ H3 fl = some (.lst es) ∧ All2 TpV H3 (paL prs rows d k) es ∧ Same H1 H3))
   (Here.mk ⟨none,none,none,none,none,none,[],rfl,hfl,trivial,s2⟩) ?_ ?_
  ·rintro k σ H3 hk hv
   obtain ⟨v1,v2,v3,v4,v5,v6,es,rfl,hf3,hA3,s3⟩ := hv.out
   have hk' : k < prs.length := by omega
   have hpr : prs[k]? = some prs[k] := List.getElem?_eq_getElem hk'
   generalize prs[k] = pr at hpr
   obtain ⟨⟨hi,hif⟩,⟨hj,hjf⟩⟩ := (hG pr (List.mem_of_getElem? hpr)).1
   have hwd := (hG pr (List.mem_of_getElem? hpr)).2
   obtain ⟨yk,hyk,tk,rfl,htk⟩ := hP.n6.get hpr
   have esl : es.length ≤ 8 := by rw [hA3.len]; exact Nat.le_trans (J54 _ _ _ _) (by omega)
   have eS := JcZ prs rows d k
   have ePr := Je8 hpr
   rw [ePr] at eS
   have eV : paV d prs k = [.int d,T J4Z,T pr.one,.int (k : Int)] := by unfold paV; rw [ePr]
   rw [eV] at eS
   clear ePr eV
   obtain ⟨wd,one,two,pi,pj⟩ := pr
   have il : pi < rows.length := by have := (List.getElem?_eq_some_iff.mp hi).1; rw [List.length_map] at this; rw [hl]; exact this
   have jl : pj < rows.length := by have := (List.getElem?_eq_some_iff.mp hj).1; rw [List.length_map] at this; rw [hl]; exact this
   have hri : rows[pi]? = some rows[pi] := List.getElem?_eq_getElem il
   have hrj : rows[pj]? = some rows[pj] := List.getElem?_eq_getElem jl
   have gi : rows.getD pi [] = rows[pi] := by rw [List.getD_eq_getElem?_getD,hri]; rfl
   have gj : rows.getD pj [] = rows[pj] := by rw [List.getD_eq_getElem?_getD,hrj]; rfl
   have eB : paB rows d ⟨wd,one,two,pi,pj⟩ = brkB wd (mkA rows[pi] d) (mkA rows[pj] d) := by
    show brkB wd (mkA (rows.getD pi []) d) (mkA (rows.getD pj []) d) = _
    rw [gi,gj]
   rw [eB] at eS
   clear eB gi gj
   generalize rows[pi] = rowi at hri eS
   generalize rows[pj] = rowj at hrj eS
   have mi := J4g d0 (hR rowi (List.mem_of_getElem? hri)).1
   have li := (hR rowi (List.mem_of_getElem? hri)).2
   have lj := (hR rowj (List.mem_of_getElem? hrj)).2
   have mj := J4g d0 (hR rowj (List.mem_of_getElem? hrj)).1
   have ai : atI (rows.map T) (pi : Int) = some (T rowi) := J15 (by rw [List.getElem?_map,hri]; rfl)
   have aj : atI (rows.map T) (pj : Int) = some (T rowj) := J15 (by rw [List.getElem?_map,hrj]; rfl)
   have ak : atI qs (0 + (k : Int)) = some (.ref tk) := by rw [Int.zero_add]; exact J15 hyk
   have htp3 := s3 _ _ htp1
   have hq3 := s3 _ _ hq1
   have htk3 := (s1.trans s3) _ _ htk
   have hDn3 := s3 _ _ hDn
   have hr3 := (s1.trans s3) _ _ hr1
   generalize mkA rowi d = m at mi eS
   generalize mkA rowj d = o at mj eS
   have yes : brkB wd m o = true → ∀ (t : Addr) (H4 : Hp),H3 t = none → H4 = upd H3 t (.tup [.int d,T J4Z,T one,.int (0 + (k : Int))]) → All2 TpV (upd H4 fl (.lst (es ++ [.ref t]))) (paL prs rows d (k + 1)) (es ++ [.ref t]) ∧ H4 fl = some (.lst es) ∧ Same H1 (upd H4 fl (.lst (es ++ [.ref t]))) := fun hb t H4 nt e4 => by
    have s4 : Same H3 H4 := by rw [e4]; exact Ji nt _
    have ht4 : H4 t = some (.tup [.int d,T J4Z,T one,.int (k : Int)]) := by rw [e4,Int.zero_add]; exact J7
    have hf4 := s4 _ _ hf3
    have kk : JV H4 (upd H4 fl (.lst (es ++ [.ref t]))) := JP hf4
    refine ⟨?_,hf4,(s3.trans s4).upd nfl⟩
    rw [eS,if_pos hb]
    exact All2.snoc (hA3.imp fun a y => TpV.keeps a y _ _ (s4.keeps.trans kk)) ⟨t,rfl,kk _ _ ht4 fun zs z => by cases z⟩
   have nope : brkB wd m o = false → All2 TpV H3 (paL prs rows d (k + 1)) es := fun hb => by
    rw [eS,if_neg (by rw [hb]; exact Bool.false_ne_true),List.append_nil]
    exact hA3
   have dT : ∀ x y : Nat,decide (T [x] = T [y]) = decide (x = y) := fun x y => by
    rw [T_eq]
    by_cases z : x = y
    ·subst z; simp
    ·rw [decide_eq_false z,decide_eq_false fun y => z (by simpa using y)]
   clear eS
   rcases hwd with hwd | hwd
   ·have hwd' : wd = J5A := hwd
    subst hwd'
    have bv : brkB J5A m o = (!decide (m = 45) && decide (m = o)) := by unfold brkB; rw [if_pos rfl]
    rw [bv] at yes nope
    walk_at "rd"
    refine ite2 (fun c1 => ?_) (fun c1 => ?_)
    ·have c1' : decide (m = 45) = false := by rw [← dT]; cases z : decide (T [m] = T [45]) with | false => rfl | true => rw [z] at c1; cases c1
     rw [c1',Bool.not_false,Bool.true_and] at yes nope
     walk_at "rd"
     refine ite2 (fun c2 => ?_) (fun c2 => ?_)
     ·rw [dT] at c2
      walk_at "rd"
      intro t nt
      obtain ⟨H4,e4⟩ : ∃ H4,H4 = upd H3 t (.tup [.int d,T J4Z,T one,.int (0 + (k : Int))]) := ⟨_,rfl⟩
      obtain ⟨y1,y2,y3⟩ := yes c2 t H4 nt e4
      rw [← e4]
      walk_at "rd"
      exact Here.mk ⟨_,_,_,_,_,_,_,rfl,J7,y1,y3⟩
     ·rw [dT] at c2
      walk_at "rd"
      exact Here.mk ⟨_,_,_,_,_,_,es,rfl,hf3,nope (Bool.eq_false_iff.mpr c2),s3⟩
    ·have c1' : decide (m = 45) = true := by rw [← dT]; cases z : decide (T [m] = T [45]) with | true => rfl | false => rw [z] at c1; exact absurd rfl c1
     rw [c1',Bool.not_true,Bool.false_and] at nope
     walk_at "rd"
     exact Here.mk ⟨_,_,_,_,_,_,es,rfl,hf3,nope rfl,s3⟩
   ·have hwd' : wd = JcP := hwd
    subst hwd'
    have bv : brkB JcP m o = (!decide (m = 45) && !decide (m = o)) := by unfold brkB; rw [if_neg (by decide)]
    rw [bv] at yes nope
    walk_at "rd"
    refine ite2 (fun c1 => ?_) (fun c1 => ?_)
    ·have c1' : decide (m = 45) = false := by rw [← dT]; cases z : decide (T [m] = T [45]) with | false => rfl | true => rw [z] at c1; cases c1
     rw [c1',Bool.not_false,Bool.true_and] at yes nope
     walk_at "rd"
     refine ite2 (fun c2 => ?_) (fun c2 => ?_)
     ·rw [dT] at c2
      walk_at "rd"
      intro t nt
      obtain ⟨H4,e4⟩ : ∃ H4,H4 = upd H3 t (.tup [.int d,T J4Z,T one,.int (0 + (k : Int))]) := ⟨_,rfl⟩
      obtain ⟨y1,y2,y3⟩ := yes c2 t H4 nt e4
      rw [← e4]
      walk_at "rd"
      exact Here.mk ⟨_,_,_,_,_,_,_,rfl,J7,y1,y3⟩
     ·rw [dT] at c2
      walk_at "rd"
      exact Here.mk ⟨_,_,_,_,_,_,es,rfl,hf3,nope (Bool.eq_false_iff.mpr c2),s3⟩
    ·have c1' : decide (m = 45) = true := by rw [← dT]; cases z : decide (T [m] = T [45]) with | true => rfl | false => rw [z] at c1; exact absurd rfl c1
     rw [c1',Bool.not_true,Bool.false_and] at nope
     walk_at "rd"
     exact Here.mk ⟨_,_,_,_,_,_,es,rfl,hf3,nope rfl,s3⟩
  ·rintro σ H3 hv
   obtain ⟨v1,v2,v3,v4,v5,v6,es,rfl,hf3,hA3,s3⟩ := hv.out
   walk_at "rd"
   refine q fl H3 es (s1.trans s3) hf3 ?_
   unfold paF
   rw [← hql]
   rw [Int.toNat_natCast] at hA3
   exact hA3
end
noncomputable def J5S (x : List V) : Prop := ∀ v ∈ x,(∃ i,v = .int i) ∨ ∃ z,v = .str z
theorem J5S.flat {x : List V} (h : J5S x) : x.all J0l = true := List.all_eq_true.mpr fun v hv => by
 rcases h v hv with ⟨i,rfl⟩ | ⟨z,rfl⟩ <;> rfl
theorem p4 {a b : V} {x y : List Nat} {i : Int} (hb : (∃ i,b = .int i) ∨ ∃ z,b = .str z) : J5S [.int i,T x,T y,b] := fun v hv => by
 simp only [List.mem_cons,List.not_mem_nil,or_false] at hv
 rcases hv with rfl | rfl | rfl | rfl
 ·exact .inl ⟨_,rfl⟩
 ·exact .inr ⟨_,rfl⟩
 ·exact .inr ⟨_,rfl⟩
 ·exact hb
theorem JbN {ks : List Nat} {nds : List Nd} {ls : List (List Nat × Int)} {rls : List Ru} {prs : List Pr} {ps : List Ps} {rows : List (List Nat)} {d : Int} : ∀ x ∈ dayF ks nds ls rls prs ps rows d,J5S x ∧ x.length ≤ 10 := by
 intro x hx
 unfold dayF at hx
 simp only [List.mem_append] at hx
 rcases hx with ((((hx | hx) | hx) | hx) | hx) | hx
 ·obtain ⟨p,_,rfl⟩ := List.mem_map.mp hx
  exact ⟨p4 (a := .non) (.inr ⟨_,rfl⟩),show 4 ≤ 10 by decide⟩
 ·obtain ⟨p,_,rfl⟩ := List.mem_map.mp hx
  exact ⟨p4 (a := .non) (.inr ⟨_,rfl⟩),show 4 ≤ 10 by decide⟩
 ·obtain ⟨p,_,rfl⟩ := List.mem_map.mp hx
  exact ⟨p4 (a := .non) (.inl ⟨_,rfl⟩),show 4 ≤ 10 by decide⟩
 ·obtain ⟨p,_,rfl⟩ := List.mem_map.mp hx
  exact ⟨p4 (a := .non) (.inl ⟨_,rfl⟩),show 4 ≤ 10 by decide⟩
 ·unfold ruF at hx
  obtain ⟨l,hl,hx⟩ := List.mem_flatten.mp hx
  obtain ⟨a,_,rfl⟩ := List.mem_map.mp hl
  obtain ⟨p,_,rfl⟩ := List.mem_map.mp hx
  exact ⟨p4 (a := .non) (.inl ⟨_,rfl⟩),show 4 ≤ 10 by decide⟩
 ·obtain ⟨p,_,rfl⟩ := List.mem_map.mp hx
  exact ⟨p4 (a := .non) (.inl ⟨_,rfl⟩),show 4 ≤ 10 by decide⟩
theorem J5F {ks : List Nat} {nds : List Nd} {ls : List (List Nat × Int)} {rls : List Ru} {prs : List Pr} {ps : List Ps} {rows : List (List Nat)} : ∀ n,∀ x ∈ allF ks nds ls rls prs ps rows n,J5S x ∧ x.length ≤ 10
 | 0 => fun x hx => by simp [allF] at hx
 | n + 1 => fun x hx => by
  rw [allF] at hx
  rcases List.mem_append.mp hx with hx | hx
  ·exact J5F n x hx
  ·exact JbN x hx
noncomputable def JdP : Sp := fun vs H Q _ => ∃ (f g : Addr) (xs ys : List V) (fs : List (List V)),vs = [.ref f,.ref g] ∧ H f = some (.lst xs) ∧ All2 TpV H fs xs ∧ H g = some (.lst ys) ∧ All2 TpV H fs ys ∧ (∀ x ∈ fs,J5S x ∧ x.length ≤ 10) ∧ ∀ H',Same H H' → Q (.bl true) H'
section
variable {P : Program} {w : World} {K : PySem.W.Frag} {mg : Str → Option Value} {base : Heap} {Jb Jf Ja Jh J8 Jn J5 J3 : Addr}
local macro_rules | `(tactic| walk_at "lk") => `(tactic| exact Or.inr (SqT.of (by with_reducible assumption)))
theorem Jam (tx : Tx K mg Jb Jf Ja Jh J8 Jn J5 J3) : FnG P w K mg base "_law_same" 1 ["_law_found","_law_due"] JdP := by
 refine tx.J9Y.g J3N (fun _ _ _ _ _ _ us hl => match us,hl with | [_,_],_ => rfl) (fun vs H Q E h => ?_) (fun f cdv A outer s H vs Q E hr h => ?_)
 ·obtain ⟨f,g,xs,ys,fs,rfl,_⟩ := h
  rfl
 ·obtain ⟨f,g,xs,ys,fs,rfl,h1,A1,h2,A2,hpl,q⟩ := h
  refine ⟨_,(J2 (JO (PW.pt (J4i (J6U (J2z (Ju JbJ rfl tx.J12 J39 (J0 (pv 0) (J0 (Jdp tx.J1Y J0C) J1))))) (J4v (Jl J2Y (Ju (JH (K := K) rfl) rfl tx.J05 PySem.boot_len (J0 (pv 0) J1)) (Ju (JH (K := K) rfl) rfl tx.J05 PySem.boot_len (J0 (pv 1) J1)) (Jq _))))) (J9 (Jt J4k)) Jw)
   (J2 (J0E PassesOwn.never rfl (J59 (K := K) rfl rfl tx.J4L (J0 (pv 0) (J0 (pv 1) J1))) (J0Y rfl (Jk (Je (i := 2) J3N.nd rfl (Or.inl rfl)) (Jk (Je (i := 3) J3N.nd rfl (Or.inl rfl)) J08))) (J9 (JO (PW.pt (J4i (J6U (J2z (Ju JaU rfl tx.J12 J39 (J0 (pv 2) (J0 (Jdp tx.J4M J9E) J1))))) (J4i (Jl (JeW (K := K) rfl hr.units0) (pv 2) (pv 3) (Jq _)) (J4v (J2z (Ju (J6L (K := K) rfl rfl) rfl tx.J7x Jdc (J0 (J0p (osc := J4 J22) (ON := ["_law_found","_law_due","_law_one","_law_other"]) (N := ["_law_part"]) (js := [none]) ⟨rfl,by decide +kernel,by decide +kernel,by decide +kernel,rfl,by decide +kernel⟩ rfl rfl rfl (Jek (K := K) rfl (pv 2)) (fun _ _ _ _ _ => Je (i := 0) (show List.Nodup (["_law_part"] : List Str) from by decide +kernel) rfl (Or.inl rfl)) (fun _ _ _ _ _ => J0A) (fun _ _ _ _ _ => (Ju JaI rfl tx.J12 J39 (J0 (pv 0) (J0 (Jdp tx.J6h JaT) J1))))) J1))))))) (J9 (Jt J4k)) Jw)))
   (J9 (Jt J4k)))),?_⟩
  walk_at "st"
  have l1 := A1.len
  have l2 := A2.len
  walk_at "rd"
  refine JfW (by rw [l1,l2]) ?_
  walk_at "rd"
  refine J76 (K := K) (xs := xs) (ys := ys) (fun i σ H2 => Here (∃ v1 v2,σ = [some (.ref f),some (.ref g),v1,v2] ∧ Same H H2)) (Here.mk ⟨none,none,rfl,Same.refl _⟩) (fun i σ H2 _ _ hv => by obtain ⟨_,_,_,s2⟩ := hv.out; exact ⟨SqL.of (s2 _ _ h1),SqL.of (s2 _ _ h2)⟩) ?_ ?_
  ·rintro i x y p σ H2 hx hy hp hv
   obtain ⟨v1,v2,rfl,s2⟩ := hv.out
   obtain ⟨w1,e1,t1,rfl,ht1⟩ := A1.back hx
   obtain ⟨w2,e2,t2,rfl,ht2⟩ := A2.back hy
   rw [e1] at e2
   cases e2
   obtain ⟨hw,hwl⟩ := hpl w1 (List.mem_of_getElem? e1)
   have fl := hw.flat
   obtain ⟨H3,e3,hp3,s3⟩ := newt (xs := [V.ref t1,V.ref t2]) hp
   rw [← e3]
   have t3 := s2.trans s3
   have k1 := t3 _ _ ht1
   have k2 := t3 _ _ ht2
   have ee : eqVs w1 w1 = true := J42 fl
   walk_at "rd"
   rw [ee]
   walk_at "rd"
   refine And.intro ⟨w1,SqT.of k1⟩ ?_
   refine J0k w1 (fun _ => true) (fun _ y _ => y = .bl false) (fun σ => ∃ v,σ = [v]) (Jc7 (SqT.of k1)) rfl (by omega) ⟨_,rfl⟩ (fun _ _ _ _ _ z => z) (fun j a v σ H' ha hv hσ s' Rf Rt _ hR => ?_) (fun D H4 zs hD s4 hzs hDD => ?_)
   ·obtain ⟨u,rfl⟩ := hσ
    have hva : v = a := Option.some.inj (hv.symm.trans ha)
    subst hva
    have hva := hw v (List.mem_of_getElem? ha)
    walk_at "rd"
    exact hR _ _ _ rfl ⟨_,rfl⟩ (Same.refl _) rfl
   rw [List.filter_eq_self.mpr fun _ _ => rfl] at hzs
   have ez := hzs.eqmap (f := fun _ => .bl false) (fun a y e => e)
   have hSz : SqL K H4 D ((w1.map fun _ => false).map V.bl) := by rw [List.map_map]; refine SqL.of ?_; rw [hDD,ez]; rfl
   have ea : ((w1.map fun _ => false).any id) = false := by
    rw [List.any_map]
    exact List.any_eq_false.mpr fun _ _ => by simp
   walk_at "rd"
   rw [ea]
   walk_at "rd"
   exact Here.mk ⟨_,_,rfl,t3.trans s4⟩
  ·rintro i σ H2 hi hv
   obtain ⟨v1,v2,rfl,s2⟩ := hv.out
   walk_at "rd"
   exact q H2 s2
end
section
variable {P : Program} {w : World} {K : PySem.W.Frag} {mg : Str → Option Value} {base : Heap} {Jb Jf Ja Jh J8 Jn J5 J3 : Addr}
theorem badq (tx : Tx K mg Jb Jf Ja Jh J8 Jn J5 J3) {H : Hp} {r : R} {p : Addr} (hR : JL (cs6 Jb Jf Ja Jh J8 Jn J5 J3) H r p) (hd : r.depth ≤ 4) : BadQ P w K mg base H p r.bad := by
 obtain ⟨dx,fs,ob,nb,_⟩ := hR.obj
 exact ⟨_,dx,fs,5 + r.depth,_,JfF (cs6 Jb Jf Ja Jh J8 Jn J5 J3) r,ob,nb,J6e (P := P) (w := w) (base := base) tx r,by omega,fun m hm H' Q' k q => ⟨p,m,rfl,hR.keeps k,by omega,q⟩⟩
end
noncomputable def Cs35 (P : Program) (w : World) (K : PySem.W.Frag) (mg : Str → Option Value) (base : Heap) (C1 C2 : Addr) (H : Hp) (ho r du : Addr) : Prop :=
 ∃ (d : Int) (ks : List Nat) (nds : List Nd) (ps : List Ps) (ls : List (List Nat × Int)) (rts : List Rt) (prs : List Pr) (x1 x2 x3 x4 x5 x6 : Addr) (xs ys zs ws ds qs : List V) (rows : List (List Nat)) (es : List V),
  J5W C2 H ho d ks x1 x2 x3 x4 x5 x6 ∧ H x1 = some (.lst xs) ∧ All2 NdAt H nds xs ∧ H x2 = some (.lst ys) ∧ All2 (PsO C1) H ps ys ∧ H x3 = some (.lst zs) ∧ All2 LvT H ls zs ∧ H x4 = some (.lst ws) ∧ H x5 = some (.lst ds) ∧ All2 (RuT P w K mg base) H (ruOf rts) ds ∧ H x6 = some (.lst qs) ∧ All2 PrT H prs qs ∧
  H r = some (.lst (rows.map T)) ∧ H du = some (.lst es) ∧ All2 TpV H (allF ks nds ls (ruOf rts) prs ps rows d.toNat) es ∧
  1 ≤ d ∧ d ≤ 14 ∧ ks.length ≤ 4 ∧ ps.length ≤ 8 ∧ (∀ n ∈ ps,n.past.length ≤ 100) ∧ rts.length ≤ 8 ∧ prs.length ≤ 8 ∧ (∀ p ∈ prs,PrIn ps p) ∧ rows.length = ps.length ∧ ∀ r ∈ rows,(r.length : Int) = d
noncomputable def JdS (P : Program) (w : World) (K : PySem.W.Frag) (mg : Str → Option Value) (base : Heap) (C1 C2 : Addr) : Sp := fun vs H Q _ => ∃ (a : Addr) (ns : List Int),vs = [.ref a] ∧ SqL K H a (ns.map V.int) ∧ ns.length ≤ 63 ∧
 ∀ (t : Addr) (H' : Hp) (ho r du : Addr),Same H H' → H' t = some (.tup [.ref ho,.ref r,.ref du]) → Cs35 P w K mg base C1 C2 H' ho r du → Q (.ref t) H'
theorem Jg3 (ks : List Nat) (nds : List Nd) (ls : List (List Nat × Int)) (rls : List Ru) (prs : List Pr) (ps : List Ps) (rows : List (List Nat)) (d : Int) : dayF ks nds ls rls prs ps rows d = plF ks nds ls ps rows d ++ ruF rls ps rows d ++ paF prs rows d := rfl
theorem Jfy {ks : List Nat} {nds : List Nd} {ls : List (List Nat × Int)} {ps : List Ps} {rows : List (List Nat)} {d : Int} (hp : ps.length ≤ 8) (hk : ks.length ≤ 4) : (plF ks nds ls ps rows d).length ≤ 28 := by
 unfold plF
 have h1 : (skF ps rows d).length ≤ 8 := J3A _ _ _ hp
 have h2 : (lvF ls ps rows d).length ≤ 8 := J3A _ _ _ hp
 have h3 : (moF ps rows d).length ≤ 8 := J3A _ _ _ hp
 have h4 := J8R (nds := nds) (rows := rows) (d := d) hk
 simp only [List.length_append]
 omega
section
variable {P : Program} {w : World} {K : PySem.W.Frag} {mg : Str → Option Value} {base : Heap} {Jb Jf Ja Jh J8 Jn J5 J3 : Addr}
theorem Jad (tx : Tx K mg Jb Jf Ja Jh J8 Jn J5 J3) : FnG P w K mg base "_law_case" 70 ["_law_script"] (JdS P w K mg base J5 J3) := by
 have J5I := J9g (P := P) (w := w) (base := base) tx
 have JU := J38 (P := P) (w := w) (base := base) tx
 have J6x := Jap (P := P) (w := w) (base := base) tx
 have J33 := J4B (P := P) (w := w) (base := base) tx
 have J2U := J4m (P := P) (w := w) (base := base) tx
 have J34 := J4C (P := P) (w := w) (base := base) tx
 have J5O := J92 (P := P) (w := w) (base := base) tx
 have J95 := tx.J0U.g (J7l (P := P) (w := w) (base := base) tx)
 have Jb1 := tx.J0f.g (J8k (P := P) (w := w) (base := base) tx)
 refine tx.Ja9.g JF (fun _ _ _ _ _ _ us hl => match us,hl with | [_],_ => rfl) (fun vs H Q E h => ?_) (fun f cdv A outer s H vs Q E hr h => ?_)
 ·obtain ⟨a,ns,rfl,_⟩ := h
  rfl
 ·obtain ⟨sc,ns,rfl,hS,hns,q⟩ := h
  refine ⟨_,(J2 (Jm (i := 1) JF.nd rfl (Or.inl rfl) (JB J5I (hr.mono (by decide)) (J0 (pv 0) J1)))
   (J2 (J2y (JJ J5G (pv 1) J09 (JT J6)) (J0Y rfl (Jk (Je (i := 2) JF.nd rfl (Or.inl rfl)) (Jk (Je (i := 3) JF.nd rfl (Or.inl rfl)) (Jk (Je (i := 4) JF.nd rfl (Or.inl rfl)) (Jk (Je (i := 5) JF.nd rfl (Or.inl rfl)) J08))))))
   (J2 (J2y (JJ J5G (pv 1) (JT J6) J09) (J0Y rfl (Jk (Je (i := 6) JF.nd rfl (Or.inl rfl)) (Jk (Je (i := 7) JF.nd rfl (Or.inl rfl)) (Jk (Je (i := 8) JF.nd rfl (Or.inr rfl)) (Jk (Je (i := 9) JF.nd rfl (Or.inl rfl)) J08))))))
   (J2 (Jm (i := 10) JF.nd rfl (Or.inl rfl) (JB JU (hr.mono (by decide)) (J0 (pv 0) (J0 J6 J1))))
   (J2 (Jm (i := 11) JF.nd rfl (Or.inl rfl) (Jd JE (pv 3) (Jd Jd3 (Js (l := [45]) (by decide +kernel)) (Jd J0a J6 (Jd J3b (Jd JaD (Ju JX rfl tx.J05 PySem.boot_len (J0 (pv 3) J1)) J6) (Jd JD (Jd JM (pv 10) J6) J6))))))
   (J2 (Jm (i := 12) JF.nd rfl (Or.inl rfl) (JB J6x (hr.mono (by decide)) (J0 (Jd JM (pv 10) J6) (J0 (Ju (JH (K := K) rfl) rfl tx.J05 PySem.boot_len (J0 (pv 5) J1)) (J0 (pv 2) (J0 (pv 11) J1))))))
   (J2 (J44 (k := 13) (osc := J4 J14) (ON := ["_law_script","_law_parts_here","_law_days","_law_kinds_here","_law_needs_here","_law_persons","_law_leave","_law_wishes","_law_rules","_law_pairs","_law_cell","_law_marks","_law_rota_here","_law_some_here","_law_read","_law_bound","_law_by_rules","_law_due","_law_day"]) (N := ["_law_one"]) (js := [none]) JF.nd rfl (Or.inl rfl) ⟨rfl,by decide +kernel,by decide +kernel,by decide +kernel,rfl,by decide +kernel⟩ rfl rfl rfl (J0J (K := K) rfl (pv 5)) (fun _ _ _ _ _ => Je (i := 0) (show List.Nodup (["_law_one"] : List Str) from by decide +kernel) rfl (Or.inl rfl)) (fun _ _ _ _ _ => J0A) (fun _ _ _ _ _ => (J3Q (r := rPer J5) J95 (hr.mono (by decide)) Jf9 (J0 (Jv (JZ (K := K) rfl) (pv 0) J6 (fun _ _ => rfl)) (J0 (Jv (JZ (K := K) rfl) (pv 0) J6 (fun _ _ => rfl)) (J0 (Jv (JZ (K := K) rfl) (pv 0) J6 (fun _ _ => rfl)) (J0 (Jv (JZ (K := K) rfl) (pv 0) J6 (fun _ _ => rfl)) (J0 (Jv (JZ (K := K) rfl) (pv 0) J6 (fun _ _ => rfl)) J1))))))))
   (J2 (Jm (i := 14) JF.nd rfl (Or.inr rfl) (J0p (osc := J4 J14) (ON := ["_law_script","_law_parts_here","_law_days","_law_kinds_here","_law_needs_here","_law_persons","_law_leave","_law_wishes","_law_rules","_law_pairs","_law_cell","_law_marks","_law_rota_here","_law_some_here","_law_read","_law_bound","_law_by_rules","_law_due","_law_day"]) (N := ["_law_rule_here"]) (js := [none]) ⟨rfl,by decide +kernel,by decide +kernel,by decide +kernel,rfl,by decide +kernel⟩ rfl rfl rfl (J0J (K := K) rfl (pv 8)) (fun _ _ _ _ _ => Je (i := 0) (show List.Nodup (["_law_rule_here"] : List Str) from by decide +kernel) rfl (Or.inl rfl)) (fun _ _ _ _ _ => J0A) (fun _ _ _ _ _ => (JB J5O (hr.mono (by decide)) (J0 (Jv (JZ (K := K) rfl) (Jv (JZ (K := K) rfl) (pv 0) J6 (fun _ _ => rfl)) J6 (fun _ _ => rfl)) J1)))))
   (J2 (J44 (k := 15) (osc := J4 J14) (ON := ["_law_script","_law_parts_here","_law_days","_law_kinds_here","_law_needs_here","_law_persons","_law_leave","_law_wishes","_law_rules","_law_pairs","_law_cell","_law_marks","_law_rota_here","_law_some_here","_law_read","_law_bound","_law_by_rules","_law_due","_law_day"]) (N := ["_law_k","_law_read","_law_rules"]) (js := [none,some 14,some 8]) JF.nd rfl (Or.inl rfl) ⟨rfl,by decide +kernel,by decide +kernel,by decide +kernel,rfl,by decide +kernel⟩ rfl rfl rfl (J06 rfl tx.J0m (J0 (Ju (JH (K := K) rfl) rfl tx.J05 PySem.boot_len (J0 (pv 8) J1)) J1)) (fun _ _ _ _ _ => Je (i := 0) (show List.Nodup (["_law_k","_law_read","_law_rules"] : List Str) from by decide +kernel) rfl (Or.inl rfl)) (fun _ _ _ _ _ => J0A) (fun _ _ _ _ _ => (JS (J0 (Jv (JZ (K := K) rfl) (Jv (Jz (K := K) rfl) (pv 2) (pv 0) (fun _ _ => rfl)) J6 (fun _ _ => rfl)) (J0 (Jv (Jz (K := K) rfl) (pv 1) (pv 0) (fun _ _ => rfl)) J1)))))
   (J2 (Jm (i := 16) JF.nd rfl (Or.inl rfl) (JB J33 (hr.mono (by decide)) (J0 (pv 1) (J0 (pv 14) (J0 (pv 12) J1)))))
   (J2 (Jm (i := 17) JF.nd rfl (Or.inl rfl) (J0b J1))
   (J2 (J0E PassesOwn.never rfl (J06 rfl tx.J0m (J0 (pv 2) J1)) (Je (i := 18) JF.nd rfl (Or.inl rfl)) (J2 (Jm (i := 17) JF.nd rfl (Or.inl rfl) (Jd J3z (Jd J3z (pv 17) (JB J2U (hr.mono (by decide)) (J0 (pv 18) (J0 (pv 1) (J0 (pv 12) J1))))) (Jv (Jz (K := K) rfl) (pv 16) (pv 18) (fun _ _ => rfl))))
   (J9 (Jm (i := 17) JF.nd rfl (Or.inl rfl) (Jd J3z (pv 17) (JB J34 (hr.mono (by decide)) (J0 (pv 18) (J0 (pv 1) (J0 (pv 12) J1)))))))))
   (J9 (Jt (JS (J0 (J3Q (r := rHou J3) Jb1 (hr.mono (by decide)) Jfi (J0 (pv 2) (J0 (pv 3) (J0 (pv 4) (J0 (pv 13) (J0 (pv 6) (J0 (pv 7) (J0 (pv 15) (J0 (pv 9) J1))))))))) (J0 (pv 12) (J0 (pv 17) J1)))))))))))))))))),?_⟩
  walk_at "st"
  clear J5I JU J6x J33 J2U J34 J5O J95 Jb1
  walk_at "rd"
  intro pt H1 nc d ks nds ps ls a1 a2 a3 a4 a5 a6 xs ys zs ws rts rs prs qs s1 htp g1 g2 g3 g4 g5 g6 g7 g8 g8' g9 g9' hG d0 d1 k0 k1 hN hr8 hq8
  have hP : Pts H1 pt d ks nds ps ls rts prs a1 a2 a3 a4 a5 a6 xs ys zs ws rs qs := ⟨htp,g1,g2,g3,g4,g5,g6,g7,g8,g8',g9,g9'⟩
  have c1 := s8a (.int d) (T ks) (.ref a1) (.ref a2) (.ref a3) (.ref a4) (.ref a5) (.ref a6)
  have c2 := s8b (.int d) (T ks) (.ref a1) (.ref a2) (.ref a3) (.ref a4) (.ref a5) (.ref a6)
  have p8 : ps.length ≤ 8 := hN.1
  have pp : ∀ n ∈ ps,n.past.length ≤ 100 := fun n hn => by
   obtain ⟨i,hi⟩ := List.getElem?_of_mem hn
   exact (hN.2 i n hi).1
  clear g1 g2 g3 g4 g5 g6 g7 g8 g8' g9 g9' hN
  walk_at "rd"
  intro t1 nt1
  rw [c8a]
  obtain ⟨Ha,e1,g1,sa⟩ := newt (xs := [V.int d,T ks,.ref a1,.ref a2]) nt1
  rw [← e1]
  have htp1 := sa _ _ htp
  walk_at "rd"
  intro t2 nt2
  rw [c8b]
  obtain ⟨H2,e2,g2,sb⟩ := newt (xs := [V.ref a3,.ref a4,.ref a5,.ref a6]) nt2
  rw [← e2]
  have s2 := (s1.trans sa).trans sb
  have hS2 := s2.seq hS
  have hP2 := hP.same (sa.trans sb)
  clear hP htp htp1 c1 c2 sa sb nt1 nt2 s1 e1 e2
  have b0 : J0i ns 13 / 2 % 2 = 0 ∨ J0i ns 13 / 2 % 2 = 1 := by omega
  have kk0 : 1 ≤ 1 + ((ks.length : Int) - 1) * (J0i ns 13 / 2 % 2) := by rcases b0 with e | e <;> rw [e] <;> omega
  have kk1 : 1 + ((ks.length : Int) - 1) * (J0i ns 13 / 2 % 2) ≤ 5 := by rcases b0 with e | e <;> rw [e] <;> omega
  have h2 := hP2.h2
  have hyl := hP2.n2.len
  have lrep : (List.replicate (1 + ((ks.length : Int) - 1) * (J0i ns 13 / 2 % 2)).toNat 45).length ≤ 5 := by rw [List.length_replicate]; omega
  have lmk0 : 1 ≤ (ks ++ List.replicate (1 + ((ks.length : Int) - 1) * (J0i ns 13 / 2 % 2)).toNat 45).length := by rw [List.length_append]; omega
  have lmk1 : (ks ++ List.replicate (1 + ((ks.length : Int) - 1) * (J0i ns 13 / 2 % 2)).toNat 45).length ≤ 100 := by rw [List.length_append]; omega
  walk_at "rd"
  intro r H3 rows s3 nr hr3 lrows hrows
  have hrd : ∀ r ∈ rows,(r.length : Int) = d := fun r hr => (hrows r hr).1
  clear lrep lmk0 lmk1 kk0 kk1 b0 hrows g1 g2
  generalize ks ++ List.replicate (1 + ((ks.length : Int) - 1) * (J0i ns 13 / 2 % 2)).toNat 45 = mk
  have hP5 := hP2.same s3
  have t5 : Same H H3 := s2.trans s3
  have h25 := hP5.h2
  clear hP2 s2 h2 hS2 s3
  have hlr : rows.length = ps.length := by omega
  walk_at "rd"
  refine J0k ps (fun _ => true) (PsO J5) (fun σ => ∃ v,σ = [v]) (J16 (SqL.of h25)) hyl (by omega) ⟨_,rfl⟩ (fun a y Ha Hb k h => PsO.keeps _ y Ha Hb k h) (fun i n v σ H' hn hv hσ s' Rf Rt _ hR => ?_) (fun ol H6 os nol s6 hos hol => ?_)
  ·obtain ⟨u,rfl⟩ := hσ
   obtain ⟨y,hy,t,rfl,ht⟩ := hP5.n2.get hn
   rw [hv] at hy
   cases hy
   have ht' := s' _ _ ht
   obtain ⟨e0,e1,e2,e3,e4⟩ := at5 (T n.nm) (T n.sk) (.int n.most) (.int n.car) (T n.past)
   walk_at "rd"
   intro pp' H9 s9 npp hper
   exact hR _ _ _ rfl ⟨_,rfl⟩ s9 ⟨pp',rfl,hper⟩
  rw [List.filter_eq_self.mpr fun _ _ => rfl] at hos
  have hP6 := hP5.same s6
  have hr6 := s6 _ _ hr3
  have t6 := t5.trans s6
  have h56 := hP6.h5
  have hrl : rs.length = rts.length := hP6.n5.len
  clear hP5 hr3 h25 nol s6 t5
  walk_at "rd"
  refine J0k rts (fun _ => true) (RdT (cs6 Jb Jf Ja Jh J8 Jn J5 J3)) (fun σ => ∃ v,σ = [v]) (J16 (SqL.of h56)) hrl (by omega) ⟨_,rfl⟩ (fun a y Ha Hb k h => RdT.keeps a y Ha Hb k h) (fun i rt v σ H' hn hv hσ s' Rf Rt _ hR => ?_) (fun rdl H7 us nrd s7 hus hrdl => ?_)
  ·obtain ⟨u,rfl⟩ := hσ
   obtain ⟨y,hy,t,t2,nx,rfl,ht,ht2,hx⟩ := hP6.n5.get hn
   rw [hv] at hy
   cases hy
   have ht' := s' _ _ ht
   have ht2' := s' _ _ ht2
   have u1 := at1 (T rt.nm) (V.ref t2)
   have u0 := at0 (T rt.tx) (T nx)
   have x1 := hx.rd
   have x2 : rt.tx.length ≤ 10000 := Nat.le_trans hx.ln (by decide)
   have x3 := hx.wc
   walk_at "rd"
   intro rp H9 s9 hr9
   exact hR _ _ _ rfl ⟨_,rfl⟩ s9 ⟨rp,rfl,hr9⟩
  rw [List.filter_eq_self.mpr fun _ _ => rfl] at hus
  have hP7 := hP6.same s7
  have hr7 := s7 _ _ hr6
  have hol7 := s7 _ _ hol
  have hos7 := hos.imp fun a y => PsO.keeps _ y _ _ s7.keeps
  have h57 := hP7.h5
  have t7 := t6.trans s7
  clear hP6 hr6 hol hos h56 nrd s7 t6
  have hdp : ∀ a ∈ rts,a.r.depth ≤ 2 := fun a ha => by
   obtain ⟨i,hi⟩ := List.getElem?_of_mem ha
   obtain ⟨_,_,_,_,_,_,_,_,hx⟩ := hP7.n5.get hi
   exact hx.dp
  walk_at "rd"
  refine J0k (ruOf rts) (fun _ => true) (RuT P w K mg base) (fun σ => ∃ v,σ = [v,some (.ref rdl),some (.ref a5)]) (J0L 0 ((rs.length : Nat) : Int).toNat) (by rw [List.length_map,List.length_range,J2p]; omega) (by rw [J2p]; omega) ⟨_,rfl⟩ (fun a y Ha Hb k h => RuT.keeps a y Ha Hb k h) (fun i ru v σ H' hn hv hσ s' Rf Rt _ hR => ?_) (fun bl H8 ds nbl s8 hds hbl => ?_)
  ·obtain ⟨u,rfl⟩ := hσ
   have hil : i < rts.length := by have := (List.getElem?_eq_some_iff.mp hn).1; rwa [J2p] at this
   have hrt : rts[i]? = some rts[i] := List.getElem?_eq_getElem hil
   generalize rts[i] = rt at hrt
   have eru : ru = ⟨rt.nm,rt.r.bad⟩ := by rw [J8H hrt] at hn; exact (Option.some.inj hn).symm
   subst eru
   have ev : v = .int (0 + (i : Int)) := by
    rw [List.getElem?_map,List.getElem?_range (by omega)] at hv
    exact (Option.some.inj hv).symm
   subst ev
   obtain ⟨y,hy,t,t2,nx,rfl,ht,ht2,hx⟩ := hP7.n5.get hrt
   obtain ⟨yu,hyu,rp,rfl,hrp⟩ := hus.get hrt
   have z1 : atI rs (0 + (i : Int)) = some (.ref t) := by rw [Int.zero_add]; exact J15 hy
   have z2 : atI us (0 + (i : Int)) = some (.ref rp) := by rw [Int.zero_add]; exact J15 hyu
   have u0 := at0 (T rt.nm) (V.ref t2)
   have h5' := s' _ _ h57
   have hrd' := s' _ _ hrdl
   have ht' := s' _ _ ht
   walk_at "rd"
   intro tt ntt
   have st := Ji ntt (.tup [T rt.nm,.ref rp])
   refine hR _ _ _ rfl ⟨_,rfl⟩ st ⟨tt,rp,rfl,J7,badq tx (hrp.same (s'.trans st)) ?_⟩
   have := hdp rt (List.mem_of_getElem? hrt)
   omega
  rw [List.filter_eq_self.mpr fun _ _ => rfl] at hds
  have hP8 := hP7.same s8
  have hr8' := s8 _ _ hr7
  have hol8 := s8 _ _ hol7
  have hos8 := hos7.imp fun a y => PsO.keeps _ y _ _ s8.keeps
  have hrd8 := s8 _ _ hrdl
  have hus8 := hus.imp fun a y => RdT.keeps a y _ _ s8.keeps
  have t8 := t7.trans s8
  clear hP7 hr7 hol7 hos7 h57 hrdl hus nbl s8 t7
  have hr8 : rts.length ≤ 8 := by omega
  have hpr8 : prs.length ≤ 8 := by have := hP8.n6.len; omega
  walk_at "rd"
  intro D HA bs sA hbl' C0
  have hPA := hP8.same sA
  have hrA := sA _ _ hr8'
  have holA := sA _ _ hol8
  have hosA := hos8.imp fun a y => PsO.keeps _ y _ _ sA.keeps
  have hdsA := hds.imp fun a y => RuT.keeps a y _ _ sA.keeps
  have hblA := sA _ _ hbl
  have tA := t8.trans sA
  clear hP8 hr8' hol8 hos8 hds hbl hrd8 hus8 sA t8
  walk_at "rd"
  intro du0 ndu
  walk_at "rd"
  refine J2g (n := d.toNat) (fun i σ H6 => Here (∃ v1 du es,σ = [some (.ref sc),some (.ref pt),some (.int d),some (T ks),some (.ref a1),some (.ref a2),some (.ref a3),some (.ref a4),some (.ref a5),some (.ref a6),some (.int (J0i ns 13)),some (T mk),some (.ref r),some (.ref ol),some (.ref rdl),some (.ref bl),some (.ref D),some (.ref du),v1] ∧ H6 du = some (.lst es) ∧ All2 TpV H6 (allF ks nds ls (ruOf rts) prs ps rows i) es ∧ Same HA H6)) (Here.mk ⟨_,du0,[],rfl,J7,trivial,Ji ndu _⟩) ?_ ?_
  ·rintro i σ H6 hi hv
   obtain ⟨v1,du,es,rfl,hdu,hA6,s6⟩ := hv.out
   have hP6 := hPA.same s6
   have hr6 := s6 _ _ hrA
   have C6 := C0.same s6
   have hR : ROk rows (0 + (i : Int)) := ⟨by omega,fun r hr => by have := hrd r hr; omega⟩
   have lds : es.length ≤ 1400 := by
    have e1 := hA6.len
    have e2 := J8K (nds := nds) (ls := ls) (rows := rows) p8 k1 (rls := ruOf rts) (prs := prs) (by rw [J2p]; exact hr8) hpr8 i
    omega
   have hbi : bs[i]? = some bs[i] := List.getElem?_eq_getElem (by omega)
   generalize bs[i] = b at hbi
   obtain ⟨bx,hbx,hFb⟩ := C6.2.2.2 i b hbi
   have hD6 := C6.1
   have atb : atI (bs.map V.ref) (0 + (i : Int)) = some (.ref b) := by rw [Int.zero_add]; exact J15 (by rw [List.getElem?_map,hbi]; rfl)
   have lbx : bx.length ≤ 64 := by rw [hFb.len]; exact J8t (by rw [J2p]; exact hr8) p8
   walk_at "rd"
   intro Dq H7 qes s7 hDq hEq
   have hdu7 := s7 _ _ hdu
   have hD7 := s7 _ _ hD6
   have hbx7 := s7 _ _ hbx
   have lq : qes.length ≤ 28 := by rw [hEq.len]; exact Jfy p8 k1
   walk_at "rd"
   intro p0 np0
   obtain ⟨H8,e8,hp0,s8⟩ := newl (xs := es ++ qes) np0
   rw [← e8]
   clear e8
   have hD8 := s8 _ _ hD7
   have hbx8 := s8 _ _ hbx7
   have l8 : (es ++ qes).length ≤ 1500 := by rw [List.length_append]; omega
   walk_at "rd"
   intro p1 np1
   obtain ⟨H9,e9,hp1,s9⟩ := newl (xs := es ++ qes ++ bx) np1
   rw [← e9]
   clear e9
   have S9 := s7.trans (s8.trans s9)
   have hP9 := hP6.same S9
   have hr9 := S9 _ _ hr6
   have l9 : (es ++ qes ++ bx).length ≤ 1600 := by rw [List.length_append]; omega
   walk_at "rd"
   intro Dp H10 pes s10 hDp hEp
   have hp110 := s10 _ _ hp1
   have lp : pes.length ≤ 8 := by rw [hEp.len]; exact Nat.le_trans (J54 _ _ _ _) hpr8
   walk_at "rd"
   intro p2 np2
   have s11 : Same H10 (upd H10 p2 (.lst (es ++ qes ++ bx ++ pes))) := Ji np2 _
   have s8b : Same H7 (upd H10 p2 (.lst (es ++ qes ++ bx ++ pes))) := s8.trans (s9.trans (s10.trans s11))
   have sall := s7.trans s8b
   refine Here.mk ⟨_,p2,es ++ qes ++ bx ++ pes,rfl,J7,?_,s6.trans sall⟩
   rw [allF,Jg3]
   have eFb : ruF (ruOf rts) ps rows (0 + (i : Int)) = ruF (ruOf rts) ps rows (i : Int) := by rw [Int.zero_add]
   rw [eFb,← List.append_assoc,← List.append_assoc]
   exact All2.app (All2.app (All2.app (hA6.imp fun a y => TpV.keeps a y _ _ sall.keeps) (hEq.imp fun a y => TpV.keeps a y _ _ s8b.keeps)) (hFb.imp fun a y => TpV.keeps a y _ _ sall.keeps)) (hEp.imp fun a y => TpV.keeps a y _ _ s11.keeps)
  rintro σ H6 hv
  obtain ⟨v1,du,es,rfl,hdu,hA6,s6⟩ := hv.out
  have hP6 := hPA.same s6
  have hr6 := s6 _ _ hrA
  have hol6 := s6 _ _ holA
  have hos6 := hosA.imp fun a y => PsO.keeps _ y _ _ s6.keeps
  have hds6 := hdsA.imp fun a y => RuT.keeps a y _ _ s6.keeps
  have hbl6 := s6 _ _ hblA
  have t6 := tA.trans s6
  clear hPA hrA holA hosA hdsA hblA tA C0 ndu hv
  have k1' := hP6.h1
  have k3' := hP6.h3
  have k4' := hP6.h4
  have k6' := hP6.h6
  walk_at "rd"
  intro ho H9 x1 x2 x3 x4 x5 x6 s9 hho f1 f2 f3 f4 f5 f6 _ _ _ _ _ _
  have hP9 := hP6.same s9
  walk_at "rd"
  intro t nt
  have sT : Same H9 (upd H9 t (.tup [.ref ho,.ref r,.ref du])) := Ji nt _
  have s9T := s9.trans sT
  refine q t _ ho r du (t6.trans s9T) J7 ⟨d,ks,nds,ps,ls,rts,prs,x1,x2,x3,x4,x5,x6,xs,os,zs,ws,ds,qs,rows,es,hho.keeps sT.keeps,sT _ _ f1,hP9.n1.imp fun a y => NdAt.keeps a y _ _ sT.keeps,sT _ _ f2,hos6.imp fun a y => PsO.keeps a y _ _ s9T.keeps,sT _ _ f3,hP9.n3.imp fun a y => LvT.keeps a y _ _ sT.keeps,sT _ _ f4,sT _ _ f5,hds6.imp fun a y => RuT.keeps a y _ _ s9T.keeps,sT _ _ f6,hP9.n6.imp fun a y => PrT.keeps a y _ _ sT.keeps,s9T _ _ hr6,s9T _ _ hdu,hA6.imp fun a y => TpV.keeps a y _ _ s9T.keeps,d0,d1,k1,p8,pp,hr8,hpr8,fun p hp => (hG p hp).1,hlr,hrd⟩
end
section
variable {P : Program} {w : World} {K : PySem.W.Frag} {mg : Str → Option Value} {base : Heap} {Jb Jf Ja Jh J8 Jn J5 J3 : Addr}
local macro_rules | `(tactic| walk_at "lk") => `(tactic| first | exact J51 _ _ _ _ _ _ _ _ | exact J50 _ _ _ _ _ _ _ _ | exact J6J _ _ _ _ _ _ _ _)
theorem JfB {f : Addr} {fd : FuncData} (tx : Tx K mg Jb Jf Ja Jh J8 Jn J5 J3) (F : Fun K "law" "law" J3J f fd) : FnOk P w K mg base CX0 80 f fd ["_law_script"] (sp_law K) := by
 have J4l := Jad (P := P) (w := w) (base := base) tx
 have J3p := Jam (P := P) (w := w) (base := base) tx
 have J4I := JcD (P := P) (w := w) (base := base) tx
 refine F.ok J3r (fun vs H Q E h => ?_) (fun cdv A outer s H vs Q E hr h => ?_)
 ·obtain ⟨a,ns,rfl,_⟩ := h
  rfl
 ·obtain ⟨sc,ns,rfl,hS,hns,q⟩ := h
  refine ⟨_,(J2 (J2y (JB J4l (hr.mono (by decide)) (J0 (pv 0) J1)) (J65 (K := K) (n := 3) rfl rfl (Jk (Je (i := 1) J3r.nd rfl (Or.inl rfl)) (Jk (Je (i := 2) J3r.nd rfl (Or.inl rfl)) (Jk (Je (i := 3) J3r.nd rfl (Or.inl rfl)) J08)))))
   (J2 (J2y (JB J4l (hr.mono (by decide)) (J0 (JJ (J0Z (K := K) rfl) (pv 0) (JT J6) (JT J6)) J1)) (J65 (K := K) (n := 3) rfl rfl (Jk (Je (i := 4) J3r.nd rfl (Or.inl rfl)) (Jk (Je (i := 5) J3r.nd rfl (Or.inl rfl)) (Jk (Je (i := 6) J3r.nd rfl (Or.inl rfl)) J08)))))
   (J2 (Jm (i := 7) J3r.nd rfl (Or.inl rfl) (J07 J0o rfl tx.J1Y J0C (J0 (pv 2) J1)))
   (J2 (Jm (i := 8) J3r.nd rfl (Or.inl rfl) (J0b (J0 (J07 J0o rfl tx.J1Y J0C (J0 (JC (K := K) rfl (pv 1) rfl) J1)) (J0 (J07 J0o rfl tx.J1Y J0C (J0 (JC (K := K) rfl (pv 1) rfl) J1)) (J0 (J07 J0o rfl tx.J1Y J0C (J0 (JC (K := K) rfl (pv 1) rfl) J1)) J1)))))
   (J2 (JO (PW.pt (J4i (J6U (J2z (JB J3p (hr.mono (by decide)) (J0 (JB J4I (hr.mono (by decide)) (J0 (pv 1) (J0 (pv 7) J1))) (J0 (pv 3) J1))))) (J4v (J6U (J2z (JB J3p (hr.mono (by decide)) (J0 (JB J4I (hr.mono (by decide)) (J0 (pv 4) (J0 (pv 5) J1))) (J0 (pv 6) J1)))))))) (J9 (Jt J4k)) Jw)
   (J2 (JO (PW.pt (J4i (J6U (J2z (JB J3p (hr.mono (by decide)) (J0 (JB J4I (hr.mono (by decide)) (J0 (pv 1) (J0 (pv 7) J1))) (J0 (pv 3) J1))))) (J4v (Jl (Jf2 (K := K) rfl hr.units0) (pv 7) (pv 2) (Jq _))))) (J9 (Jt J4k)) Jw)
   (J9 (Jt (J2q (JcO (K := K) rfl (Jfv hr)) (pv 8) (J0b (J0 (JC (K := K) rfl (pv 1) rfl) (J0 (JC (K := K) rfl (pv 1) rfl) (J0 (JC (K := K) rfl (pv 1) rfl) J1)))) (Jq _)))))))))),?_⟩
  walk_at "st"
  clear J4l J3p J4I
  walk_at "rd"
  intro t1 H1 ho r du s1 ht1 C1
  have hS1 := s1.seq hS
  walk_at "rd"
  intro p2 np2
  obtain ⟨H2,e2,hp2,s2⟩ := newl (xs := cutV (ns.map V.int) (some 14) (some 44)) np2
  rw [← e2]
  clear e2
  have l2 : (cutN ns (some 14) (some 44)).length ≤ 63 := Nat.le_trans (J2M ns _ _) hns
  have q2 : SqL K H2 p2 ((cutN ns (some 14) (some 44)).map V.int) := by rw [← J9S]; exact SqL.of hp2
  walk_at "rd"
  intro t3 H3 ho' r' du' s3 ht3 C3
  have s13 := s2.trans s3
  clear hS1 hp2 q2 hS s2 s3
  obtain ⟨d,ks,nds,ps,ls,rts,prs,x1,x2,x3,x4,x5,x6,xs,ys,zs,ws,ds,qs,rows,es,hho,f1,n1,f2,n2,f3,n3,f4,f5,n5,f6,n6,hr1,hdu,hes,d0,d1,k4,p8,pp,r8,pr8,hIn,hlr,hrd⟩ := C1
  obtain ⟨d',ks',nds',ps',ls',rts',prs',x1',x2',x3',x4',x5',x6',xs',ys',zs',ws',ds',qs',rows',es',hho',f1',n1',f2',n2',f3',n3',f4',f5',n5',f6',n6',hr1',hdu',hes',d0',d1',k4',p8',pp',r8',pr8',hIn',hlr',hrd'⟩ := C3
  have hqA : Hq J5 J3 H3 ho d ks nds ps ls ds qs := Hq.same ⟨x1,x2,x3,x4,x5,x6,xs,ys,zs,ws,hho,f1,n1,f2,n2,f3,n3,f4,f5,f6⟩ s13
  have hqB : Hq J5 J3 H3 ho' d' ks' nds' ps' ls' ds' qs' := ⟨x1',x2',x3',x4',x5',x6',xs',ys',zs',ws',hho',f1',n1',f2',n2',f3',n3',f4',f5',f6'⟩
  have r1 : ∀ x ∈ xs,∃ p,x = V.ref p := fun x hx => by
   obtain ⟨i,hi⟩ := List.getElem?_of_mem hx
   obtain ⟨_,_,t,e,_⟩ := n1.back hi
   exact ⟨t,e⟩
  have r3 : ∀ x ∈ zs,∃ p,x = V.ref p := fun x hx => by
   obtain ⟨i,hi⟩ := List.getElem?_of_mem hx
   obtain ⟨_,_,t,e,_⟩ := n3.back hi
   exact ⟨t,e⟩
  have r6 : ∀ x ∈ qs,∃ p,x = V.ref p := fun x hx => by
   obtain ⟨i,hi⟩ := List.getElem?_of_mem hx
   obtain ⟨_,_,t,e,_⟩ := n6.back hi
   exact ⟨t,e⟩
  have hr3 := s13 _ _ hr1
  have hdu3 := s13 _ _ hdu
  have hes3 := hes.imp fun a y => TpV.keeps a y _ _ s13.keeps
  have n53 := n5.imp fun a y => RuT.keeps a y _ _ s13.keeps
  have n63 := n6.imp fun a y => PrT.keeps a y _ _ s13.keeps
  have f13 := s13 _ _ f1
  have f33 := s13 _ _ f3
  have f63 := s13 _ _ f6
  obtain ⟨dx,hho3⟩ := hho.keeps s13.keeps
  have pl : ∀ x ∈ allF ks nds ls (ruOf rts) prs ps rows d.toNat,J5S x ∧ x.length ≤ 10 := fun x hx => J5F _ x hx
  have pl' : ∀ x ∈ allF ks' nds' ls' (ruOf rts') prs' ps' rows' d'.toNat,J5S x ∧ x.length ≤ 10 := fun x hx => J5F _ x hx
  have z0 : 0 ≤ d := by omega
  have z0' : 0 ≤ d' := by omega
  have l8 : (ruOf rts).length ≤ 8 := by rw [J2p]; exact r8
  have l8' : (ruOf rts').length ≤ 8 := by rw [J2p]; exact r8'
  have cH := tx.J0f.cl
  have nA := tx.J0R
  have nB := tx.J0P
  have nC := tx.J0Q
  clear hho f1 n1 f2 n2 f3 n3 f4 f5 n5 f6 n6 hr1 hdu hes hho' f1' n1' f2' n2' f3' n3' f4' f5' f6' s13
  walk_at "rd"
  intro hl nhl
  obtain ⟨H4,e4,hhl,s4⟩ := newl (xs := rows.map T) nhl
  rw [← e4]
  clear e4
  have hho4 := s4 _ _ hho3
  have f14 := s4 _ _ f13
  walk_at "rd"
  intro la nla
  obtain ⟨H5,e5,hla,s5⟩ := newl (xs := xs) nla
  rw [← e5]
  clear e5
  have hho5 := s5 _ _ hho4
  have f35 := (s4.trans s5) _ _ f33
  walk_at "rd"
  intro lb nlb
  obtain ⟨H6,e6,hlb,s6⟩ := newl (xs := zs) nlb
  rw [← e6]
  clear e6
  have hho6 := s6 _ _ hho5
  have f66 := ((s4.trans s5).trans s6) _ _ f63
  walk_at "rd"
  intro lc nlc
  obtain ⟨H7,e7,hlc,s7⟩ := newl (xs := qs) nlc
  rw [← e7]
  clear e7
  walk_at "rd"
  intro lk nlk
  obtain ⟨H8,e8,hlk,s8⟩ := newl (xs := [V.ref la,V.ref lb,V.ref lc]) nlk
  rw [← e8]
  clear e8
  have t8 : Same H3 H8 := (((s4.trans s5).trans s6).trans s7).trans s8
  have hla8 := (s6.trans (s7.trans s8)) _ _ hla
  have hlb8 := (s7.trans s8) _ _ hlb
  have hlc8 := s8 _ _ hlc
  have hhl8 := (s5.trans (s6.trans (s7.trans s8))) _ _ hhl
  have hqA8 := hqA.same t8
  have hdu8 := t8 _ _ hdu3
  have hes8 := hes3.imp fun a y => TpV.keeps a y _ _ t8.keeps
  have n58 := n53.imp fun a y => RuT.keeps a y _ _ t8.keeps
  have n68 := n63.imp fun a y => PrT.keeps a y _ _ t8.keeps
  have hr8 := t8 _ _ hr3
  have hqB8 := hqB.same t8
  have hr8' := t8 _ _ hr1'
  have hdu8' := t8 _ _ hdu'
  have hes8' := hes'.imp fun a y => TpV.keeps a y _ _ t8.keeps
  have n58' := n5'.imp fun a y => RuT.keeps a y _ _ t8.keeps
  have n68' := n6'.imp fun a y => PrT.keeps a y _ _ t8.keeps
  have hho8 := t8 _ _ hho3
  have f18 := t8 _ _ f13
  have f38 := t8 _ _ f33
  have f68 := t8 _ _ f63
  clear hqA hqB hr3 hdu3 hes3 n53 n63 f13 f33 f63 hho3 s4 s5 s6 s7 s8 t8 hho4 hho5 hho6 f14 f35 f66 hla hlb hlc hhl hr1' hdu' hes' n5' n6' nhl nla nlb nlc nlk
  walk_at "rd"
  intro fA HA fsA sA nfA hfA hFA
  have hduA := sA _ _ hdu8
  have hesA := hes8.imp fun a y => TpV.keeps a y _ _ sA.keeps
  walk_at "rd"
  intro HB sB
  have tB := sA.trans sB
  have hqBB := hqB8.same tB
  have hrB' := tB _ _ hr8'
  have n5B' := n58'.imp fun a y => RuT.keeps a y _ _ tB.keeps
  have n6B' := n68'.imp fun a y => PrT.keeps a y _ _ tB.keeps
  walk_at "rd"
  intro fC HC fsC sC nfC hfC hFC
  have tC := tB.trans sC
  have hduC := tC _ _ hdu8'
  have hesC := hes8'.imp fun a y => TpV.keeps a y _ _ tC.keeps
  walk_at "rd"
  intro HD sD
  have tD := tC.trans sD
  have hqD := hqA8.same tD
  have hhlD := tD _ _ hhl8
  have n5D := n58.imp fun a y => RuT.keeps a y _ _ tD.keeps
  have n6D := n68.imp fun a y => PrT.keeps a y _ _ tD.keeps
  walk_at "rd"
  intro fE HE fsE sE nfE hfE hFE
  have tE := tD.trans sE
  have hduE := tE _ _ hdu8
  have hesE := hes8.imp fun a y => TpV.keeps a y _ _ tE.keeps
  walk_at "rd"
  intro HF sF
  have tF := tE.trans sF
  have hhlF := tF _ _ hhl8
  have hrF := tF _ _ hr8
  have fl : (rows.map T).all J0l = true := J8x rows
  have er : eqVs (rows.map T) (rows.map T) = true := J42 fl
  have hhoF := tF _ _ hho8
  have f1F := tF _ _ f18
  have f3F := tF _ _ f38
  have f6F := tF _ _ f68
  have hlkF := tF _ _ hlk
  have hlaF := tF _ _ hla8
  have hlbF := tF _ _ hlb8
  have hlcF := tF _ _ hlc8
  walk_at "rd"
  show if (!eqVs (rows.map T) (rows.map T)) = true then _ else _
  rw [er]
  walk_at "rd"
  intro lz nlz
  obtain ⟨HG,eG,hlz,sG⟩ := newl (xs := [V.ref x1,V.ref x3,V.ref x6]) nlz
  rw [← eG]
  clear eG
  have hal : J8A K HG [V.ref la,V.ref lb,V.ref lc] [V.ref x1,V.ref x3,V.ref x6] := ⟨rfl,fun j x y hx hy => by
   match j,hx,hy with
   | 0,hx,hy => cases hx; cases hy; exact ⟨la,x1,xs,xs,rfl,rfl,SqL.of (sG _ _ hlaF),SqL.of (sG _ _ f1F),J4t.same K HG xs r1⟩
   | 1,hx,hy => cases hx; cases hy; exact ⟨lb,x3,zs,zs,rfl,rfl,SqL.of (sG _ _ hlbF),SqL.of (sG _ _ f3F),J4t.same K HG zs r3⟩
   | 2,hx,hy => cases hx; cases hy; exact ⟨lc,x6,qs,qs,rfl,rfl,SqL.of (sG _ _ hlcF),SqL.of (sG _ _ f6F),J4t.same K HG qs r6⟩
   | n + 3,hx,_ => cases hx⟩
  have hlkG := sG _ _ hlkF
  walk_at "rd"
  exact q _
end
open PySem.W in
theorem all_mk {l : OpenLaw} {w : World} {K : Frag} {h : Heap} {mg : Str → Option Value} {fa Jb Jf Ja Jh J8 Jn J5 J3 q1 q2 q3 q4 q5 q6 q7 q8 q9 q10 q11 q12 q13 q14 q15 q16 q17 q18 q19 q20 q21 q22 q23 q24 q25 q26 q27 q28 q29 q30 q31 q32 q33 q34 q35 q36 q37 q38 q39 q40 q41 q42 q43 q44 q45 q46 q47 q48 q49 q50 q51 q52 q53 q54 q55 q56 q57 q58 q59 q60 q61 : Addr} (X : K.In h) (G : h.Ns mainGlobals mg) (hfa : mg "law" = some (.ref fa))
  {od1 an1 od2 an2 od3 an3 od4 an4 od5 an5 od6 an6 od7 an7 od8 an8 od9 an9 od10 an10 od11 an11 od12 an12 od13 an13 od14 an14 od15 an15 od16 an16 od17 an17 od18 an18 od19 an19 od20 an20 od21 an21 od22 an22 od23 an23 od24 an24 od25 an25 od26 an26 od27 an27 od28 an28 od29 an29 od30 an30 od31 an31 od32 an32 od33 an33 od34 an34 od35 an35 od36 an36 od37 an37 od38 an38 od39 an39 od40 an40 od41 an41 od42 an42 od43 an43 od44 an44 od45 an45 od46 an46 od47 an47 od48 an48 od49 an49 od50 an50 od51 an51 od52 an52 od53 an53 od54 an54 od55 an55 od56 an56 od57 an57 od58 an58 od59 an59 od60 an60 od61 an61 : Option Addr} {sl1 sl2 sl3 sl4 sl5 sl6 sl7 sl8 sl9 sl10 sl11 sl12 sl13 sl14 sl15 sl16 sl17 sl18 sl19 sl20 sl21 sl22 sl23 sl24 sl25 sl26 sl27 sl28 sl29 sl30 sl31 sl32 sl33 sl34 sl35 sl36 sl37 sl38 sl39 sl40 sl41 sl42 sl43 sl44 sl45 sl46 sl47 sl48 sl49 sl50 sl51 sl52 sl53 sl54 sl55 sl56 sl57 sl58 sl59 sl60 sl61 : Array (Option Value)} {oc1 kV1 dc1 pm1 cd1 ct1 oc2 kV2 dc2 pm2 cd2 ct2 oc3 kV3 dc3 pm3 cd3 ct3 oc4 kV4 dc4 pm4 cd4 ct4 oc5 kV5 dc5 pm5 cd5 ct5 oc6 kV6 dc6 pm6 cd6 ct6 oc7 kV7 dc7 pm7 cd7 ct7 oc8 kV8 dc8 pm8 cd8 ct8 oc9 kV9 dc9 pm9 cd9 ct9 oc10 kV10 dc10 pm10 cd10 ct10 oc11 kV11 dc11 pm11 cd11 ct11 oc12 kV12 dc12 pm12 cd12 ct12 oc13 kV13 dc13 pm13 cd13 ct13 oc14 kV14 dc14 pm14 cd14 ct14 oc15 kV15 dc15 pm15 cd15 ct15 oc16 kV16 dc16 pm16 cd16 ct16 oc17 kV17 dc17 pm17 cd17 ct17 oc18 kV18 dc18 pm18 cd18 ct18 oc19 kV19 dc19 pm19 cd19 ct19 oc20 kV20 dc20 pm20 cd20 ct20 oc21 kV21 dc21 pm21 cd21 ct21 oc22 kV22 dc22 pm22 cd22 ct22 oc23 kV23 dc23 pm23 cd23 ct23 oc24 kV24 dc24 pm24 cd24 ct24 oc25 kV25 dc25 pm25 cd25 ct25 oc26 kV26 dc26 pm26 cd26 ct26 oc27 kV27 dc27 pm27 cd27 ct27 oc28 kV28 dc28 pm28 cd28 ct28 oc29 kV29 dc29 pm29 cd29 ct29 oc30 kV30 dc30 pm30 cd30 ct30 oc31 kV31 dc31 pm31 cd31 ct31 oc32 kV32 dc32 pm32 cd32 ct32 oc33 kV33 dc33 pm33 cd33 ct33 oc34 kV34 dc34 pm34 cd34 ct34 oc35 kV35 dc35 pm35 cd35 ct35 oc36 kV36 dc36 pm36 cd36 ct36 oc37 kV37 dc37 pm37 cd37 ct37 oc38 kV38 dc38 pm38 cd38 ct38 oc39 kV39 dc39 pm39 cd39 ct39 oc40 kV40 dc40 pm40 cd40 ct40 oc41 kV41 dc41 pm41 cd41 ct41 oc42 kV42 dc42 pm42 cd42 ct42 oc43 kV43 dc43 pm43 cd43 ct43 oc44 kV44 dc44 pm44 cd44 ct44 oc45 kV45 dc45 pm45 cd45 ct45 oc46 kV46 dc46 pm46 cd46 ct46 oc47 kV47 dc47 pm47 cd47 ct47 oc48 kV48 dc48 pm48 cd48 ct48 oc49 kV49 dc49 pm49 cd49 ct49 oc50 kV50 dc50 pm50 cd50 ct50 oc51 kV51 dc51 pm51 cd51 ct51 oc52 kV52 dc52 pm52 cd52 ct52 oc53 kV53 dc53 pm53 cd53 ct53 oc54 kV54 dc54 pm54 cd54 ct54 oc55 kV55 dc55 pm55 cd55 ct55 oc56 kV56 dc56 pm56 cd56 ct56 oc57 kV57 dc57 pm57 cd57 ct57 oc58 kV58 dc58 pm58 cd58 ct58 oc59 kV59 dc59 pm59 cd59 ct59 oc60 kV60 dc60 pm60 cd60 ct60 oc61 kV61 dc61 pm61 cd61 ct61 : Value}
  {tk_MOST_WORDS tk_DAYS_FIGURES tk_MANY_FIGURES tk_MARK_SIGNS tk_WORD_SIGNS : Tok}
  (J8q : nsIn K mainGlobals "Never" = some (some (.ref Jb)))
  (Jaa : nsIn K mainGlobals "Most" = some (some (.ref Jf)))
  (J7Y : nsIn K mainGlobals "Least" = some (some (.ref Ja)))
  (Jao : nsIn K mainGlobals "Both" = some (some (.ref Jh)))
  (J6H : nsIn K mainGlobals "Either" = some (some (.ref J8)))
  (Jcn : nsIn K mainGlobals "Not" = some (some (.ref Jn)))
  (J6i : nsIn K mainGlobals "Person" = some (some (.ref J5)))
  (J85 : nsIn K mainGlobals "House" = some (some (.ref J3)))
  (a1 : nsIn K mainGlobals "fits" = some (some (.ref q1)))
  (l1 : K.lookup q1 = some ⟨oc1,od1,.func (fnOf "fits" "fits" (Jp J5d) (Jo J5d) (J4 J5d) .none kV1 dc1 pm1 an1 cd1 ct1),sl1⟩)
  (c1 : codeIn K cd1 "fits" = true)
  (k1 : keepIn K (.ref q1) = true)
  (a2 : nsIn K mainGlobals "last_marks" = some (some (.ref q2)))
  (l2 : K.lookup q2 = some ⟨oc2,od2,.func (fnOf "last_marks" "last_marks" (Jp J1B) (Jo J1B) (J4 J1B) .none kV2 dc2 pm2 an2 cd2 ct2),sl2⟩)
  (c2 : codeIn K cd2 "last_marks" = true)
  (k2 : keepIn K (.ref q2) = true)
  (a3 : nsIn K mainGlobals "let_by" = some (some (.ref q3)))
  (l3 : K.lookup q3 = some ⟨oc3,od3,.func (fnOf "let_by" "let_by" (Jp J2V) (Jo J2V) (J4 J2V) .none kV3 dc3 pm3 an3 cd3 ct3),sl3⟩)
  (c3 : codeIn K cd3 "let_by" = true)
  (k3 : keepIn K (.ref q3) = true)
  (a4 : nsIn K mainGlobals "count_among" = some (some (.ref q4)))
  (l4 : K.lookup q4 = some ⟨oc4,od4,.func (fnOf "count_among" "count_among" (Jp J0M) (Jo J0M) (J4 J0M) .none kV4 dc4 pm4 an4 cd4 ct4),sl4⟩)
  (c4 : codeIn K cd4 "count_among" = true)
  (k4 : keepIn K (.ref q4) = true)
  (a5 : findIn K (.ref Jb) "__init__" = some (some (.ref q5)))
  (i5 : isFn K (.ref q5) = true)
  (l5 : K.lookup q5 = some ⟨oc5,od5,.func (fnOf "__init__" "Never.__init__" (Jp J1I) (Jo J1I) (J4 J1I) .none kV5 dc5 pm5 an5 cd5 ct5),sl5⟩)
  (c5 : codeIn K cd5 "Never.__init__" = true)
  (k5 : keepIn K (.ref q5) = true)
  (a6 : findIn K (.ref Jb) "bad" = some (some (.ref q6)))
  (i6 : isFn K (.ref q6) = true)
  (l6 : K.lookup q6 = some ⟨oc6,od6,.func (fnOf "bad" "Never.bad" (Jp J1r) (Jo J1r) (J4 J1r) .none kV6 dc6 pm6 an6 cd6 ct6),sl6⟩)
  (c6 : codeIn K cd6 "Never.bad" = true)
  (k6 : keepIn K (.ref q6) = true)
  (a7 : findIn K (.ref Jf) "__init__" = some (some (.ref q7)))
  (i7 : isFn K (.ref q7) = true)
  (l7 : K.lookup q7 = some ⟨oc7,od7,.func (fnOf "__init__" "Most.__init__" (Jp J29) (Jo J29) (J4 J29) .none kV7 dc7 pm7 an7 cd7 ct7),sl7⟩)
  (c7 : codeIn K cd7 "Most.__init__" = true)
  (k7 : keepIn K (.ref q7) = true)
  (a8 : findIn K (.ref Jf) "bad" = some (some (.ref q8)))
  (i8 : isFn K (.ref q8) = true)
  (l8 : K.lookup q8 = some ⟨oc8,od8,.func (fnOf "bad" "Most.bad" (Jp J2s) (Jo J2s) (J4 J2s) .none kV8 dc8 pm8 an8 cd8 ct8),sl8⟩)
  (c8 : codeIn K cd8 "Most.bad" = true)
  (k8 : keepIn K (.ref q8) = true)
  (a9 : findIn K (.ref Ja) "__init__" = some (some (.ref q9)))
  (i9 : isFn K (.ref q9) = true)
  (l9 : K.lookup q9 = some ⟨oc9,od9,.func (fnOf "__init__" "Least.__init__" (Jp J1C) (Jo J1C) (J4 J1C) .none kV9 dc9 pm9 an9 cd9 ct9),sl9⟩)
  (c9 : codeIn K cd9 "Least.__init__" = true)
  (k9 : keepIn K (.ref q9) = true)
  (a10 : findIn K (.ref Ja) "bad" = some (some (.ref q10)))
  (i10 : isFn K (.ref q10) = true)
  (l10 : K.lookup q10 = some ⟨oc10,od10,.func (fnOf "bad" "Least.bad" (Jp J25) (Jo J25) (J4 J25) .none kV10 dc10 pm10 an10 cd10 ct10),sl10⟩)
  (c10 : codeIn K cd10 "Least.bad" = true)
  (k10 : keepIn K (.ref q10) = true)
  (a11 : findIn K (.ref Jh) "__init__" = some (some (.ref q11)))
  (i11 : isFn K (.ref q11) = true)
  (l11 : K.lookup q11 = some ⟨oc11,od11,.func (fnOf "__init__" "Both.__init__" (Jp J27) (Jo J27) (J4 J27) .none kV11 dc11 pm11 an11 cd11 ct11),sl11⟩)
  (c11 : codeIn K cd11 "Both.__init__" = true)
  (k11 : keepIn K (.ref q11) = true)
  (a12 : findIn K (.ref J8) "__init__" = some (some (.ref q12)))
  (i12 : isFn K (.ref q12) = true)
  (l12 : K.lookup q12 = some ⟨oc12,od12,.func (fnOf "__init__" "Either.__init__" (Jp J1h) (Jo J1h) (J4 J1h) .none kV12 dc12 pm12 an12 cd12 ct12),sl12⟩)
  (c12 : codeIn K cd12 "Either.__init__" = true)
  (k12 : keepIn K (.ref q12) = true)
  (a13 : findIn K (.ref Jn) "__init__" = some (some (.ref q13)))
  (i13 : isFn K (.ref q13) = true)
  (l13 : K.lookup q13 = some ⟨oc13,od13,.func (fnOf "__init__" "Not.__init__" (Jp J2x) (Jo J2x) (J4 J2x) .none kV13 dc13 pm13 an13 cd13 ct13),sl13⟩)
  (c13 : codeIn K cd13 "Not.__init__" = true)
  (k13 : keepIn K (.ref q13) = true)
  (a14 : findIn K (.ref Jh) "bad" = some (some (.ref q14)))
  (i14 : isFn K (.ref q14) = true)
  (l14 : K.lookup q14 = some ⟨oc14,od14,.func (fnOf "bad" "Both.bad" (Jp J2u) (Jo J2u) (J4 J2u) .none kV14 dc14 pm14 an14 cd14 ct14),sl14⟩)
  (c14 : codeIn K cd14 "Both.bad" = true)
  (k14 : keepIn K (.ref q14) = true)
  (a15 : findIn K (.ref J8) "bad" = some (some (.ref q15)))
  (i15 : isFn K (.ref q15) = true)
  (l15 : K.lookup q15 = some ⟨oc15,od15,.func (fnOf "bad" "Either.bad" (Jp J1D) (Jo J1D) (J4 J1D) .none kV15 dc15 pm15 an15 cd15 ct15),sl15⟩)
  (c15 : codeIn K cd15 "Either.bad" = true)
  (k15 : keepIn K (.ref q15) = true)
  (a16 : findIn K (.ref Jn) "bad" = some (some (.ref q16)))
  (i16 : isFn K (.ref q16) = true)
  (l16 : K.lookup q16 = some ⟨oc16,od16,.func (fnOf "bad" "Not.bad" (Jp J2P) (Jo J2P) (J4 J2P) .none kV16 dc16 pm16 an16 cd16 ct16),sl16⟩)
  (c16 : codeIn K cd16 "Not.bad" = true)
  (k16 : keepIn K (.ref q16) = true)
  (a17 : nsIn K mainGlobals "made_of" = some (some (.ref q17)))
  (l17 : K.lookup q17 = some ⟨oc17,od17,.func (fnOf "made_of" "made_of" (Jp J2r) (Jo J2r) (J4 J2r) .none kV17 dc17 pm17 an17 cd17 ct17),sl17⟩)
  (c17 : codeIn K cd17 "made_of" = true)
  (k17 : keepIn K (.ref q17) = true)
  (a18 : nsIn K mainGlobals "is_figure" = some (some (.ref q18)))
  (l18 : K.lookup q18 = some ⟨oc18,od18,.func (fnOf "is_figure" "is_figure" (Jp J2e) (Jo J2e) (J4 J2e) .none kV18 dc18 pm18 an18 cd18 ct18),sl18⟩)
  (c18 : codeIn K cd18 "is_figure" = true)
  (k18 : keepIn K (.ref q18) = true)
  (a19 : nsIn K mainGlobals "is_word" = some (some (.ref q19)))
  (l19 : K.lookup q19 = some ⟨oc19,od19,.func (fnOf "is_word" "is_word" (Jp J2O) (Jo J2O) (J4 J2O) .none kV19 dc19 pm19 an19 cd19 ct19),sl19⟩)
  (c19 : codeIn K cd19 "is_word" = true)
  (k19 : keepIn K (.ref q19) = true)
  (a20 : nsIn K mainGlobals "are_marks" = some (some (.ref q20)))
  (l20 : K.lookup q20 = some ⟨oc20,od20,.func (fnOf "are_marks" "are_marks" (Jp J2f) (Jo J2f) (J4 J2f) .none kV20 dc20 pm20 an20 cd20 ct20),sl20⟩)
  (c20 : codeIn K cd20 "are_marks" = true)
  (k20 : keepIn K (.ref q20) = true)
  (a21 : nsIn K mainGlobals "last_outside" = some (some (.ref q21)))
  (l21 : K.lookup q21 = some ⟨oc21,od21,.func (fnOf "last_outside" "last_outside" (Jp J0T) (Jo J0T) (J4 J0T) .none kV21 dc21 pm21 an21 cd21 ct21),sl21⟩)
  (c21 : codeIn K cd21 "last_outside" = true)
  (k21 : keepIn K (.ref q21) = true)
  (a22 : nsIn K mainGlobals "is_count" = some (some (.ref q22)))
  (l22 : K.lookup q22 = some ⟨oc22,od22,.func (fnOf "is_count" "is_count" (Jp J2t) (Jo J2t) (J4 J2t) .none kV22 dc22 pm22 an22 cd22 ct22),sl22⟩)
  (c22 : codeIn K cd22 "is_count" = true)
  (k22 : keepIn K (.ref q22) = true)
  (a23 : nsIn K mainGlobals "read_plain" = some (some (.ref q23)))
  (l23 : K.lookup q23 = some ⟨oc23,od23,.func (fnOf "read_plain" "read_plain" (Jp J1H) (Jo J1H) (J4 J1H) .none kV23 dc23 pm23 an23 cd23 ct23),sl23⟩)
  (c23 : codeIn K cd23 "read_plain" = true)
  (k23 : keepIn K (.ref q23) = true)
  (a24 : nsIn K mainGlobals "read_words" = some (some (.ref q24)))
  (l24 : K.lookup q24 = some ⟨oc24,od24,.func (fnOf "read_words" "read_words" (Jp J1E) (Jo J1E) (J4 J1E) .none kV24 dc24 pm24 an24 cd24 ct24),sl24⟩)
  (c24 : codeIn K cd24 "read_words" = true)
  (k24 : keepIn K (.ref q24) = true)
  (a25 : nsIn K mainGlobals "read_rule" = some (some (.ref q25)))
  (l25 : K.lookup q25 = some ⟨oc25,od25,.func (fnOf "read_rule" "read_rule" (Jp J2a) (Jo J2a) (J4 J2a) .none kV25 dc25 pm25 an25 cd25 ct25),sl25⟩)
  (c25 : codeIn K cd25 "read_rule" = true)
  (k25 : keepIn K (.ref q25) = true)
  (a26 : nsIn K mainGlobals "bad_days" = some (some (.ref q26)))
  (l26 : K.lookup q26 = some ⟨oc26,od26,.func (fnOf "bad_days" "bad_days" (Jp J1X) (Jo J1X) (J4 J1X) .none kV26 dc26 pm26 an26 cd26 ct26),sl26⟩)
  (c26 : codeIn K cd26 "bad_days" = true)
  (k26 : keepIn K (.ref q26) = true)
  (a27 : findIn K (.ref J5) "__init__" = some (some (.ref q27)))
  (i27 : isFn K (.ref q27) = true)
  (l27 : K.lookup q27 = some ⟨oc27,od27,.func (fnOf "__init__" "Person.__init__" (Jp J1k) (Jo J1k) (J4 J1k) .none kV27 dc27 pm27 an27 cd27 ct27),sl27⟩)
  (c27 : codeIn K cd27 "Person.__init__" = true)
  (k27 : keepIn K (.ref q27) = true)
  (a28 : findIn K (.ref J3) "__init__" = some (some (.ref q28)))
  (i28 : isFn K (.ref q28) = true)
  (l28 : K.lookup q28 = some ⟨oc28,od28,.func (fnOf "__init__" "House.__init__" (Jp J1z) (Jo J1z) (J4 J1z) .none kV28 dc28 pm28 an28 cd28 ct28),sl28⟩)
  (c28 : codeIn K cd28 "House.__init__" = true)
  (k28 : keepIn K (.ref q28) = true)
  (a29 : findIn K (.ref J3) "need" = some (some (.ref q29)))
  (i29 : isFn K (.ref q29) = true)
  (l29 : K.lookup q29 = some ⟨oc29,od29,.func (fnOf "need" "House.need" (Jp J1M) (Jo J1M) (J4 J1M) .none kV29 dc29 pm29 an29 cd29 ct29),sl29⟩)
  (c29 : codeIn K cd29 "House.need" = true)
  (k29 : keepIn K (.ref q29) = true)
  (a30 : nsIn K mainGlobals "duties_in" = some (some (.ref q30)))
  (l30 : K.lookup q30 = some ⟨oc30,od30,.func (fnOf "duties_in" "duties_in" (Jp J1w) (Jo J1w) (J4 J1w) .none kV30 dc30 pm30 an30 cd30 ct30),sl30⟩)
  (c30 : codeIn K cd30 "duties_in" = true)
  (k30 : keepIn K (.ref q30) = true)
  (a31 : findIn K (.ref J3) "place_of" = some (some (.ref q31)))
  (i31 : isFn K (.ref q31) = true)
  (l31 : K.lookup q31 = some ⟨oc31,od31,.func (fnOf "place_of" "House.place_of" (Jp J0u) (Jo J0u) (J4 J0u) .none kV31 dc31 pm31 an31 cd31 ct31),sl31⟩)
  (c31 : codeIn K cd31 "House.place_of" = true)
  (k31 : keepIn K (.ref q31) = true)
  (a32 : nsIn K mainGlobals "on_duty" = some (some (.ref q32)))
  (l32 : K.lookup q32 = some ⟨oc32,od32,.func (fnOf "on_duty" "on_duty" (Jp J2w) (Jo J2w) (J4 J2w) .none kV32 dc32 pm32 an32 cd32 ct32),sl32⟩)
  (c32 : codeIn K cd32 "on_duty" = true)
  (k32 : keepIn K (.ref q32) = true)
  (a33 : nsIn K mainGlobals "skill_faults" = some (some (.ref q33)))
  (l33 : K.lookup q33 = some ⟨oc33,od33,.func (fnOf "skill_faults" "skill_faults" (Jp J0w) (Jo J0w) (J4 J0w) .none kV33 dc33 pm33 an33 cd33 ct33),sl33⟩)
  (c33 : codeIn K cd33 "skill_faults" = true)
  (k33 : keepIn K (.ref q33) = true)
  (a34 : nsIn K mainGlobals "leave_faults" = some (some (.ref q34)))
  (l34 : K.lookup q34 = some ⟨oc34,od34,.func (fnOf "leave_faults" "leave_faults" (Jp J0y) (Jo J0y) (J4 J0y) .none kV34 dc34 pm34 an34 cd34 ct34),sl34⟩)
  (c34 : codeIn K cd34 "leave_faults" = true)
  (k34 : keepIn K (.ref q34) = true)
  (a35 : nsIn K mainGlobals "need_faults" = some (some (.ref q35)))
  (l35 : K.lookup q35 = some ⟨oc35,od35,.func (fnOf "need_faults" "need_faults" (Jp J0S) (Jo J0S) (J4 J0S) .none kV35 dc35 pm35 an35 cd35 ct35),sl35⟩)
  (c35 : codeIn K cd35 "need_faults" = true)
  (k35 : keepIn K (.ref q35) = true)
  (a36 : nsIn K mainGlobals "most_faults" = some (some (.ref q36)))
  (l36 : K.lookup q36 = some ⟨oc36,od36,.func (fnOf "most_faults" "most_faults" (Jp J1d) (Jo J1d) (J4 J1d) .none kV36 dc36 pm36 an36 cd36 ct36),sl36⟩)
  (c36 : codeIn K cd36 "most_faults" = true)
  (k36 : keepIn K (.ref q36) = true)
  (a37 : findIn K (.ref J3) "rules_for" = some (some (.ref q37)))
  (i37 : isFn K (.ref q37) = true)
  (l37 : K.lookup q37 = some ⟨oc37,od37,.func (fnOf "rules_for" "House.rules_for" (Jp J0e) (Jo J0e) (J4 J0e) .none kV37 dc37 pm37 an37 cd37 ct37),sl37⟩)
  (c37 : codeIn K cd37 "House.rules_for" = true)
  (k37 : keepIn K (.ref q37) = true)
  (a38 : nsIn K mainGlobals "rule_faults" = some (some (.ref q38)))
  (l38 : K.lookup q38 = some ⟨oc38,od38,.func (fnOf "rule_faults" "rule_faults" (Jp J0O) (Jo J0O) (J4 J0O) .none kV38 dc38 pm38 an38 cd38 ct38),sl38⟩)
  (c38 : codeIn K cd38 "rule_faults" = true)
  (k38 : keepIn K (.ref q38) = true)
  (a39 : nsIn K mainGlobals "breaks_pair" = some (some (.ref q39)))
  (l39 : K.lookup q39 = some ⟨oc39,od39,.func (fnOf "breaks_pair" "breaks_pair" (Jp J1a) (Jo J1a) (J4 J1a) .none kV39 dc39 pm39 an39 cd39 ct39),sl39⟩)
  (c39 : codeIn K cd39 "breaks_pair" = true)
  (k39 : keepIn K (.ref q39) = true)
  (a40 : nsIn K mainGlobals "pair_faults" = some (some (.ref q40)))
  (l40 : K.lookup q40 = some ⟨oc40,od40,.func (fnOf "pair_faults" "pair_faults" (Jp J1g) (Jo J1g) (J4 J1g) .none kV40 dc40 pm40 an40 cd40 ct40),sl40⟩)
  (c40 : codeIn K cd40 "pair_faults" = true)
  (k40 : keepIn K (.ref q40) = true)
  (a41 : nsIn K mainGlobals "faults" = some (some (.ref q41)))
  (l41 : K.lookup q41 = some ⟨oc41,od41,.func (fnOf "faults" "faults" (Jp J3d) (Jo J3d) (J4 J3d) .none kV41 dc41 pm41 an41 cd41 ct41),sl41⟩)
  (c41 : codeIn K cd41 "faults" = true)
  (k41 : keepIn K (.ref q41) = true)
  (a42 : nsIn K mainGlobals "_law_cell_at" = some (some (.ref q42)))
  (l42 : K.lookup q42 = some ⟨oc42,od42,.func (fnOf "_law_cell_at" "_law_cell_at" (Jp J1i) (Jo J1i) (J4 J1i) .none kV42 dc42 pm42 an42 cd42 ct42),sl42⟩)
  (c42 : codeIn K cd42 "_law_cell_at" = true)
  (k42 : keepIn K (.ref q42) = true)
  (a43 : nsIn K mainGlobals "_law_stream" = some (some (.ref q43)))
  (l43 : K.lookup q43 = some ⟨oc43,od43,.func (fnOf "_law_stream" "_law_stream" (Jp J1K) (Jo J1K) (J4 J1K) .none kV43 dc43 pm43 an43 cd43 ct43),sl43⟩)
  (c43 : codeIn K cd43 "_law_stream" = true)
  (k43 : keepIn K (.ref q43) = true)
  (a44 : nsIn K mainGlobals "_law_kinds" = some (some (.ref q44)))
  (l44 : K.lookup q44 = some ⟨oc44,od44,.func (fnOf "_law_kinds" "_law_kinds" (Jp J1s) (Jo J1s) (J4 J1s) .none kV44 dc44 pm44 an44 cd44 ct44),sl44⟩)
  (c44 : codeIn K cd44 "_law_kinds" = true)
  (k44 : keepIn K (.ref q44) = true)
  (a45 : nsIn K mainGlobals "_law_name" = some (some (.ref q45)))
  (l45 : K.lookup q45 = some ⟨oc45,od45,.func (fnOf "_law_name" "_law_name" (Jp J20) (Jo J20) (J4 J20) .none kV45 dc45 pm45 an45 cd45 ct45),sl45⟩)
  (c45 : codeIn K cd45 "_law_name" = true)
  (k45 : keepIn K (.ref q45) = true)
  (a46 : nsIn K mainGlobals "_law_rota" = some (some (.ref q46)))
  (l46 : K.lookup q46 = some ⟨oc46,od46,.func (fnOf "_law_rota" "_law_rota" (Jp J21) (Jo J21) (J4 J21) .none kV46 dc46 pm46 an46 cd46 ct46),sl46⟩)
  (c46 : codeIn K cd46 "_law_rota" = true)
  (k46 : keepIn K (.ref q46) = true)
  (a47 : nsIn K mainGlobals "_law_some" = some (some (.ref q47)))
  (l47 : K.lookup q47 = some ⟨oc47,od47,.func (fnOf "_law_some" "_law_some" (Jp J1Z) (Jo J1Z) (J4 J1Z) .none kV47 dc47 pm47 an47 cd47 ct47),sl47⟩)
  (c47 : codeIn K cd47 "_law_some" = true)
  (k47 : keepIn K (.ref q47) = true)
  (a48 : nsIn K mainGlobals "_law_needs" = some (some (.ref q48)))
  (l48 : K.lookup q48 = some ⟨oc48,od48,.func (fnOf "_law_needs" "_law_needs" (Jp J24) (Jo J24) (J4 J24) .none kV48 dc48 pm48 an48 cd48 ct48),sl48⟩)
  (c48 : codeIn K cd48 "_law_needs" = true)
  (k48 : keepIn K (.ref q48) = true)
  (a49 : nsIn K mainGlobals "_law_plain_rule" = some (some (.ref q49)))
  (l49 : K.lookup q49 = some ⟨oc49,od49,.func (fnOf "_law_plain_rule" "_law_plain_rule" (Jp J0t) (Jo J0t) (J4 J0t) .none kV49 dc49 pm49 an49 cd49 ct49),sl49⟩)
  (c49 : codeIn K cd49 "_law_plain_rule" = true)
  (k49 : keepIn K (.ref q49) = true)
  (a50 : nsIn K mainGlobals "_law_rule" = some (some (.ref q50)))
  (l50 : K.lookup q50 = some ⟨oc50,od50,.func (fnOf "_law_rule" "_law_rule" (Jp J1W) (Jo J1W) (J4 J1W) .none kV50 dc50 pm50 an50 cd50 ct50),sl50⟩)
  (c50 : codeIn K cd50 "_law_rule" = true)
  (k50 : keepIn K (.ref q50) = true)
  (a51 : nsIn K mainGlobals "_law_wish" = some (some (.ref q51)))
  (l51 : K.lookup q51 = some ⟨oc51,od51,.func (fnOf "_law_wish" "_law_wish" (Jp J2v) (Jo J2v) (J4 J2v) .none kV51 dc51 pm51 an51 cd51 ct51),sl51⟩)
  (c51 : codeIn K cd51 "_law_wish" = true)
  (k51 : keepIn K (.ref q51) = true)
  (a52 : nsIn K mainGlobals "_law_person" = some (some (.ref q52)))
  (l52 : K.lookup q52 = some ⟨oc52,od52,.func (fnOf "_law_person" "_law_person" (Jp J11) (Jo J11) (J4 J11) .none kV52 dc52 pm52 an52 cd52 ct52),sl52⟩)
  (c52 : codeIn K cd52 "_law_person" = true)
  (k52 : keepIn K (.ref q52) = true)
  (a53 : nsIn K mainGlobals "_law_parts" = some (some (.ref q53)))
  (l53 : K.lookup q53 = some ⟨oc53,od53,.func (fnOf "_law_parts" "_law_parts" (Jp J1q) (Jo J1q) (J4 J1q) .none kV53 dc53 pm53 an53 cd53 ct53),sl53⟩)
  (c53 : codeIn K cd53 "_law_parts" = true)
  (k53 : keepIn K (.ref q53) = true)
  (a54 : nsIn K mainGlobals "_law_rule_faults" = some (some (.ref q54)))
  (l54 : K.lookup q54 = some ⟨oc54,od54,.func (fnOf "_law_rule_faults" "_law_rule_faults" (Jp J0h) (Jo J0h) (J4 J0h) .none kV54 dc54 pm54 an54 cd54 ct54),sl54⟩)
  (c54 : codeIn K cd54 "_law_rule_faults" = true)
  (k54 : keepIn K (.ref q54) = true)
  (a55 : nsIn K mainGlobals "_law_need_by" = some (some (.ref q55)))
  (l55 : K.lookup q55 = some ⟨oc55,od55,.func (fnOf "_law_need_by" "_law_need_by" (Jp J1e) (Jo J1e) (J4 J1e) .none kV55 dc55 pm55 an55 cd55 ct55),sl55⟩)
  (c55 : codeIn K cd55 "_law_need_by" = true)
  (k55 : keepIn K (.ref q55) = true)
  (a56 : nsIn K mainGlobals "_law_person_faults" = some (some (.ref q56)))
  (l56 : K.lookup q56 = some ⟨oc56,od56,.func (fnOf "_law_person_faults" "_law_person_faults" (Jp JY) (Jo JY) (J4 JY) .none kV56 dc56 pm56 an56 cd56 ct56),sl56⟩)
  (c56 : codeIn K cd56 "_law_person_faults" = true)
  (k56 : keepIn K (.ref q56) = true)
  (a57 : nsIn K mainGlobals "_law_plain_faults" = some (some (.ref q57)))
  (l57 : K.lookup q57 = some ⟨oc57,od57,.func (fnOf "_law_plain_faults" "_law_plain_faults" (Jp J03) (Jo J03) (J4 J03) .none kV57 dc57 pm57 an57 cd57 ct57),sl57⟩)
  (c57 : codeIn K cd57 "_law_plain_faults" = true)
  (k57 : keepIn K (.ref q57) = true)
  (a58 : nsIn K mainGlobals "_law_pair_faults" = some (some (.ref q58)))
  (l58 : K.lookup q58 = some ⟨oc58,od58,.func (fnOf "_law_pair_faults" "_law_pair_faults" (Jp J0g) (Jo J0g) (J4 J0g) .none kV58 dc58 pm58 an58 cd58 ct58),sl58⟩)
  (c58 : codeIn K cd58 "_law_pair_faults" = true)
  (k58 : keepIn K (.ref q58) = true)
  (a59 : nsIn K mainGlobals "_law_same" = some (some (.ref q59)))
  (l59 : K.lookup q59 = some ⟨oc59,od59,.func (fnOf "_law_same" "_law_same" (Jp J22) (Jo J22) (J4 J22) .none kV59 dc59 pm59 an59 cd59 ct59),sl59⟩)
  (c59 : codeIn K cd59 "_law_same" = true)
  (k59 : keepIn K (.ref q59) = true)
  (a60 : nsIn K mainGlobals "_law_case" = some (some (.ref q60)))
  (l60 : K.lookup q60 = some ⟨oc60,od60,.func (fnOf "_law_case" "_law_case" (Jp J14) (Jo J14) (J4 J14) .none kV60 dc60 pm60 an60 cd60 ct60),sl60⟩)
  (c60 : codeIn K cd60 "_law_case" = true)
  (k60 : keepIn K (.ref q60) = true)
  (a61 : nsIn K mainGlobals "law" = some (some (.ref q61)))
  (l61 : K.lookup q61 = some ⟨oc61,od61,.func (fnOf "law" "law" (Jp J3J) (Jo J3J) (J4 J3J) .none kV61 dc61 pm61 an61 cd61 ct61),sl61⟩)
  (c61 : codeIn K cd61 "law" = true)
  (k61 : keepIn K (.ref q61) = true)
  (J6E : plainGet K Jb Str.empty = true)
  (J6y : hasDictIn K Jb = true)
  (J6A : plainOver K Jb = true)
  (J6b : findIn K (.ref Jb) "__setattr__" = some (some (.builtin "object.__setattr__")))
  (J6w : makesIn K Jb = true)
  (J6B : keepIn K (.ref Jb) = true)
  (J86 : plainGet K Jf Str.empty = true)
  (J8b : hasDictIn K Jf = true)
  (J8l : plainOver K Jf = true)
  (J8r : findIn K (.ref Jf) "__setattr__" = some (some (.builtin "object.__setattr__")))
  (J89 : makesIn K Jf = true)
  (J7Z : keepIn K (.ref Jf) = true)
  (J6c : plainGet K Ja Str.empty = true)
  (J6o : hasDictIn K Ja = true)
  (J69 : plainOver K Ja = true)
  (J6G : findIn K (.ref Ja) "__setattr__" = some (some (.builtin "object.__setattr__")))
  (J6d : makesIn K Ja = true)
  (J6q : keepIn K (.ref Ja) = true)
  (J81 : plainGet K Jh Str.empty = true)
  (J8e : hasDictIn K Jh = true)
  (J7W : plainOver K Jh = true)
  (J8o : findIn K (.ref Jh) "__setattr__" = some (some (.builtin "object.__setattr__")))
  (J82 : makesIn K Jh = true)
  (J83 : keepIn K (.ref Jh) = true)
  (J5q : plainGet K J8 Str.empty = true)
  (J5p : hasDictIn K J8 = true)
  (J5c : plainOver K J8 = true)
  (J5o : findIn K (.ref J8) "__setattr__" = some (some (.builtin "object.__setattr__")))
  (J5k : makesIn K J8 = true)
  (J5b : keepIn K (.ref J8) = true)
  (Jau : plainGet K Jn Str.empty = true)
  (Ja2 : hasDictIn K Jn = true)
  (Ja8 : plainOver K Jn = true)
  (Jat : findIn K (.ref Jn) "__setattr__" = some (some (.builtin "object.__setattr__")))
  (Jav : makesIn K Jn = true)
  (J9W : keepIn K (.ref Jn) = true)
  (J5g : plainGet K J5 Str.empty = true)
  (J5n : hasDictIn K J5 = true)
  (J5r : plainOver K J5 = true)
  (J5e : findIn K (.ref J5) "__setattr__" = some (some (.builtin "object.__setattr__")))
  (J5f : makesIn K J5 = true)
  (J5m : keepIn K (.ref J5) = true)
  (J6t : plainGet K J3 Str.empty = true)
  (J6f : hasDictIn K J3 = true)
  (J6a : plainOver K J3 = true)
  (J6n : findIn K (.ref J3) "__setattr__" = some (some (.builtin "object.__setattr__")))
  (J6r : makesIn K J3 = true)
  (J6D : keepIn K (.ref J3) = true)
  (J26 : findIn K (.ref Jh) "left" = some none)
  (J1F : findIn K (.ref Jh) "right" = some none)
  (J1b : findIn K (.ref J8) "left" = some none)
  (J0V : findIn K (.ref J8) "right" = some none)
  (J1G : findIn K (.ref J3) "days" = some none)
  (J19 : findIn K (.ref J3) "kinds" = some none)
  (J0R : findIn K (.ref J3) "needs" = some none)
  (J02 : findIn K (.ref J3) "persons" = some none)
  (J0P : findIn K (.ref J3) "leave" = some none)
  (J1v : findIn K (.ref J3) "wishes" = some none)
  (J1j : findIn K (.ref J3) "rules" = some none)
  (J0Q : findIn K (.ref J3) "pairs" = some none)
  (J1L : findIn K (.ref Ja) "many" = some none)
  (J18 : findIn K (.ref Ja) "marks" = some none)
  (J10 : findIn K (.ref Ja) "days" = some none)
  (J2c : findIn K (.ref Jf) "many" = some none)
  (J1J : findIn K (.ref Jf) "marks" = some none)
  (J2b : findIn K (.ref Jf) "days" = some none)
  (J0G : findIn K (.ref Jb) "word" = some none)
  (J28 : findIn K (.ref Jn) "inner" = some none)
  (J00 : findIn K (.ref J5) "name" = some none)
  (J0F : findIn K (.ref J5) "skills" = some none)
  (J1c : findIn K (.ref J5) "most" = some none)
  (J0X : findIn K (.ref J5) "carried" = some none)
  (J1f : findIn K (.ref J5) "past" = some none)
  (J7A : nsIn K mainGlobals "all" = some none)
  (J7x : nsIn K mainGlobals "any" = some none)
  (J6h : nsIn K mainGlobals "bool" = some none)
  (J0H : nsIn K mainGlobals "enumerate" = some none)
  (J5P : nsIn K mainGlobals "int" = some none)
  (J12 : nsIn K mainGlobals "isinstance" = some none)
  (J05 : nsIn K mainGlobals "len" = some none)
  (J1Y : nsIn K mainGlobals "list" = some none)
  (J9n : nsIn K mainGlobals "max" = some none)
  (J0m : nsIn K mainGlobals "range" = some none)
  (J98 : nsIn K mainGlobals "set" = some none)
  (J7y : nsIn K mainGlobals "str" = some none)
  (J4M : nsIn K mainGlobals "tuple" = some none)
  (J4L : nsIn K mainGlobals "zip" = some none)
  (J2o : nsIn K mainGlobals "MOST_WORDS" = some (some (.int 60 tk_MOST_WORDS)))
  (J1p : nsIn K mainGlobals "DAYS_FIGURES" = some (some (.str ⟨[49,50,51,52,53,54,55].toArray⟩ tk_DAYS_FIGURES)))
  (J1u : nsIn K mainGlobals "MANY_FIGURES" = some (some (.str ⟨[48,49,50,51,52,53,54,55].toArray⟩ tk_MANY_FIGURES)))
  (J2l : nsIn K mainGlobals "MARK_SIGNS" = some (some (.str ⟨[65,66,67,68,69,70,71,72,73,74,75,76,77,78,79,80,81,82,83,84,85,86,87,88,89,90,45,35].toArray⟩ tk_MARK_SIGNS)))
  (J2m : nsIn K mainGlobals "WORD_SIGNS" = some (some (.str ⟨[65,66,67,68,69,70,71,72,73,74,75,76,77,78,79,80,81,82,83,84,85,86,87,88,89,90,45,35,63].toArray⟩ tk_WORD_SIGNS)))
  : ∃ fd : FuncData,(∀ (s : Shared) (v : Value),BindsTo s fd ⟨[v],[]⟩ [("_law_script",v)]) ∧ ∀ base : Heap,K.In base → base.Ns mainGlobals mg → FnOk l.prog w K mg base CX0 80 fa fd ["_law_script"] (sp_law K) := by
 have e := hfa.symm.trans (mg_of X G a61)
 cases e
 have T : Tx K mg Jb Jf Ja Jh J8 Jn J5 J3 := ⟨⟨_,_,Jy (st := J5d) l1 c1 k1,mg_of X G a1⟩,
  ⟨_,_,Jy (st := J1B) l2 c2 k2,mg_of X G a2⟩,
  ⟨_,_,Jy (st := J2V) l3 c3 k3,mg_of X G a3⟩,
  ⟨_,_,Jy (st := J0M) l4 c4 k4,mg_of X G a4⟩,
  ⟨_,_,Jy (st := J1I) l5 c5 k5,⟨a5,i5,k5⟩⟩,
  ⟨_,_,Jy (st := J1r) l6 c6 k6,⟨a6,i6,k6⟩⟩,
  ⟨_,_,Jy (st := J29) l7 c7 k7,⟨a7,i7,k7⟩⟩,
  ⟨_,_,Jy (st := J2s) l8 c8 k8,⟨a8,i8,k8⟩⟩,
  ⟨_,_,Jy (st := J1C) l9 c9 k9,⟨a9,i9,k9⟩⟩,
  ⟨_,_,Jy (st := J25) l10 c10 k10,⟨a10,i10,k10⟩⟩,
  ⟨_,_,Jy (st := J27) l11 c11 k11,⟨a11,i11,k11⟩⟩,
  ⟨_,_,Jy (st := J1h) l12 c12 k12,⟨a12,i12,k12⟩⟩,
  ⟨_,_,Jy (st := J2x) l13 c13 k13,⟨a13,i13,k13⟩⟩,
  ⟨_,_,Jy (st := J2u) l14 c14 k14,⟨a14,i14,k14⟩⟩,
  ⟨_,_,Jy (st := J1D) l15 c15 k15,⟨a15,i15,k15⟩⟩,
  ⟨_,_,Jy (st := J2P) l16 c16 k16,⟨a16,i16,k16⟩⟩,
  ⟨_,_,Jy (st := J2r) l17 c17 k17,mg_of X G a17⟩,
  ⟨_,_,Jy (st := J2e) l18 c18 k18,mg_of X G a18⟩,
  ⟨_,_,Jy (st := J2O) l19 c19 k19,mg_of X G a19⟩,
  ⟨_,_,Jy (st := J2f) l20 c20 k20,mg_of X G a20⟩,
  ⟨_,_,Jy (st := J0T) l21 c21 k21,mg_of X G a21⟩,
  ⟨_,_,Jy (st := J2t) l22 c22 k22,mg_of X G a22⟩,
  ⟨_,_,Jy (st := J1H) l23 c23 k23,mg_of X G a23⟩,
  ⟨_,_,Jy (st := J1E) l24 c24 k24,mg_of X G a24⟩,
  ⟨_,_,Jy (st := J2a) l25 c25 k25,mg_of X G a25⟩,
  ⟨_,_,Jy (st := J1X) l26 c26 k26,mg_of X G a26⟩,
  ⟨_,_,Jy (st := J1k) l27 c27 k27,⟨a27,i27,k27⟩⟩,
  ⟨_,_,Jy (st := J1z) l28 c28 k28,⟨a28,i28,k28⟩⟩,
  ⟨_,_,Jy (st := J1M) l29 c29 k29,⟨a29,i29,k29⟩⟩,
  ⟨_,_,Jy (st := J1w) l30 c30 k30,mg_of X G a30⟩,
  ⟨_,_,Jy (st := J0u) l31 c31 k31,⟨a31,i31,k31⟩⟩,
  ⟨_,_,Jy (st := J2w) l32 c32 k32,mg_of X G a32⟩,
  ⟨_,_,Jy (st := J0w) l33 c33 k33,mg_of X G a33⟩,
  ⟨_,_,Jy (st := J0y) l34 c34 k34,mg_of X G a34⟩,
  ⟨_,_,Jy (st := J0S) l35 c35 k35,mg_of X G a35⟩,
  ⟨_,_,Jy (st := J1d) l36 c36 k36,mg_of X G a36⟩,
  ⟨_,_,Jy (st := J0e) l37 c37 k37,⟨a37,i37,k37⟩⟩,
  ⟨_,_,Jy (st := J0O) l38 c38 k38,mg_of X G a38⟩,
  ⟨_,_,Jy (st := J1a) l39 c39 k39,mg_of X G a39⟩,
  ⟨_,_,Jy (st := J1g) l40 c40 k40,mg_of X G a40⟩,
  ⟨_,_,Jy (st := J3d) l41 c41 k41,mg_of X G a41⟩,
  ⟨_,_,Jy (st := J1i) l42 c42 k42,mg_of X G a42⟩,
  ⟨_,_,Jy (st := J1K) l43 c43 k43,mg_of X G a43⟩,
  ⟨_,_,Jy (st := J1s) l44 c44 k44,mg_of X G a44⟩,
  ⟨_,_,Jy (st := J20) l45 c45 k45,mg_of X G a45⟩,
  ⟨_,_,Jy (st := J21) l46 c46 k46,mg_of X G a46⟩,
  ⟨_,_,Jy (st := J1Z) l47 c47 k47,mg_of X G a47⟩,
  ⟨_,_,Jy (st := J24) l48 c48 k48,mg_of X G a48⟩,
  ⟨_,_,Jy (st := J0t) l49 c49 k49,mg_of X G a49⟩,
  ⟨_,_,Jy (st := J1W) l50 c50 k50,mg_of X G a50⟩,
  ⟨_,_,Jy (st := J2v) l51 c51 k51,mg_of X G a51⟩,
  ⟨_,_,Jy (st := J11) l52 c52 k52,mg_of X G a52⟩,
  ⟨_,_,Jy (st := J1q) l53 c53 k53,mg_of X G a53⟩,
  ⟨_,_,Jy (st := J0h) l54 c54 k54,mg_of X G a54⟩,
  ⟨_,_,Jy (st := J1e) l55 c55 k55,mg_of X G a55⟩,
  ⟨_,_,Jy (st := JY) l56 c56 k56,mg_of X G a56⟩,
  ⟨_,_,Jy (st := J03) l57 c57 k57,mg_of X G a57⟩,
  ⟨_,_,Jy (st := J0g) l58 c58 k58,mg_of X G a58⟩,
  ⟨_,_,Jy (st := J22) l59 c59 k59,mg_of X G a59⟩,
  ⟨_,_,Jy (st := J14) l60 c60 k60,mg_of X G a60⟩,
  ⟨_,_,Jy (st := J3J) l61 c61 k61,mg_of X G a61⟩,
  ⟨⟨J6E,J6y,J6A,J6b⟩,mg_of X G J8q,J6w,J6B⟩,
  ⟨⟨J86,J8b,J8l,J8r⟩,mg_of X G Jaa,J89,J7Z⟩,
  ⟨⟨J6c,J6o,J69,J6G⟩,mg_of X G J7Y,J6d,J6q⟩,
  ⟨⟨J81,J8e,J7W,J8o⟩,mg_of X G Jao,J82,J83⟩,
  ⟨⟨J5q,J5p,J5c,J5o⟩,mg_of X G J6H,J5k,J5b⟩,
  ⟨⟨Jau,Ja2,Ja8,Jat⟩,mg_of X G Jcn,Jav,J9W⟩,
  ⟨⟨J5g,J5n,J5r,J5e⟩,mg_of X G J6i,J5f,J5m⟩,
  ⟨⟨J6t,J6f,J6a,J6n⟩,mg_of X G J85,J6r,J6D⟩,
  J26,
  J1F,
  J1b,
  J0V,
  J1G,
  J19,
  J0R,
  J02,
  J0P,
  J1v,
  J1j,
  J0Q,
  J1L,
  J18,
  J10,
  J2c,
  J1J,
  J2b,
  J0G,
  J28,
  J00,
  J0F,
  J1c,
  J0X,
  J1f,
  mg_none_of X G J7A,
  mg_none_of X G J7x,
  mg_none_of X G J6h,
  mg_none_of X G J0H,
  mg_none_of X G J5P,
  mg_none_of X G J12,
  mg_none_of X G J05,
  mg_none_of X G J1Y,
  mg_none_of X G J9n,
  mg_none_of X G J0m,
  mg_none_of X G J98,
  mg_none_of X G J7y,
  mg_none_of X G J4M,
  mg_none_of X G J4L,
  ⟨_,mg_of X G J2o⟩,
  ⟨_,mg_of X G J1p⟩,
  ⟨_,mg_of X G J1u⟩,
  ⟨_,mg_of X G J2l⟩,
  ⟨_,mg_of X G J2m⟩⟩
 refine ⟨fnOf "law" "law" (Jp J3J) (Jo J3J) (J4 J3J) .none kV61 dc61 pm61 an61 cd61 ct61,fun s v => .of_eq rfl,fun base _ _ => ?_⟩
 exact JfB T (Jy (st := J3J) l61 c61 k61)
theorem walk {l : PySem.W.OpenLaw} {q : Program} {loose : List Str} {XP : (Str → Option Value) → Heap → Prop} {YP : World → Heap → Prop} {d : DefRec} {K : Params → PySem.W.Frag} (hn : l.most = some 63) (hdf : d.params.defaults = [])
  (hY : ∀ (w : World) (h : Heap),YP w h → (K w.params).In h)
  (F : ∀ (w : World) (mg : Str → Option Value) (fa : Addr) (h : Heap),(K w.params).In h → h.Ns mainGlobals mg → mg d.name = some (.ref fa) →
   ∃ fd : FuncData,(∀ (s : Shared) (u : Value),BindsTo s fd ⟨[u],[]⟩ [("_law_script",u)]) ∧ ∀ base : Heap,(K w.params).In base → base.Ns mainGlobals mg → FnOk l.prog w (K w.params) mg base CX0 80 fa fd ["_law_script"] (sp_law (K w.params))) :
  PySem.W.WalkO q loose XP YP l.row.toRowW d [] (fun f vs => PySem.call f vs) :=
 L2.walk_of (n := 63) (k := 80) (x := "_law_script") (CX := fun _ => CX0) (sp := fun w => sp_law (K w.params)) hn (by decide) hdf ⟨rfl,by decide,by decide⟩ hY F (fun _ _ a ns hl _ hS => ⟨a,ns,rfl,hS,hl,fun _ => rfl⟩) fun _ _ _ _ _ z => z
theorem walkX {q : Program} {loose : List Str} {XP : (Str → Option Value) → Heap → Prop} {K : Params → PySem.W.Frag} {as : List Addr} {n t : Nat} {r : PySem.W.RowW} {d : DefRec} {kwd : List (Str × Expr)} {run : Value → List Value → Sem Value} (e : ∀ P,as = (K P).map (·.1))
  (h : PySem.W.WalkO q loose XP (fun w hp => (K w.params).In hp) r d kwd run) : PySem.W.WalkX q loose XP (PySem.W.X.obsZ as) (PySem.W.X.valZ K n t) r d kwd run := by
 intro w s₀ s₁ mg mb G Y a o pm cd doc dV kV h1 h2 h3 h4 h5 h6 args vals as' L p1 p2 p3 p4 p5
 exact h w s₀ s₁ mg mb G (PySem.W.InK.keeps w _ _ (PySem.W.X.z_facts e Y).2.1 L.keeps) a o pm cd doc dV kV h1 h2 h3 h4 h5 h6 args vals as' p1 p2 p3 p4 p5
end K35
namespace PySem.W.Fast
def tw2636813492281153672:=()
def tw11578569490250003919:=()
def tw2236617341912489562:=()
def tw571133473710721078:=()
def tw16543075165450889148:=()
def tw5617224474561828238:=()
def tw2914524272072144903:=()
def tw13334855410125184072:=()
def tw11045302553905112132:=()
def tw6565622204389594500:=()
def tw13811269136256408425:=()
def tw12046790528520840280:=()
def tw1636499648181482531:=()
def tw9876101319604007077:=()
def tw17439928091297886649:=()
def tw11618892769118692072:=()
def tw17089272099091049:=()
def tw7129313326694097399:=()
def tw164598694705544071:=()
def tw9776065414096042166:=()
def tw12293114137664847205:=()
def tw556858379143212558:=()
def tw3111170577346011267:=()
def tw17469985206533121039:=()
def tw2851410802749383599:=()
def tw16910735713754541629:=()
def tw10384041706649559165:=()
def tw14889882977007922094:=()
def tw15134789479252589701:=()
def tw10414455759372998492:=()
def tw7260364553943672064:=()
def tw7516839269273493552:=()
def tw1312519788386331374:=()
def tw17543698693880389074:=()
def tw10661824591898209287:=()
def tw6982648985515547660:=()
def tw3895378413974438801:=()
def tw5196355869339607521:=()
def tw3118019610753048992:=()
def tw11155559992904291992:=()
def tw7582346600058888091:=()
def tw7163092142730429863:=()
def tw12525997413360502489:=()
def tw5482537093263824157:=()
def tw314568766590041937:=()
def tw15695392814069541987:=()
def tw9313768091280086052:=()
def tw11754269108365299735:=()
def tw5025331850169028627:=()
def tw7102594701436323475:=()
def tw7298496757586454943:=()
def tw5799541298408994031:=()
def tw15969450608880661760:=()
def tw5360445866077423531:=()
def tw703219068061669434:=()
def tw15680991061040153194:=()
def tw1629768545760052330:=()
def tw14469772975208010839:=()
def tw5376251196131023537:=()
def tw11438624655062738205:=()
def tw637895153945853612:=()
def tw12020031125233349021:=()
def tw17136374482420364706:=()
def tw9454030411941610776:=()
def tw10445349001222971260:=()
def tw11646696142926207693:=()
def tw11244405901261232247:=()
def tw8056988061654127626:=()
def tw2384229144284224659:=()
def tw1362483696579688653:=()
def tw493290607023775588:=()
def tw4865054240055831475:=()
def tw14823652736355272314:=()
def tw14547277027531773543:=()
def tw1500484329655909199:=()
def tw8103553853568285986:=()
def tw9338379177785984353:=()
def tw12022391339482815065:=()
def tw18359599068001809164:=()
def tw13847246749094555989:=()
def tw3261812038307535955:=()
def tw16237616371991072806:=()
def tw18370643957078708960:=()
def tw14520942523118698965:=()
def tw18339686942514081707:=()
def tw3085062212508798639:=()
def tw3230086128296415660:=()
def tw2537197976361441617:=()
def tw14954621634101303992:=()
def tw14671760517911989100:=()
def tw18333475501101614148:=()
def tw7738562807767327650:=()
def tw3341351787519759907:=()
def tw12107254886279158139:=()
def tw2320076068055636338:=()
def tw4584036764654708213:=()
def tw4370416379844457431:=()
def tw6300033884033864342:=()
def tw15559578051409224692:=()
def tw3873717419394381429:=()
def tw15635330507714498417:=()
def tw1758800068909529611:=()
def tw4583339104832453247:=()
def tw17263633686240498580:=()
def tw7628644618498960355:=()
def tw12035445983056623652:=()
def tw15862474631702345891:=()
def tw546068674147076283:=()
def tw14278448140618327040:=()
def tw13981800112777949479:=()
def tw10993304854146439359:=()
def tw6258406039379504706:=()
def tw17918625497668424307:=()
def tw2351090040034179647:=()
def tw3033981926424810563:=()
def tw16542824034332360754:=()
def tw15341821417913835079:=()
def tw15706444404254560600:=()
def tw14961955018502410751:=()
def tw13477521615811770647:=()
def tw7575271407022466377:=()
def tw11573045959814386509:=()
def tw16863229766305820884:=()
def tw10841541376818924644:=()
def tw10674739413380539553:=()
def tw5240316244446952957:=()
def tw775401811551011673:=()
def tw12560912225642096384:=()
def tw11770278398891527848:=()
def tw12587945392970593873:=()
def tw8181401358978539830:=()
def tw6947372061983611419:=()
def tw6511785221587113530:=()
def tw15235533176559703413:=()
def tw9867366482408302862:=()
def tw6454835541200750453:=()
def tw3955937330265670260:=()
def tw12589964178929137670:=()
def tw13613446679551311097:=()
def tw10709148776445469699:=()
def tw1002341523434029243:=()
def tw9628085115992030977:=()
def tw9718969536822682176:=()
def tw8740823218224774925:=()
def tw5283929948366724835:=()
def tw14572135482094162870:=()
def tw8927423806529773456:=()
def tw15575212304131513625:=()
def tw9773105586382074718:=()
def tw11680169844728641962:=()
def tw6645244344211229995:=()
def tw10445922661614389005:=()
def tw14925655072888130435:=()
def tw17535280317844390107:=()
def tw16318069414901279505:=()
def tw9282084657247428604:=()
def tw5436371168872812680:=()
def tw17258160930485116989:=()
def tw17665839713879985273:=()
def tw3550930310220747690:=()
def tw16333135039054833221:=()
def tw9550858092820375829:=()
def tw3216534659147108490:=()
def tw15143076471469678132:=()
def tw14612880229560673390:=()
def tw1155173093182331140:=()
def tw9780276663217680110:=()
def tw18190716992101941783:=()
def tw9388466996108686858:=()
def tw6992627373659431921:=()
def tw12947738959063268543:=()
def tw9870904332526054105:=()
def tw6240036610707087770:=()
def tw8794151406491641339:=()
def tw11143871932576026407:=()
def tw9762349097756490125:=()
def tw5579817832036535428:=()
def tw6289202442988279710:=()
def tw3185130642787438287:=()
def tw12752650800466544878:=()
def tw11987904271036627317:=()
def tw3936850684304005787:=()
def tw8851348968612763584:=()
def tw2636424347775346056:=()
def tw7170084187580760153:=()
def tw14227174919258661190:=()
def tw4303682941762466575:=()
def tw16398366824363463443:=()
def tw3496530586975746425:=()
def tw7457753163064794983:=()
def tw9159249633606877940:=()
def tw13213269703907915047:=()
def tw2868011165303475271:=()
def tw2023999988052068807:=()
def tw2729392416763656004:=()
def tw12228032676252615337:=()
def tw6498038636840795941:=()
def tw16193424131126029072:=()
def tw6124469826490435666:=()
def tw14752364835179196604:=()
def tw7015164612153162637:=()
def tw2646161150330010472:=()
def tw16738047944123958483:=()
def tw15302104936884919127:=()
def tw18294367492408412761:=()
def tw10259045367428769180:=()
def tw7742783126409962176:=()
def tw9216942024917587637:=()
def tw10973954063137599700:=()
def tw10831875246183770338:=()
def tw7067850239161547223:=()
def tw10076900903139753891:=()
def tw11890833364631167799:=()
def tw14026407780621042253:=()
def tw13812927548517935103:=()
def tw11625608247911152136:=()
def tw1591990738915633637:=()
def tw17490297729712706714:=()
def tw3486536159017014702:=()
def tw6213755710019773531:=()
def tw3306087487806126689:=()
def tw6736746533735165537:=()
def tw4569859484167111528:=()
def tw16353897286951595711:=()
def tw3120047024409296202:=()
def tw16772474812055945939:=()
def tw2049479611651124322:=()
def tw10574835847015869759:=()
def tw5787180619314810939:=()
def tw7516749408248859138:=()
def tw16545457664342177487:=()
def tw8855066396877867235:=()
def tw12090402150598719848:=()
def tw18379364897998482503:=()
def tw1504043532457803443:=()
def tw5760820687699743995:=()
def tw2128607823157220294:=()
def tw4685613163888458403:=()
def tw14500688111060555561:=()
def tw11415888211401773766:=()
def tw8572476784995461498:=()
def tw8206506241975698401:=()
def tw3650670611520548513:=()
def tw10538132395966096949:=()
def tw10503669684524845609:=()
def tw10571535305864376930:=()
def tw12911313599674902700:=()
def tw17002774756835797572:=()
def tw536583423229431619:=()
def tw3814126408122255562:=()
def tw10234674794434313761:=()
def tw4188065031068234977:=()
def tw16313919788706880958:=()
def tw2864563018016276243:=()
def tw8206476890873430196:=()
def tw16389960779846233401:=()
def tw4179588289586680207:=()
def tw11457535946426170380:=()
def tw5309825019745124149:=()
def tw2866423799911276147:=()
def tw6171483742395025438:=()
def tw8969379953951015242:=()
def tw425809108156721017:=()
def tw6967534638221054045:=()
def tw16406324225799142219:=()
def tw9869391679731130960:=()
def tw5260057007511026650:=()
def tw15328120758147897191:=()
def tw5850578317445857442:=()
def tw10423164500717905029:=()
def tw1064947503880798731:=()
def tw12999415497160756112:=()
def tw13383036109734824517:=()
def tw12816371867033136870:=()
def tw14166214967487855126:=()
def tw831513975039715294:=()
def tw71008179150055850:=()
def tw15497215229218932232:=()
def tw1714891227737583124:=()
def tw9141130828499312112:=()
def tw819233697624858425:=()
def tw17961297854382245766:=()
def tw15344645784316066514:=()
def tw1327639129954527187:=()
def tw18073869804978259298:=()
def tw15330156189929195668:=()
def tw7178080702189374991:=()
def tw16775416002591327816:=()
def tw4383954425686993133:=()
def tw16913312462608396073:=()
def tw11290197355857118754:=()
def tw8204076427445036325:=()
def tw18391039713932296917:=()
def tw15606121838981039085:=()
def tw6963244344133242290:=()
def tw14568315693558505367:=()
def tw16352310754527924826:=()
def tw13663203234811695774:=()
def tw6078384412583687221:=()
def tw4884816068325051146:=()
def tw3474263244814353911:=()
def tw3331673832019389263:=()
def tw13255656222136200779:=()
def tw3255278368865125365:=()
def tw16193604515248774251:=()
def tw15356523695887947921:=()
def tw1386619993385411399:=()
def tw12358707788005970812:=()
def tw4224464457206716667:=()
def tw7038931754886100949:=()
def tw4220200429025977588:=()
def tw2387071852468045047:=()
def tw9144451636689216799:=()
def tw15754386255794828556:=()
def tw333983773135121017:=()
def tw11794944096302591547:=()
def tw3663398260468657326:=()
def tw12868554992359912705:=()
def tw1660272212003579922:=()
def tw9070098413162304048:=()
def tw10278415877349639621:=()
def tw400587384034664190:=()
def tw3854382200917643379:=()
def tw15727670133167312574:=()
def tw12179915514586585001:=()
def tw6468577144215439014:=()
def tw16037180950917543385:=()
def tw6142959285060697268:=()
def tw2136822880978879296:=()
def tw13243923746102748184:=()
def tw17930043777962049766:=()
def tw6018328526344069613:=()
def tw7600746583998799315:=()
def tw5728384560736931978:=()
def tw5011087633537023062:=()
def tw4796959295390688198:=()
def tw265814156399885870:=()
def tw8216775043385210201:=()
def tw12833454052212142647:=()
def tw4451444347821064413:=()
def tw12103579778966605357:=()
def tw2448862658112469492:=()
def tw3222146759687311985:=()
def tw9154917276555957800:=()
def tw13309834648959780653:=()
def tw10949596565207067854:=()
def tw11625656673859418729:=()
def tw1887111969361875624:=()
def tw9887976922001578916:=()
def tw5744854456150490269:=()
def tw5496727836086483604:=()
def tw7449830793182935651:=()
def tw6247605202027469498:=()
def tw11072280233602907835:=()
def tw15667994105397951001:=()
def tw8889284018026797089:=()
def tw7786536703221538479:=()
def tw10688133067296682827:=()
def tw950195894486360030:=()
def tw5088036064439396540:=()
def tw11452934660800378453:=()
def tw4099553544188804213:=()
def tw7974547567537912820:=()
def tw14786678934822972939:=()
def tw1006094950947459675:=()
def tw13715409348706521735:=()
def tw5303754483945263002:=()
def tw13954014580851451778:=()
def tw7175912069879262239:=()
def tw4343358911940319987:=()
def tw16826780940293901037:=()
def tw13697790230804367301:=()
def tw13409438688110174817:=()
def tw3927533176359644901:=()
def tw2538900775581356934:=()
def tw18097970042741573485:=()
def tw16687352958994127860:=()
def tw9359416918344477975:=()
def tw3206244276070667608:=()
def tw10222953991547474930:=()
def tw6439489885336281107:=()
def tw3883095328172123542:=()
def tw14141772449803618387:=()
def tw15689106698966762611:=()
def tw240662566818150748:=()
def tw803567015662288732:=()
def tw9704783987843010631:=()
def tw2385413466147262087:=()
def tw11567461883633789838:=()
def tw11273744095117506876:=()
def tw18018235473104900756:=()
def tw5806021296853518765:=()
def tw9060664029555824734:=()
def tw61857083833507236:=()
def tw6544584816676737099:=()
def tw6856831593018713728:=()
def tw13036149676716591548:=()
def tw12550221197773497855:=()
def tw7820590730527853578:=()
def tw16721589127502364285:=()
def tw10154868339436365794:=()
def tw4826851432240139728:=()
def tw15677101722324005519:=()
def tw11859632500949713014:=()
def tw15604437014626339797:=()
def tw4249755935731510882:=()
def tw17863236446890287078:=()
def tw17913978634759089966:=()
def tw4872977810969233994:=()
def tw11566461619528207934:=()
def tw4021606524654815632:=()
def tw1689913280791415900:=()
def tw3879237507257875929:=()
def tw1535612241056404835:=()
def tw4177210479025652178:=()
def tw12648019191580732425:=()
def tw1259390702113492978:=()
def tw17857308300509594910:=()
def tw7156994463981242701:=()
def tw15540070773172750048:=()
def tw12737234156746374251:=()
def tw5147060241798775591:=()
def tw11290524382370336751:=()
def tw15721667955154656208:=()
def tw6725221867815811169:=()
def tw6642791934778568515:=()
def tw14927314557599020838:=()
def tw4197466676317514095:=()
def tw8720257350950241324:=()
def tw198445502461690280:=()
def tw1573476620226036883:=()
def tw15715681019704089749:=()
def tw8412850348855257459:=()
def tw528694275578193244:=()
def tw10831396282285265625:=()
def tw15063513298218821174:=()
def tw2552699210119361815:=()
def tw2527187291491021617:=()
def tw1998182313635114285:=()
def tw12867086831128945517:=()
def tw17899606742298765425:=()
def tw129663368901918828:=()
def tw6592173984139728737:=()
def tw4232292018114203191:=()
def tw11499570646921463488:=()
def tw16311405033277497765:=()
def tw14848640863932247209:=()
def tw13248602603292943970:=()
def tw15866626482054102253:=()
def tw17523871639626242823:=()
def tw13930995692740529309:=()
def tw8972156011690598071:=()
def tw16411956062017172540:=()
def tw7178957245663875226:=()
def tw5457346564207737392:=()
def tw9369292061003919187:=()
def tw16723573132491599799:=()
def tw11773974838361301671:=()
def tw12069801242071781887:=()
def tw14486136218561195289:=()
def tw7002212799805398247:=()
def tw330948137523671243:=()
def tw1931387079773507369:=()
def tw16174329542194251449:=()
def tw2680443087068251681:=()
def tw6341831700803807573:=()
def tw7867864126247169599:=()
def tw7412859311850419648:=()
def tw9286862235773587937:=()
def tw17157556660257597802:=()
def tw3706802925161147233:=()
def tw8720639011249799291:=()
def tw2879392415680861305:=()
def tw17319586631098347932:=()
def tw12966970236278966520:=()
def tw14282517739262462674:=()
def tw159097490205247949:=()
def tw17942814439329799248:=()
def tw14160180420323600892:=()
def tw1474483546163786742:=()
def tw7581220097536072505:=()
def tw9926608891598897810:=()
def tw2201618393895819439:=()
def tw16567024489229102320:=()
def tw7339909498489789189:=()
def tw11252464078038864212:=()
def tw175018195191095704:=()
def tw2721197395366087349:=()
def tw8875297253457761882:=()
def tw12801999945535972633:=()
def tw11056200660982230011:=()
def tw12251506983595840141:=()
def tw14419169077320839429:=()
def tw10620382702903806493:=()
def tw8852346765549332945:=()
def tw4619171012684602552:=()
def tw9065956428603084573:=()
def tw1051196339904585802:=()
def tw10579045395415946932:=()
def tw14809295115968825566:=()
def tw15842222101455460677:=()
def tw11735672404824268941:=()
def tw12798771353112833996:=()
def tw14885768341962580363:=()
def tw6615869311916719220:=()
def tw9851859096724669833:=()
def tw6749559374859202788:=()
def tw3702782090673157415:=()
def tw10434615088204999014:=()
def tw13587486125129817565:=()
def tw16496228789781605148:=()
def tw7661805306198351617:=()
def tw15943376878622372744:=()
def tw13721765008369862921:=()
def tw6034445494986329807:=()
def tw8383595339228344184:=()
def tw8102769832254377593:=()
def tw6127831329476694723:=()
def tw5611342032695123920:=()
def tw17864836655992798593:=()
def tw7254779646051271860:=()
def tw10023593047546780408:=()
def tw10012963301198387976:=()
def tw14500811244599628221:=()
def tw17318972493702149668:=()
def tw15334150539380762466:=()
def tw11291915098121099139:=()
def tw3428892805330485770:=()
def tw13375321765254765077:=()
def tw590732811438947807:=()
def tw1616486605500937941:=()
def tw1294411543080414545:=()
def tw7108001929182838406:=()
def tw5266576720478062277:=()
def tw12125582917275382298:=()
def tw14419121399277171039:=()
def tw773192430969701619:=()
def tw14831710018438259848:=()
def tw12179641182257599461:=()
def tw6972097731224700478:=()
def tw3498889504892594645:=()
def tw15471903067520575495:=()
def tw3102500608637672832:=()
def tw4875924594689020057:=()
def tw10051929583918007668:=()
def tw13859694867621728183:=()
def tw10473466365020721100:=()
def tw5318401811497727912:=()
def tw7547880765320693723:=()
def tw13407943366934534890:=()
def tw13826853918981995948:=()
def tw1535105318464170931:=()
def tw3927134200260801663:=()
def tw8475806404458050247:=()
def tw4117893232354873484:=()
def tw3024858468297601143:=()
def tw11404856742392631239:=()
def tw18355761189559624910:=()
def tw215598482829886600:=()
def tw14724504987096417211:=()
def tw12714403947821221237:=()
def tw7825226863574602931:=()
def tw15367000089569221375:=()
def tw17441845486267262355:=()
def tw529880683239926638:=()
def tw12662394545275473037:=()
def tw8699443441380532754:=()
def tw8307749847795676735:=()
def tw547287723431227599:=()
def tw8596430497518053644:=()
def tw3675772061515702322:=()
def tw6652907217949033434:=()
def tw15294919475442443469:=()
def tw13820712414436539510:=()
def tw14887757673271833679:=()
def tw16326516465448309488:=()
def tw8375406259759563488:=()
def tw8257207347134238950:=()
def tw13263283774001581175:=()
def tw5378249836034564455:=()
def tw15735492692554282079:=()
def tw60623469951879384:=()
def tw6192313994834368573:=()
def tw2459220108074707386:=()
def tw6805048277997793949:=()
def tw17310643718967904532:=()
def tw11889953132371495160:=()
def tw2198708057738280576:=()
def tw9451289933509493381:=()
def tw6800477498391713163:=()
def tw9891684797512408318:=()
def tw5916220082973405263:=()
def tw4293717533203202165:=()
def tw5800133453480406277:=()
def tw10737784903691844489:=()
def tw10480153189043232799:=()
def tw7417954299328874181:=()
def tw10462925164870833375:=()
def tw17502307975367007784:=()
def tw6591211770682652001:=()
def tw1219598684330567818:=()
def tw14493506822507664124:=()
def tw13436371867307304894:=()
def tw5449749768233774863:=()
def tw11287914471118724791:=()
def tw13398563001825460567:=()
def tw16902750329242058843:=()
def tw8956955943513944558:=()
def tw5049120028367778791:=()
def tw17365137840198411304:=()
def tw3529864676268983051:=()
def tw15575174115201446419:=()
def tw10734350374500012280:=()
def tw10924252064428721624:=()
def tw10210949493392032791:=()
def tw16487250045419540746:=()
def tw15162834364159769247:=()
def tw5852037883767932540:=()
def tw10863580099889788703:=()
def tw11338433975248956220:=()
def tw17785477030400471153:=()
def tw3394445503221239320:=()
def tw9085559536056813963:=()
def tw15402464942301209873:=()
def tw15745284701848481158:=()
def tw9824821273392862844:=()
def tw10252567404665756123:=()
def tw6597629678633589850:=()
def tw10139939123756268183:=()
def tw13267028999911755369:=()
def tw8791882133147186200:=()
def tw361960043963575833:=()
def tw11914667327781434263:=()
def tw14075752052713284848:=()
def tw3937187376988615138:=()
def tw15095098736539537377:=()
def tw11484597874640917033:=()
def tw82820588068970063:=()
def tw1592362743765501867:=()
def tw16726074862711994695:=()
def tw6471083822297791203:=()
def tw17565781210894886137:=()
def tw16146190522552158281:=()
def tw15158947796713063747:=()
def tw10634647724467095105:=()
def tw12587441357244893353:=()
def tw10304982220670424077:=()
def tw17965985571709872510:=()
def tw5823425575968161147:=()
def tw6408286475467662483:=()
def tw8874785463891447905:=()
def tw8208264247396921006:=()
def tw1621958904096922364:=()
end PySem.W.Fast
open PySem PySem.W PyProof.Rows
set_option maxRecDepth 100000 in
set_option maxHeartbeats 0 in
theorem PySem.Challenge.cw_rotafair_k35_whole_faults_in_order_holds : PySem.Challenge.rw_rotafair_k35_whole_faults_in_order.Holds := by
 w_on; o_law; z_head; (case hw => w_witness2)
 k_fill
 refine K35.walkX (fun _ => rfl) ?_
 refine K35.walk (l := PySem.Challenge.rw_rotafair_k35_whole_faults_in_order) rfl rfl (fun w h Y => Y) ?F
 case F =>
  intro w mg fa h KX G hmg
  refine' K35.all_mk KX G hmg ?J8q ?Jaa ?J7Y ?Jao ?J6H ?Jcn ?J6i ?J85 ?a1 ?l1 ?c1 ?k1 ?a2 ?l2 ?c2 ?k2 ?a3 ?l3 ?c3 ?k3 ?a4 ?l4 ?c4 ?k4 ?a5 ?i5 ?l5 ?c5 ?k5 ?a6 ?i6 ?l6 ?c6 ?k6 ?a7 ?i7 ?l7 ?c7 ?k7 ?a8 ?i8 ?l8 ?c8 ?k8 ?a9 ?i9 ?l9 ?c9 ?k9 ?a10 ?i10 ?l10 ?c10 ?k10 ?a11 ?i11 ?l11 ?c11 ?k11 ?a12 ?i12 ?l12 ?c12 ?k12 ?a13 ?i13 ?l13 ?c13 ?k13 ?a14 ?i14 ?l14 ?c14 ?k14 ?a15 ?i15 ?l15 ?c15 ?k15 ?a16 ?i16 ?l16 ?c16 ?k16 ?a17 ?l17 ?c17 ?k17 ?a18 ?l18 ?c18 ?k18 ?a19 ?l19 ?c19 ?k19 ?a20 ?l20 ?c20 ?k20 ?a21 ?l21 ?c21 ?k21 ?a22 ?l22 ?c22 ?k22 ?a23 ?l23 ?c23 ?k23 ?a24 ?l24 ?c24 ?k24 ?a25 ?l25 ?c25 ?k25 ?a26 ?l26 ?c26 ?k26 ?a27 ?i27 ?l27 ?c27 ?k27 ?a28 ?i28 ?l28 ?c28 ?k28 ?a29 ?i29 ?l29 ?c29 ?k29 ?a30 ?l30 ?c30 ?k30 ?a31 ?i31 ?l31 ?c31 ?k31 ?a32 ?l32 ?c32 ?k32 ?a33 ?l33 ?c33 ?k33 ?a34 ?l34 ?c34 ?k34 ?a35 ?l35 ?c35 ?k35 ?a36 ?l36 ?c36 ?k36 ?a37 ?i37 ?l37 ?c37 ?k37 ?a38 ?l38 ?c38 ?k38 ?a39 ?l39 ?c39 ?k39 ?a40 ?l40 ?c40 ?k40 ?a41 ?l41 ?c41 ?k41 ?a42 ?l42 ?c42 ?k42 ?a43 ?l43 ?c43 ?k43 ?a44 ?l44 ?c44 ?k44 ?a45 ?l45 ?c45 ?k45 ?a46 ?l46 ?c46 ?k46 ?a47 ?l47 ?c47 ?k47 ?a48 ?l48 ?c48 ?k48 ?a49 ?l49 ?c49 ?k49 ?a50 ?l50 ?c50 ?k50 ?a51 ?l51 ?c51 ?k51 ?a52 ?l52 ?c52 ?k52 ?a53 ?l53 ?c53 ?k53 ?a54 ?l54 ?c54 ?k54 ?a55 ?l55 ?c55 ?k55 ?a56 ?l56 ?c56 ?k56 ?a57 ?l57 ?c57 ?k57 ?a58 ?l58 ?c58 ?k58 ?a59 ?l59 ?c59 ?k59 ?a60 ?l60 ?c60 ?k60 ?a61 ?l61 ?c61 ?k61 ?J6E ?J6y ?J6A ?J6b ?J6w ?J6B ?J86 ?J8b ?J8l ?J8r ?J89 ?J7Z ?J6c ?J6o ?J69 ?J6G ?J6d ?J6q ?J81 ?J8e ?J7W ?J8o ?J82 ?J83 ?J5q ?J5p ?J5c ?J5o ?J5k ?J5b ?Jau ?Ja2 ?Ja8 ?Jat ?Jav ?J9W ?J5g ?J5n ?J5r ?J5e ?J5f ?J5m ?J6t ?J6f ?J6a ?J6n ?J6r ?J6D ?J26 ?J1F ?J1b ?J0V ?J1G ?J19 ?J0R ?J02 ?J0P ?J1v ?J1j ?J0Q ?J1L ?J18 ?J10 ?J2c ?J1J ?J2b ?J0G ?J28 ?J00 ?J0F ?J1c ?J0X ?J1f ?J7A ?J7x ?J6h ?J0H ?J5P ?J12 ?J05 ?J1Y ?J9n ?J0m ?J98 ?J7y ?J4M ?J4L ?J2o ?J1p ?J1u ?J2l ?J2m
  (case J8q => k_is)
  (case Jaa => k_is)
  (case J7Y => k_is)
  (case Jao => k_is)
  (case J6H => k_is)
  (case Jcn => k_is)
  (case J6i => k_is)
  (case J85 => k_is)
  (case a1 => k_is)
  (case l1 => k_is)
  (case c1 => k_is)
  (case k1 => k_is)
  (case a2 => k_is)
  (case l2 => k_is)
  (case c2 => k_is)
  (case k2 => k_is)
  (case a3 => k_is)
  (case l3 => k_is)
  (case c3 => k_is)
  (case k3 => k_is)
  (case a4 => k_is)
  (case l4 => k_is)
  (case c4 => k_is)
  (case k4 => k_is)
  (case a5 => k_is)
  (case i5 => k_is)
  (case l5 => k_is)
  (case c5 => k_is)
  (case k5 => k_is)
  (case a6 => k_is)
  (case i6 => k_is)
  (case l6 => k_is)
  (case c6 => k_is)
  (case k6 => k_is)
  (case a7 => k_is)
  (case i7 => k_is)
  (case l7 => k_is)
  (case c7 => k_is)
  (case k7 => k_is)
  (case a8 => k_is)
  (case i8 => k_is)
  (case l8 => k_is)
  (case c8 => k_is)
  (case k8 => k_is)
  (case a9 => k_is)
  (case i9 => k_is)
  (case l9 => k_is)
  (case c9 => k_is)
  (case k9 => k_is)
  (case a10 => k_is)
  (case i10 => k_is)
  (case l10 => k_is)
  (case c10 => k_is)
  (case k10 => k_is)
  (case a11 => k_is)
  (case i11 => k_is)
  (case l11 => k_is)
  (case c11 => k_is)
  (case k11 => k_is)
  (case a12 => k_is)
  (case i12 => k_is)
  (case l12 => k_is)
  (case c12 => k_is)
  (case k12 => k_is)
  (case a13 => k_is)
  (case i13 => k_is)
  (case l13 => k_is)
  (case c13 => k_is)
  (case k13 => k_is)
  (case a14 => k_is)
  (case i14 => k_is)
  (case l14 => k_is)
  (case c14 => k_is)
  (case k14 => k_is)
  (case a15 => k_is)
  (case i15 => k_is)
  (case l15 => k_is)
  (case c15 => k_is)
  (case k15 => k_is)
  (case a16 => k_is)
  (case i16 => k_is)
  (case l16 => k_is)
  (case c16 => k_is)
  (case k16 => k_is)
  (case a17 => k_is)
  (case l17 => k_is)
  (case c17 => k_is)
  (case k17 => k_is)
  (case a18 => k_is)
  (case l18 => k_is)
  (case c18 => k_is)
  (case k18 => k_is)
  (case a19 => k_is)
  (case l19 => k_is)
  (case c19 => k_is)
  (case k19 => k_is)
  (case a20 => k_is)
  (case l20 => k_is)
  (case c20 => k_is)
  (case k20 => k_is)
  (case a21 => k_is)
  (case l21 => k_is)
  (case c21 => k_is)
  (case k21 => k_is)
  (case a22 => k_is)
  (case l22 => k_is)
  (case c22 => k_is)
  (case k22 => k_is)
  (case a23 => k_is)
  (case l23 => k_is)
  (case c23 => k_is)
  (case k23 => k_is)
  (case a24 => k_is)
  (case l24 => k_is)
  (case c24 => k_is)
  (case k24 => k_is)
  (case a25 => k_is)
  (case l25 => k_is)
  (case c25 => k_is)
  (case k25 => k_is)
  (case a26 => k_is)
  (case l26 => k_is)
  (case c26 => k_is)
  (case k26 => k_is)
  (case a27 => k_is)
  (case i27 => k_is)
  (case l27 => k_is)
  (case c27 => k_is)
  (case k27 => k_is)
  (case a28 => k_is)
  (case i28 => k_is)
  (case l28 => k_is)
  (case c28 => k_is)
  (case k28 => k_is)
  (case a29 => k_is)
  (case i29 => k_is)
  (case l29 => k_is)
  (case c29 => k_is)
  (case k29 => k_is)
  (case a30 => k_is)
  (case l30 => k_is)
  (case c30 => k_is)
  (case k30 => k_is)
  (case a31 => k_is)
  (case i31 => k_is)
  (case l31 => k_is)
  (case c31 => k_is)
  (case k31 => k_is)
  (case a32 => k_is)
  (case l32 => k_is)
  (case c32 => k_is)
  (case k32 => k_is)
  (case a33 => k_is)
  (case l33 => k_is)
  (case c33 => k_is)
  (case k33 => k_is)
  (case a34 => k_is)
  (case l34 => k_is)
  (case c34 => k_is)
  (case k34 => k_is)
  (case a35 => k_is)
  (case l35 => k_is)
  (case c35 => k_is)
  (case k35 => k_is)
  (case a36 => k_is)
  (case l36 => k_is)
  (case c36 => k_is)
  (case k36 => k_is)
  (case a37 => k_is)
  (case i37 => k_is)
  (case l37 => k_is)
  (case c37 => k_is)
  (case k37 => k_is)
  (case a38 => k_is)
  (case l38 => k_is)
  (case c38 => k_is)
  (case k38 => k_is)
  (case a39 => k_is)
  (case l39 => k_is)
  (case c39 => k_is)
  (case k39 => k_is)
  (case a40 => k_is)
  (case l40 => k_is)
  (case c40 => k_is)
  (case k40 => k_is)
  (case a41 => k_is)
  (case l41 => k_is)
  (case c41 => k_is)
  (case k41 => k_is)
  (case a42 => k_is)
  (case l42 => k_is)
  (case c42 => k_is)
  (case k42 => k_is)
  (case a43 => k_is)
  (case l43 => k_is)
  (case c43 => k_is)
  (case k43 => k_is)
  (case a44 => k_is)
  (case l44 => k_is)
  (case c44 => k_is)
  (case k44 => k_is)
  (case a45 => k_is)
  (case l45 => k_is)
  (case c45 => k_is)
  (case k45 => k_is)
  (case a46 => k_is)
  (case l46 => k_is)
  (case c46 => k_is)
  (case k46 => k_is)
  (case a47 => k_is)
  (case l47 => k_is)
  (case c47 => k_is)
  (case k47 => k_is)
  (case a48 => k_is)
  (case l48 => k_is)
  (case c48 => k_is)
  (case k48 => k_is)
  (case a49 => k_is)
  (case l49 => k_is)
  (case c49 => k_is)
  (case k49 => k_is)
  (case a50 => k_is)
  (case l50 => k_is)
  (case c50 => k_is)
  (case k50 => k_is)
  (case a51 => k_is)
  (case l51 => k_is)
  (case c51 => k_is)
  (case k51 => k_is)
  (case a52 => k_is)
  (case l52 => k_is)
  (case c52 => k_is)
  (case k52 => k_is)
  (case a53 => k_is)
  (case l53 => k_is)
  (case c53 => k_is)
  (case k53 => k_is)
  (case a54 => k_is)
  (case l54 => k_is)
  (case c54 => k_is)
  (case k54 => k_is)
  (case a55 => k_is)
  (case l55 => k_is)
  (case c55 => k_is)
  (case k55 => k_is)
  (case a56 => k_is)
  (case l56 => k_is)
  (case c56 => k_is)
  (case k56 => k_is)
  (case a57 => k_is)
  (case l57 => k_is)
  (case c57 => k_is)
  (case k57 => k_is)
  (case a58 => k_is)
  (case l58 => k_is)
  (case c58 => k_is)
  (case k58 => k_is)
  (case a59 => k_is)
  (case l59 => k_is)
  (case c59 => k_is)
  (case k59 => k_is)
  (case a60 => k_is)
  (case l60 => k_is)
  (case c60 => k_is)
  (case k60 => k_is)
  (case a61 => k_is)
  (case l61 => k_is)
  (case c61 => k_is)
  (case k61 => k_is)
  (case J6E => k_is)
  (case J6y => k_is)
  (case J6A => k_is)
  (case J6b => k_is)
  (case J6w => k_is)
  (case J6B => k_is)
  (case J86 => k_is)
  (case J8b => k_is)
  (case J8l => k_is)
  (case J8r => k_is)
  (case J89 => k_is)
  (case J7Z => k_is)
  (case J6c => k_is)
  (case J6o => k_is)
  (case J69 => k_is)
  (case J6G => k_is)
  (case J6d => k_is)
  (case J6q => k_is)
  (case J81 => k_is)
  (case J8e => k_is)
  (case J7W => k_is)
  (case J8o => k_is)
  (case J82 => k_is)
  (case J83 => k_is)
  (case J5q => k_is)
  (case J5p => k_is)
  (case J5c => k_is)
  (case J5o => k_is)
  (case J5k => k_is)
  (case J5b => k_is)
  (case Jau => k_is)
  (case Ja2 => k_is)
  (case Ja8 => k_is)
  (case Jat => k_is)
  (case Jav => k_is)
  (case J9W => k_is)
  (case J5g => k_is)
  (case J5n => k_is)
  (case J5r => k_is)
  (case J5e => k_is)
  (case J5f => k_is)
  (case J5m => k_is)
  (case J6t => k_is)
  (case J6f => k_is)
  (case J6a => k_is)
  (case J6n => k_is)
  (case J6r => k_is)
  (case J6D => k_is)
  (case J26 => k_is)
  (case J1F => k_is)
  (case J1b => k_is)
  (case J0V => k_is)
  (case J1G => k_is)
  (case J19 => k_is)
  (case J0R => k_is)
  (case J02 => k_is)
  (case J0P => k_is)
  (case J1v => k_is)
  (case J1j => k_is)
  (case J0Q => k_is)
  (case J1L => k_is)
  (case J18 => k_is)
  (case J10 => k_is)
  (case J2c => k_is)
  (case J1J => k_is)
  (case J2b => k_is)
  (case J0G => k_is)
  (case J28 => k_is)
  (case J00 => k_is)
  (case J0F => k_is)
  (case J1c => k_is)
  (case J0X => k_is)
  (case J1f => k_is)
  (case J7A => k_is)
  (case J7x => k_is)
  (case J6h => k_is)
  (case J0H => k_is)
  (case J5P => k_is)
  (case J12 => k_is)
  (case J05 => k_is)
  (case J1Y => k_is)
  (case J9n => k_is)
  (case J0m => k_is)
  (case J98 => k_is)
  (case J7y => k_is)
  (case J4M => k_is)
  (case J4L => k_is)
  (case J2o => k_is)
  (case J1p => k_is)
  (case J1u => k_is)
  (case J2l => k_is)
  (case J2m => k_is)
#print axioms PySem.Challenge.cw_rotafair_k35_whole_faults_in_order_holds
