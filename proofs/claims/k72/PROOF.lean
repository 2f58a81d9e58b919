import PyProof.Rows.All
import Wide.All
import OpenK.AllK
import Wide.FinOn
import Lean
import PyProof.EqAt
import PyProof.EqKinds
import PyProof.TupleCall
import KE.KIntText
import PyProof.ListRange
import PySem.Challenge.RW_rotafair_k72_what_rests
set_option Elab.async false
set_option linter.all false
set_option maxRecDepth 100000
namespace L2
open PySem PySem.Spec PyProof.Rows
noncomputable abbrev Key := Sum Int Str
noncomputable def J7X : Key → Value → Bool
 | .inl k,v => Value.isInt k v
 | .inr x,v => Value.isStrOf x v
noncomputable def keyH (w : World) : Key → Int
 | .inl k => hashInt k
 | .inr x => hashStr w x
theorem J0O : ∀ {k : Key} {v : Value},J7X k v = true → (∃ i t,k = Sum.inl i ∧ v = Value.int i t) ∨ (∃ x t,k = Sum.inr x ∧ v = Value.str x t)
 | .inl i,v,h => by
  obtain ⟨t,e⟩ := Value.isInt_shape (k := i) (v := v) h
  exact .inl ⟨i,t,rfl,e⟩
 | .inr x,v,h => by
  obtain ⟨t,e⟩ := Value.isStrOf_shape (x := x) (v := v) h
  exact .inr ⟨x,t,rfl,e⟩
theorem Jcu (i : Int) (t : Tok) : J7X (.inl i) (.int i t) = true := by simp [J7X,Value.isInt]
theorem Jcf (x : Str) (t : Tok) : J7X (.inr x) (.str x t) = true := by simp [J7X,Value.isStrOf]
theorem JfI (a b : Int) : decide ((Sum.inl a : Key) = Sum.inl b) = (a == b) := by
 by_cases e : a = b
 ·subst e; simp
 ·have h : ¬ (Sum.inl a : Key) = Sum.inl b := fun q => e (Sum.inl.inj q)
  rw [decide_eq_false h]
  exact (beq_eq_false_iff_ne.mpr e).symm
theorem JfT (a b : Str) : decide ((Sum.inr a : Key) = Sum.inr b) = decide (a = b) := by
 by_cases e : a = b
 ·subst e; simp
 ·have h : ¬ (Sum.inr a : Key) = Sum.inr b := fun q => e (Sum.inr.inj q)
  rw [decide_eq_false h,decide_eq_false e]
theorem Jfz (a : Int) (b : Str) : decide ((Sum.inl a : Key) = Sum.inr b) = false := decide_eq_false (fun q => nomatch q)
theorem JfZ (a : Str) (b : Int) : decide ((Sum.inr a : Key) = Sum.inl b) = false := decide_eq_false (fun q => nomatch q)
noncomputable def J1L (prog : Program) (w : World) : PySem.KeyKind prog w Key where
 is := J7X
 hash := keyH w
 inj := fun v a b ha hb => by
  rcases J0O ha with ⟨i,t,rfl,rfl⟩ | ⟨x,t,rfl,rfl⟩
  ·rcases J0O hb with ⟨j,u,rfl,e⟩ | ⟨y,u,rfl,e⟩
   ·injection e with e1 _; rw [e1]
   ·exact nomatch e
  ·rcases J0O hb with ⟨j,u,rfl,e⟩ | ⟨y,u,rfl,e⟩
   ·exact nomatch e
   ·injection e with e1 _; rw [e1]
 byValue := fun k v h => by
  rcases J0O h with ⟨i,t,rfl,rfl⟩ | ⟨x,t,rfl,rfl⟩ <;> rfl
 pyHash := fun hv h => by
  rcases J0O hv with ⟨i,t,rfl,rfl⟩ | ⟨x,t,rfl,rfl⟩
  ·exact wpAny_pyHash_int h
  ·exact wpAny_pyHash_str h
 eqBool := fun hu hv h => by
  rcases J0O hu with ⟨i,t,rfl,rfl⟩ | ⟨x,t,rfl,rfl⟩
  ·rcases J0O hv with ⟨j,u,rfl,rfl⟩ | ⟨y,u,rfl,rfl⟩
   ·rw [JfI] at h; exact wpAny_eqBool_int h
   ·rw [Jfz] at h; exact SeqAt.EqAt.int_str i t y u _ _ _ _ h
  ·rcases J0O hv with ⟨j,u,rfl,rfl⟩ | ⟨y,u,rfl,rfl⟩
   ·rw [JfZ] at h; exact SeqAt.EqAt.str_int x t j u _ _ _ _ h
   ·rw [JfT] at h; exact wpAny_eqBool_str h
 «strs» := fun k x t v h => by
  rcases J0O h with ⟨i,u,rfl,e⟩ | ⟨y,u,rfl,e⟩
  ·exact nomatch e
  ·injection e with e1 _
   subst e1
   cases v <;> rfl
theorem Ja4 (prog : Program) (w : World) (i : Int) (t : Tok) : (J1L prog w).is (.inl i) (.int i t) = true := Jcu i t
theorem Jaj (prog : Program) (w : World) (x : Str) (t : Tok) : (J1L prog w).is (.inr x) (.str x t) = true := Jcf x t
end L2
namespace L2
open PySem PySem.Spec PyProof.Rows
inductive V where
 | non | bl (b : Bool) | int (i : Int) | str (x : Str) | byt (b : Array UInt8) | flt (b : UInt64) | ref (a : Addr) | ty (n : String)
 deriving DecidableEq
noncomputable def RelV : V → Value → Prop
 | .non,u => u = Value.none
 | .bl b,u => u = Value.bool b
 | .int i,u => ∃ t,u = Value.int i t
 | .str x,u => ∃ t,u = Value.str x t
 | .byt b,u => ∃ t,u = Value.bytes b t
 | .flt b,u => ∃ t,u = Value.float b t
 | .ref a,u => u = Value.ref a
 | .ty n,u => u = Value.type n
noncomputable abbrev Vals : List V → List Value → Prop := Paired RelV
theorem Vals.length {xs : List V} {us : List Value} (r : Vals xs us) : xs.length = us.length := Paired.length r
theorem Vals.get : ∀ {xs : List V} {us : List Value} {i : Nat} {x : V},Vals xs us → xs[i]? = some x → ∃ u,us[i]? = some u ∧ RelV x u
 | _,_,_,_,.nil,e => by simp at e
 | _,_,0,_,.cons r _,e => by simp at e; subst e; exact ⟨_,rfl,r⟩
 | _,_,i + 1,x,.cons _ t,e => by
  obtain ⟨u,h1,h2⟩ := Vals.get (i := i) (x := x) t (by simpa using e)
  exact ⟨u,by simpa using h1,h2⟩
theorem Vals.append : ∀ {xs ys : List V} {us ws : List Value},Vals xs us → Vals ys ws → Vals (xs ++ ys) (us ++ ws)
 | _,_,_,_,.nil,s => s
 | _,_,_,_,.cons r t,s => .cons r (Vals.append t s)
theorem Vals.take : ∀ {xs : List V} {us : List Value} (n : Nat),Vals xs us → Vals (xs.take n) (us.take n)
 | _,_,0,_ => .nil
 | _,_,_ + 1,.nil => .nil
 | _,_,n + 1,.cons r t => .cons r (Vals.take n t)
theorem Vals.drop : ∀ {xs : List V} {us : List Value} (n : Nat),Vals xs us → Vals (xs.drop n) (us.drop n)
 | _,_,0,r => r
 | _,_,_ + 1,.nil => .nil
 | _,_,n + 1,.cons _ t => Vals.drop n t
noncomputable def RelO : Option V → Option Value → Prop
 | some v,some u => RelV v u
 | none,none => True
 | _,_ => False
noncomputable def KV {κ : Type} : List (κ × V) → List (κ × Value) → Prop := Paired fun (p : κ × V) (q : κ × Value) => p.1 = q.1 ∧ RelV p.2 q.2
noncomputable def kV : Key → V
 | .inl i => .int i
 | .inr x => .str x
inductive HO where
 | lst (xs : List V)
 | tup (xs : List V)
 | dK (kvs : List (Key × V)) | dT (kvs : List (List Key × V))
 | set (S : Int → Bool) (n : Nat)
 | ins (C dx : Addr) (fs : List (Str × V))
 | own (x : Addr)
 | xd (fs : List (Str × V))
 | met (f x : Addr)
 | rng (lo hi : Int)
 | frz (o : Obj) (u : HO)
 | tbl (ps : Array Value)
 | ext (φ : Heap → Prop)
noncomputable abbrev Hp := Addr → Option HO
noncomputable def upd (H : Hp) (a : Addr) (o : HO) : Hp := fun b => if b = a then some o else H b
theorem J9 {H : Hp} {a : Addr} {o : HO} : upd H a o a = some o := by unfold upd; rw [if_pos rfl]
theorem Ji {H : Hp} {a b : Addr} {o : HO} (h : b ≠ a) : upd H a o b = H b := by unfold upd; rw [if_neg h]
theorem JeY {H : Hp} {a b : Addr} {o u : HO} (h : H a = some o) (h' : H b = some u) (d : o ≠ u) : a ≠ b := by
 intro e; subst e; rw [h] at h'; exact d (Option.some.inj h')
theorem Je {H : Hp} {a b : Addr} {o : HO} (h : H a = some o) (h' : H b = none) : a ≠ b := by
 intro e; subst e; rw [h] at h'; cases h'
section
variable (P : Program) (w : World)
noncomputable def J0Z (H : Hp) (h : Heap) (a : Addr) : HO → Prop
 | .lst xs => xs.length ≤ sizeLine ∧ ∃ (its : List Value) (n : Nat),Vals xs its ∧ h.get? a = some { cls := .type "list",data := .seq its.toArray n }
 | .tup xs => xs.length ≤ sizeLine ∧ ∃ its : List Value,Vals xs its ∧ IsTup h a its.toArray
 | .dK kvs => kvs.length ≤ sizeLine ∧ (a == sysModules) = false ∧ ∃ vs,KV kvs vs ∧ h.DictOf (J1L P w) a vs
 | .dT kvs => kvs.length ≤ sizeLine ∧ (a == sysModules) = false ∧ ∃ xs : List (List Key × Addr × Value),
   Paired (fun (p : List Key × V) (q : List Key × Addr × Value) => p.1 = q.1 ∧ H q.2.1 = some (.tup (p.1.map kV)) ∧ RelV p.2 q.2.2) kvs xs ∧
   ∃ o es ep,h.get? a = some o ∧ o.ExactDict ∧ o.data = .dict es ep ∧ es.toList = xs.map (entryOfKey (tupleKind (J1L P w))) ∧ (xs.map (·.1)).Nodup
 | .set S n => h.SetOf (intKind P w) a S n
 | .ins C dx fs => H dx = some (.own a) ∧ fs.length ≤ 1000 ∧ dx ≠ a ∧ h.get? a = some (PySem.W.instObj C dx) ∧
   ∃ mA,h.Ns1 dx mA ∧ (∀ f,RelO (fs.lookup f) (mA f)) ∧ PySem.Within mA (fs.map (·.1))
 | .own _ => ∃ o,h.get? a = some o
 | .xd fs => ∃ mA,h.Ns1 a mA ∧ ∀ f,RelO (fs.lookup f) (mA f)
 | .rng lo hi => ∃ t u v,h.get? a = some { cls := .type "range",data := .fields #[.int lo t,.int hi u,.int 1 v] }
 | .frz o u => h.get? a = some o ∧ J0Z H h a u
 | .tbl ps => h.get? a = some { cls := .none,data := .fields ps }
 | .met f x => h.get? a = some (PySem.W.methodObj (.ref f) (.ref x))
 | .ext φ => φ h ∧ (∃ o,h.get? a = some o) ∧ ∀ h1 h2 : Heap,φ h1 → (∀ o,h1.get? a = some o → h2.get? a = some o) → φ h2
noncomputable def HOk (H : Hp) (h : Heap) : Prop := ∀ a o,H a = some o → J0Z P w H h a o
end
section
variable {P : Program} {w : World} {H H' : Hp} {h h' : Heap} {a : Addr} {o : HO}
theorem J0Z.lt (x : J0Z P w H h a o) : a < h.objs.size := by
 cases o with
 | lst xs => obtain ⟨_,_,_,_,e⟩ := x; exact Heap.lt_size e
 | tup xs => obtain ⟨_,_,_,p⟩ := x; exact p.lt
 | dK kvs => obtain ⟨_,_,_,_,o,_,_,e,_⟩ := x; exact Heap.lt_size e
 | dT kvs => obtain ⟨_,_,_,_,o,_,_,e,_⟩ := x; exact Heap.lt_size e
 | set S n => obtain ⟨o,_,_,_,e,_⟩ := x; exact Heap.lt_size e
 | ins C dx fs => obtain ⟨_,_,_,e,_⟩ := x; exact Heap.lt_size e
 | own y => obtain ⟨_,e⟩ := x; exact Heap.lt_size e
 | xd fs => obtain ⟨_,⟨_,_,_,e,_⟩,_⟩ := x; exact Heap.lt_size e
 | rng lo hi => obtain ⟨_,_,_,e⟩ := x; exact Heap.lt_size e
 | frz ob u => obtain ⟨e,_⟩ := x; exact Heap.lt_size e
 | tbl ps => exact Heap.lt_size (show h.get? a = some _ from x)
 | met f y => exact Heap.lt_size (show h.get? a = some _ from x)
 | ext φ => obtain ⟨_,⟨_,e⟩,_⟩ := x; exact Heap.lt_size e
theorem Paired.mapP {α β : Type} {F G : α → β → Prop} : ∀ {l₁ : List α} {l₂ : List β},Paired F l₁ l₂ → (∀ a b,F a b → G a b) → Paired G l₁ l₂
 | _,_,.nil,_ => .nil
 | _,_,.cons r t,f => .cons (f _ _ r) (Paired.mapP t f)
theorem J0Z.stay (x : J0Z P w H h a o) (k : ∀ b u,(b = a ∨ H b = some (.own a)) → h.get? b = some u → h'.get? b = some u)
  (ho : ∀ b,H b = some (.own a) → H' b = some (.own a)) (ht : ∀ b xs,H b = some (.tup xs) → H' b = some (.tup xs)) : J0Z P w H' h' a o := by
 induction o with
 | lst xs => obtain ⟨z,its,n,r,e⟩ := x; exact ⟨z,its,n,r,k _ _ (.inl rfl) e⟩
 | tup xs => obtain ⟨z,its,r,ob,e,c⟩ := x; exact ⟨z,its,r,ob,k _ _ (.inl rfl) e,c⟩
 | dK kvs => obtain ⟨z,y,vs,r,ob,es,ep,e,c⟩ := x; exact ⟨z,y,vs,r,ob,es,ep,k _ _ (.inl rfl) e,c⟩
 | dT kvs =>
  obtain ⟨z,y,xs,r,ob,es,ep,e,c⟩ := x
  exact ⟨z,y,xs,Paired.mapP r fun p q z => ⟨z.1,ht _ _ z.2.1,z.2.2⟩,ob,es,ep,k _ _ (.inl rfl) e,c⟩
 | set S n => obtain ⟨ob,es,ep,t,e,c⟩ := x; exact ⟨ob,es,ep,t,k _ _ (.inl rfl) e,c⟩
 | ins C dx fs =>
  obtain ⟨d,z,ne,e,mA,⟨od,es,ep,e2,c⟩,r⟩ := x
  exact ⟨ho _ d,z,ne,k _ _ (.inl rfl) e,mA,⟨od,es,ep,k _ _ (.inr d) e2,c⟩,r⟩
 | own y => obtain ⟨ob,e⟩ := x; exact ⟨ob,k _ _ (.inl rfl) e⟩
 | xd fs => obtain ⟨mA,⟨od,es,ep,e,c⟩,r⟩ := x; exact ⟨mA,⟨od,es,ep,k _ _ (.inl rfl) e,c⟩,r⟩
 | rng lo hi => obtain ⟨t,u,v,e⟩ := x; exact ⟨t,u,v,k _ _ (.inl rfl) e⟩
 | frz ob u ih => obtain ⟨e,q⟩ := x; exact ⟨k _ _ (.inl rfl) e,ih q⟩
 | tbl ps =>
  have e : h.get? a = some { cls := .none,data := .fields ps } := x
  show h'.get? a = some { cls := .none,data := .fields ps }
  exact k a _ (.inl rfl) e
 | met f y =>
  have e : h.get? a = some (PySem.W.methodObj (.ref f) (.ref y)) := x
  show h'.get? a = some (PySem.W.methodObj (.ref f) (.ref y))
  exact k a _ (.inl rfl) e
 | ext φ => obtain ⟨p,⟨o,e⟩,st⟩ := x; exact ⟨st _ _ p fun o q => k _ _ (.inl rfl) q,⟨o,k _ _ (.inl rfl) e⟩,st⟩
theorem HOk.lt (x : HOk P w H h) (e : H a = some o) : a < h.objs.size := (x a o e).lt
theorem HOk.fresh (x : HOk P w H h) (e : h.objs.size ≤ a) : H a = none := by
 cases q : H a with
 | none => rfl
 | some u => exact absurd (Nat.lt_of_lt_of_le (x.lt q) e) (Nat.lt_irrefl _)
theorem HOk.kept (x : HOk P w H h) (k : ∀ b u,h.get? b = some u → h'.get? b = some u) : HOk P w H h' := fun a o e =>
 (x a o e).stay (fun b u _ q => k b u q) (fun _ q => q) fun _ _ q => q
theorem HOk.laid (x : HOk P w H h) (k : ∀ b u,h.get? b = some u → h'.get? b = some u) (hp : h.objs.size ≤ a) (new : J0Z P w (upd H a o) h' a o) : HOk P w (upd H a o) h' := fun b u e => by
 have hn := x.fresh hp
 by_cases hb : b = a
 ·subst hb; rw [J9] at e; cases e; exact new
 ·rw [Ji hb] at e
  exact (x b u e).stay (fun c v _ q => k c v q) (fun c q => by rw [Ji (Je q hn)]; exact q) fun c xs q => by rw [Ji (Je q hn)]; exact q
end
noncomputable def Rd (H : Hp) (a : Addr) (u : HO) : Prop := H a = some u ∨ ∃ o,H a = some (.frz o u)
theorem Rd.ok {P : Program} {w : World} {H : Hp} {h : Heap} {a : Addr} {u : HO} (r : Rd H a u) (x : HOk P w H h) : J0Z P w H h a u := by
 rcases r with r | ⟨o,r⟩
 ·exact x a u r
 ·obtain ⟨_,q⟩ := x a _ r
  exact q
noncomputable def Mut : Option HO → Prop
 | some (.lst _) => True
 | some (.dK _) => True
 | some (.dT _) => True
 | some (.set _ _) => True
 | some (.ins _ _ _) => True
 | some (.ext _) => True
 | _ => False
section
variable {P : Program} {w : World} {H : Hp} {h h' : Heap} {x e : Addr} {o' : HO}
theorem HOk.write (ok : HOk P w H h) (mu : Mut (H x)) (he : e = x ∨ H e = some (.own x)) (k : ∀ b u,b ≠ e → h.get? b = some u → h'.get? b = some u) (heo : ∃ u,h'.get? e = some u)
  (new : J0Z P w (upd H x o') h' x o') : HOk P w (upd H x o') h' := fun b u q => by
 have nown : ∀ c y,H c = some (.own y) → c ≠ x := fun c y r z => by subst z; rw [r] at mu; exact mu
 have ntup : ∀ c xs,H c = some (.tup xs) → c ≠ x := fun c xs r z => by subst z; rw [r] at mu; exact mu
 by_cases hb : b = x
 ·subst hb; rw [J9] at q; cases q; exact new
 ·rw [Ji hb] at q
  by_cases hbe : b = e
  ·have q' : H b = some (.own x) := by
    rcases he with z | z
    ·exact absurd (hbe.trans z) hb
    ·rw [hbe]; exact z
   rw [q] at q'; cases q'
   obtain ⟨v,hv⟩ := heo
   exact ⟨v,by rw [hbe]; exact hv⟩
  ·refine (ok b u q).stay (fun c v hc r => k c v ?_ r) (fun c r => by rw [Ji (nown c b r)]; exact r) fun c xs r => by rw [Ji (ntup c xs r)]; exact r
   rcases hc with rfl | hc
   ·exact hbe
   ·rintro rfl
    rcases he with z | z
    ·exact nown c b hc z
    ·rw [hc] at z; cases z; exact hb rfl
end
structure Un (fs ex : List Addr) (H H' : Hp) (h h' : Heap) : Prop where
 keep : ∀ b o,h.get? b = some o → H b = none → b ∉ fs → b ∉ ex → h'.get? b = some o
 slot : ∀ b o,h.get? b = some o → H b = none → b ∈ fs → b ∉ ex → ∃ sl,h'.get? b = some { o with slots := sl }
 free : ∀ b o,h.get? b = some o → H b = none → b ∉ ex → H' b = none
 there : ∀ b o,h.get? b = some o → b ∉ ex → ∃ o',h'.get? b = some o'
 tups : ∀ b xs,H b = some (.tup xs) → H' b = some (.tup xs)
 frzs : ∀ b o u,H b = some (.frz o u) → H' b = some (.frz o u)
 tbls : ∀ b ps,H b = some (.tbl ps) → ∃ more,H' b = some (.tbl (ps ++ more))
section
variable {fs fs' ex ex' : List Addr} {H H1 H2 : Hp} {h h1 h2 h' : Heap} {a x e : Addr} {o : HO}
theorem Un.any (u : Un fs ex H H1 h h1) {b : Addr} {ob : Obj} (q : h.get? b = some ob) (n : H b = none) (hx : b ∉ ex) : ∃ sl,h1.get? b = some { ob with slots := sl } := by
 by_cases hb : b ∈ fs
 ·exact u.slot b ob q n hb hx
 ·exact ⟨ob.slots,u.keep b ob q n hb hx⟩
theorem Un.kept (k : ∀ b u,h.get? b = some u → h'.get? b = some u) : Un fs ex H H h h' :=
 ⟨fun b ob q _ _ _ => k b ob q,fun b ob q _ _ _ => ⟨ob.slots,k b ob q⟩,fun _ _ _ n _ => n,fun b ob q _ => ⟨ob,k b ob q⟩,fun _ _ q => q,fun _ _ _ q => q,fun _ ps q => ⟨#[],by rw [q]; simp⟩⟩
theorem Un.refl : Un fs ex H H h h := Un.kept fun _ _ q => q
theorem Un.laid (k : ∀ b u,h.get? b = some u → h'.get? b = some u) (hp : h.objs.size ≤ a) (hn : H a = none) : Un fs ex H (upd H a o) h h' where
 keep := fun b u q _ _ _ => k b u q
 slot := fun b u q _ _ _ => ⟨u.slots,k b u q⟩
 free := fun b u q n _ => by rw [Ji (Nat.ne_of_lt (Nat.lt_of_lt_of_le (Heap.lt_size q) hp))]; exact n
 there := fun b u q _ => ⟨u,k b u q⟩
 tups := fun b xs q => by rw [Ji (Je q hn)]; exact q
 frzs := fun b u xs q => by rw [Ji (Je q hn)]; exact q
 tbls := fun b ps q => ⟨#[],by rw [Ji (Je q hn),q]; simp⟩
theorem Un.write (mu : Mut (H x)) (he : e = x ∨ H e = some (.own x)) (k : ∀ b u,b ≠ e → h.get? b = some u → h'.get? b = some u) (heo : ∃ u,h'.get? e = some u) : Un fs ex H (upd H x o) h h' := by
 have hx : ∀ b,H b = none → b ≠ x := fun b n z => by subst z; rw [n] at mu; exact mu
 have hb : ∀ b,H b = none → b ≠ e := fun b n z => by
  subst z
  rcases he with r | r
  ·exact hx b n r
  ·rw [n] at r; cases r
 have hm : ∀ b u,H b = some u → ¬ Mut (some u) → b ≠ x := fun b u q nm z => by subst z; rw [q] at mu; exact nm mu
 refine ⟨fun b u q n _ _ => k b u (hb b n) q,fun b u q n _ _ => ⟨u.slots,k b u (hb b n) q⟩,fun b u q n _ => by rw [Ji (hx b n)]; exact n,fun b u q _ => ?_,
  fun b xs q => by rw [Ji (hm b _ q fun z => z)]; exact q,fun b u xs q => by rw [Ji (hm b _ q fun z => z)]; exact q,fun b ps q => ⟨#[],by rw [Ji (hm b _ q fun z => z),q]; simp⟩⟩
 by_cases hbe : b = e
 ·subst hbe; exact heo
 ·exact ⟨u,k b u hbe q⟩
end
noncomputable def trk (h : Heap) (H : Hp) : List Addr := (List.range h.objs.size).filter fun a => (H a).isSome
noncomputable def hidT (h : Heap) (H : Hp) : Heap := PySem.W.hideAll h (trk h H)
theorem Jca (h : Heap) (H : Hp) : (hidT h H).objs.size = h.objs.size := PySem.W.hideAll_size _ _
theorem JcZ {h : Heap} {H : Hp} {b : Addr} {o : Obj} (e : h.get? b = some o) (n : H b = none) : (hidT h H).get? b = some o :=
 PySem.W.hideAll_get _ e fun hm => by
  have q : (H b).isSome = true := (List.mem_filter.mp hm).2
  rw [n] at q; simp at q
theorem JeF {h : Heap} {H : Hp} {b : Addr} {o : Obj} (e : (hidT h H).get? b = some o) : h.get? b = some o ∧ H b = none := by
 have e' : h.get? b = some o := PySem.W.of_hideAll (trk h H) e
 refine ⟨e',?_⟩
 cases q : H b with
 | none => rfl
 | some x =>
  have hm : b ∈ trk h H := List.mem_filter.mpr ⟨List.mem_range.mpr (Heap.lt_size e'),by simp [q]⟩
  have z : (hidT h H).get? b = none := PySem.W.hideAll_none (trk h H) hm
  rw [z] at e; cases e
end L2
namespace L2
open PySem PySem.Spec PyProof.Rows
structure Mod (K : PySem.W.Frag) (mg : Str → Option Value) (base : Heap) : Prop where
 kin : K.In base
 glob : base.Ns mainGlobals mg
 blt : ∃ mb,base.Ns builtinsNs mb ∧ ∀ x : Str,x ≠ "__name__" → mb x = bootBuiltins x
 nolimit : base.NoLimit
structure Cx where
 prog : Program
 w : World
 K : PySem.W.Frag
 mg : Str → Option Value
 base : Heap
 A : Around
 N : List Str
 s₀ : Shared
 H₀ : Hp
 env : Env
 outer : List Env
 stack : List Env
 ex : List Addr
 fn : Str → Bool
 calm : Bool
 pn : List (Addr × Obj)
 xe : Value → Shared → Prop
noncomputable def frs (l : List Env) : List Addr := l.filterMap (·.frame)
noncomputable abbrev Cx.fs (X : Cx) : List Addr := frs X.outer
noncomputable def Vis (sc : Scope) (x : Str) : Prop := sc.names.lookup x = some .local ∨ sc.names.lookup x = some .cell ∨ sc.names.lookup x = some .free
noncomputable def Loc (sc : Scope) (x : Str) : Prop := sc.names.lookup x = some .local ∨ sc.names.lookup x = some .cell
noncomputable def Look (env : Env) (h : Heap) (m : Str → Option Value) (x : Str) (u : Value) : Prop :=
 (env.kindOf x = some .local ∧ m x = some u) ∨ ((env.kindOf x = some .cell ∨ env.kindOf x = some .free) ∧ ∃ c,env.cells.lookup x = some c ∧ h.IsCell c (some u))
structure Cx.Ok (X : Cx) : Prop where
 mod : Mod X.K X.mg X.base
 kind : X.env.scope.kind = .function
 glob : X.env.globals = mainGlobals
 blt : X.env.builtins = builtinsNs
 above : X.s₀.heap.objs.size ≤ X.env.locals
 inj : ∀ x y c,X.env.cells.lookup x = some c → X.env.cells.lookup y = some c → x = y
 has : ∀ x,(X.env.kindOf x = some .cell ∨ X.env.kindOf x = some .free) → ∃ c,X.env.cells.lookup x = some c
 cab : ∀ x c,X.fn x = true → X.env.cells.lookup x = some c → X.s₀.heap.objs.size ≤ c
 hd : X.calm = true → X.A.handled = none
 frames : X.A.frames = some X.stack
 stk : X.stack = X.outer ∨ (X.stack = X.env :: X.outer ∧ X.env.frame = some X.env.locals)
 exf : ∀ b ∈ X.ex,b ≠ X.env.locals ∧ ∀ x c,X.env.cells.lookup x = some c → c ≠ b
 bs : ∀ b o,X.base.get? b = some o → X.s₀.heap.get? b = some o ∧ X.H₀ b = none
 bsz : X.base.objs.size ≤ X.s₀.heap.objs.size
 noex : ∀ b o,X.base.get? b = some o → b ∉ X.ex
 exfs : ∀ b ∈ X.ex,b ∉ X.fs
 funs : X.s₀.heap.FunFrames X.base X.outer
 frf : ∀ b ∈ X.fs,X.H₀ b = none
structure Inv (X : Cx) (pins : List (Addr × Obj)) (σ : List (Option V)) (H : Hp) (s : Shared) : Prop where
 ok : X.Ok
 os : s.os = X.s₀.os
 bare : AllBare s.gens
 base : Un X.fs X.ex X.H₀ H X.s₀.heap s.heap
 loc : ∃ m,s.heap.Ns X.env.locals m ∧ ∀ (i : Nat) (x : Str) (v : V),X.N[i]? = some x → σ[i]? = some (some v) → Vis X.env.scope x → ∃ u,RelV v u ∧ Look X.env s.heap m x u
 cell : ∀ x c,X.env.cells.lookup x = some c → ∃ v,s.heap.IsCell c v
 free : H X.env.locals = none
 freeC : ∀ x c,X.env.cells.lookup x = some c → H c = none
 pin : ∀ p ∈ X.pn ++ pins,s.heap.get? p.1 = some p.2 ∧ H p.1 = none ∧ p.1 ≠ X.env.locals ∧ p.1 ∉ X.fs ∧ ∀ v,p.2.data ≠ .cell v
 hok : HOk X.prog X.w H s.heap
 len : σ.length = X.N.length
section
variable {X : Cx} {pins : List (Addr × Obj)} {σ : List (Option V)} {H H' : Hp} {s : Shared} {h' : Heap}
theorem Cx.Ok.nofr (ok : X.Ok) {b : Addr} {o : Obj} (e : X.base.get? b = some o) : b ∉ X.fs := fun hb => by
 have := (ok.funs.mem hb).1
 rw [e] at this; cases this
theorem Inv.bs (I : Inv X pins σ H s) : ∀ b o,X.base.get? b = some o → s.heap.get? b = some o ∧ H b = none := fun b o e =>
 ⟨I.base.keep b o (I.ok.bs b o e).1 (I.ok.bs b o e).2 (I.ok.nofr e) (I.ok.noex b o e),I.base.free b o (I.ok.bs b o e).1 (I.ok.bs b o e).2 (I.ok.noex b o e)⟩
theorem Inv.bk (I : Inv X pins σ H s) : ∀ b o,X.base.get? b = some o → s.heap.get? b = some o := fun b o e => (I.bs b o e).1
theorem Inv.mod (I : Inv X pins σ H s) : Mod X.K X.mg X.base := I.ok.mod
theorem Inv.kIn (I : Inv X pins σ H s) : X.K.In s.heap := I.ok.mod.kin.keeps I.bk
theorem Inv.lt (I : Inv X pins σ H s) : X.env.locals < s.heap.objs.size := let ⟨_,hn,_⟩ := I.loc; hn.lt
theorem Inv.sz (I : Inv X pins σ H s) : X.s₀.heap.objs.size ≤ s.heap.objs.size := Nat.le_trans I.ok.above (Nat.le_of_lt I.lt)
theorem Inv.nofs (I : Inv X pins σ H s) {a : Addr} (h : s.heap.objs.size ≤ a) : a ∉ X.fs := fun hb => by
 obtain ⟨_,o,ho,_⟩ := I.ok.funs.mem hb
 exact absurd (Nat.lt_of_lt_of_le (Heap.lt_size ho) (Nat.le_trans I.sz h)) (Nat.lt_irrefl _)
theorem Inv.cne (I : Inv X pins σ H s) : ∀ x c,X.env.cells.lookup x = some c → c ≠ X.env.locals := fun x c e z => by
 obtain ⟨v,o,ho,hd⟩ := I.cell x c e
 obtain ⟨m,⟨o',es,ep,ho',hd',_⟩,_⟩ := I.loc
 rw [z,ho'] at ho; cases ho; rw [hd'] at hd; cases hd
theorem Inv.funs (I : Inv X pins σ H s) : s.heap.FunFrames X.base X.outer := by
 have all : ∀ (l : List Env),(∀ b ∈ frs l,b ∈ X.fs) → X.s₀.heap.FunFrames X.base l → s.heap.FunFrames X.base l := by
  intro l
  induction l with
  | nil => intro _ _; trivial
  | cons env r ih =>
   intro hs hl
   obtain ⟨hk,⟨L,o,hf,hn,ho,hd⟩,hr⟩ := hl
   have hL : L ∈ X.fs := hs L (by unfold frs; rw [List.filterMap_cons,hf]; exact List.mem_cons_self)
   obtain ⟨sl,e⟩ := I.base.slot L o ho (I.ok.frf L hL) hL fun z => I.ok.exfs L z hL
   exact ⟨hk,⟨L,_,hf,hn,e,hd⟩,ih (fun b hb => hs b (by unfold frs; rw [List.filterMap_cons,hf]; exact List.mem_cons_of_mem _ hb)) hr⟩
 exact all X.outer (fun _ hb => hb) I.ok.funs
theorem Inv.stack (I : Inv X pins σ H s) : s.heap.FunFrames X.base X.stack := by
 rcases I.ok.stk with e | ⟨e,hf⟩
 ·rw [e]; exact I.funs
 ·rw [e]
  obtain ⟨m,hn,_⟩ := I.loc
  refine .cons (by rw [I.ok.kind]; decide) hf hn ?_ I.funs
  exact Heap.get?_none_of_le (Nat.le_trans I.ok.bsz I.ok.above)
theorem Inv.stkSub (I : Inv X pins σ H s) : ∀ b ∈ frs X.stack,b ∈ X.env.locals :: X.fs := fun b hb => by
 rcases I.ok.stk with e | ⟨e,hf⟩
 ·rw [e] at hb; exact List.mem_cons_of_mem _ hb
 ·rw [e] at hb
  unfold frs at hb
  rw [List.filterMap_cons,hf] at hb
  exact hb
theorem Inv.stkFree (I : Inv X pins σ H s) : ∀ b ∈ frs X.stack,H b = none := fun b hb => by
 rcases List.mem_cons.mp (I.stkSub b hb) with e | hb
 ·rw [e]; exact I.free
 ·obtain ⟨_,o,ho,_⟩ := I.ok.funs.mem hb
  exact I.base.free b o ho (I.ok.frf b hb) fun z => I.ok.exfs b z hb
theorem Inv.step {g' : Array GenState} {t' : Nat} {d' : Drawn} {ch : List Addr} (I : Inv X pins σ H s)
  (hch : ∀ b ∈ ch,(b ∈ X.ex ∨ X.s₀.heap.objs.size ≤ b) ∧ b ≠ X.env.locals ∧ (∀ x c,X.env.cells.lookup x = some c → c ≠ b) ∧ ∀ p ∈ X.pn ++ pins,p.1 ≠ b)
  (keep : ∀ b o,b ≠ X.env.locals → b ∉ X.fs → b ∉ ch → s.heap.get? b = some o → H b = none → h'.get? b = some o)
  (slot : ∀ b o,b ≠ X.env.locals → b ∈ X.fs → b ∉ ch → s.heap.get? b = some o → H b = none → ∃ sl,h'.get? b = some { o with slots := sl }) (free : ∀ b o,b ∉ ch → s.heap.get? b = some o → H b = none → H' b = none)
  (there : ∀ b o,b ∉ ch → s.heap.get? b = some o → ∃ o',h'.get? b = some o')
  (tups : ∀ b xs,H b = some (.tup xs) → H' b = some (.tup xs)) (frzs : ∀ b o u,H b = some (.frz o u) → H' b = some (.frz o u)) (tbls : ∀ b ps,H b = some (.tbl ps) → ∃ more,H' b = some (.tbl (ps ++ more)))
  (ns : ∀ m,s.heap.Ns X.env.locals m → h'.Ns X.env.locals m) (hok : HOk X.prog X.w H' h') (hg : AllBare g') :
  Inv X pins σ H' { s with heap := h',gens := g',drawn := d',toks := t' } := by
 have neL : ∀ b o,X.s₀.heap.get? b = some o → b ≠ X.env.locals := fun b o e => Nat.ne_of_lt (Nat.lt_of_lt_of_le (Heap.lt_size e) I.ok.above)
 have neC : ∀ b o,X.s₀.heap.get? b = some o → b ∉ X.ex → b ∉ ch := fun b o e hx hb => by
  rcases (hch b hb).1 with z | z
  ·exact hx z
  ·exact absurd (Nat.lt_of_lt_of_le (Heap.lt_size e) z) (Nat.lt_irrefl _)
 have cellK : ∀ x c,X.env.cells.lookup x = some c → ∀ v,s.heap.IsCell c v → h'.IsCell c v := fun x c e v ⟨o,ho,hd⟩ => by
  have nch : c ∉ ch := fun z => (hch c z).2.2.1 x c e rfl
  by_cases hc : c ∈ X.fs
  ·obtain ⟨sl,q⟩ := slot c o (I.cne x c e) hc nch ho (I.freeC x c e)
   exact ⟨_,q,hd⟩
  ·exact ⟨o,keep c o (I.cne x c e) hc nch ho (I.freeC x c e),hd⟩
 refine ⟨I.ok,I.os,hg,⟨fun b o e n hb hx => ?_,fun b o e n hb hx => ?_,fun b o e n hx => ?_,fun b o e hx => ?_,fun b xs e => tups b xs (I.base.tups b xs e),fun b o xs e => frzs b o xs (I.base.frzs b o xs e),fun b ps e => ?_⟩,?_,fun x c e => ?_,?_,fun x c e => ?_,fun p hp => ?_,hok,I.len⟩
 ·exact keep b o (neL b o e) hb (neC b o e hx) (I.base.keep b o e n hb hx) (I.base.free b o e n hx)
 ·obtain ⟨sl,e1⟩ := I.base.slot b o e n hb hx
  obtain ⟨sl',e2⟩ := slot b _ (neL b o e) hb (neC b o e hx) e1 (I.base.free b o e n hx)
  exact ⟨sl',e2⟩
 ·obtain ⟨o',e1⟩ := I.base.there b o e hx
  exact free b o' (neC b o e hx) e1 (I.base.free b o e n hx)
 ·obtain ⟨o',e1⟩ := I.base.there b o e hx
  exact there b o' (neC b o e hx) e1
 ·obtain ⟨m1,e1⟩ := I.base.tbls b ps e
  obtain ⟨m2,e2⟩ := tbls b _ e1
  exact ⟨m1 ++ m2,by rw [e2,Array.append_assoc]⟩
 ·obtain ⟨m,hn,hl⟩ := I.loc
  refine ⟨m,ns m hn,fun i x v e1 e2 e3 => ?_⟩
  obtain ⟨u,r,l⟩ := hl i x v e1 e2 e3
  refine ⟨u,r,?_⟩
  rcases l with l | ⟨k,c,e,z⟩
  ·exact .inl l
  ·exact .inr ⟨k,c,e,cellK x c e _ z⟩
 ·obtain ⟨v,z⟩ := I.cell x c e
  exact ⟨v,cellK x c e v z⟩
 ·obtain ⟨m,⟨o,_,_,ho,_⟩,_⟩ := I.loc
  exact free _ o (fun z => (hch _ z).2.1 rfl) ho I.free
 ·obtain ⟨v,o,ho,hd⟩ := I.cell x c e
  exact free c o (fun z => (hch c z).2.2.1 x c e rfl) ho (I.freeC x c e)
 ·obtain ⟨e,n,ne,nf,d⟩ := I.pin p hp
  have nch : p.1 ∉ ch := fun z => (hch p.1 z).2.2.2 p hp rfl
  exact ⟨keep p.1 p.2 ne nf nch e n,free p.1 p.2 nch e n,ne,nf,d⟩
theorem Inv.un {t' : Nat} (I : Inv X pins σ H s) (u : Un X.fs [] H H' s.heap h') (hok : HOk X.prog X.w H' h') : Inv X pins σ H' { s with heap := h',toks := t' } := by
 obtain ⟨m,⟨o,es,ep,ho,r⟩,_⟩ := id I.loc
 obtain ⟨sl,hL⟩ := u.any ho I.free (by simp)
 exact I.step (g' := s.gens) (d' := s.drawn) (ch := []) (fun _ z => nomatch z) (fun b o _ hb _ e n => u.keep b o e n hb (by simp)) (fun b o _ hb _ e n => u.slot b o e n hb (by simp)) (fun b o _ e n => u.free b o e n (by simp)) (fun b o _ e => u.there b o e (by simp)) u.tups u.frzs u.tbls (fun m' hm => by
  obtain ⟨o',es',ep',ho',r'⟩ := hm
  rw [ho] at ho'; cases ho'
  exact ⟨_,es',ep',hL,r'⟩) hok I.bare
theorem Inv.call {g' : Array GenState} {t' : Nat} {d' : Drawn} {ch : List Addr} (I : Inv X pins σ H s) (u : Un (frs X.stack) ch H H' s.heap h') (hok : HOk X.prog X.w H' h') (hg : AllBare g')
  (hch : ∀ b ∈ ch,(b ∈ X.ex ∨ X.s₀.heap.objs.size ≤ b) ∧ b ≠ X.env.locals ∧ (∀ x c,X.env.cells.lookup x = some c → c ≠ b) ∧ ∀ p ∈ X.pn ++ pins,p.1 ≠ b) :
  Inv X pins σ H' { s with heap := h',gens := g',drawn := d',toks := t' } := by
 obtain ⟨m,⟨o,es,ep,ho,r⟩,_⟩ := id I.loc
 obtain ⟨sl,hL⟩ := u.any ho I.free fun z => (hch _ z).2.1 rfl
 exact I.step (ch := ch) hch (fun b o hL hb hc e n => u.keep b o e n (fun z => (List.mem_cons.mp (I.stkSub b z)).elim hL hb) hc) (fun b o _ _ hc e n => u.any e n hc) (fun b o hc e n => u.free b o e n hc) (fun b o hc e => u.there b o e hc) u.tups u.frzs u.tbls (fun m' hm => by
  obtain ⟨o',es',ep',ho',r'⟩ := hm
  rw [ho] at ho'; cases ho'
  exact ⟨_,es',ep',hL,r'⟩) hok hg
theorem Inv.turned {t' : Nat} {it : Addr} (I : Inv X pins σ H s) (k : ∀ b o,b ≠ it → s.heap.get? b = some o → h'.get? b = some o) (hn : H it = none) (hL : it ≠ X.env.locals)
  (h1 : it ∈ X.ex ∨ X.s₀.heap.objs.size ≤ it) (h2 : ∀ x c,X.env.cells.lookup x = some c → c ≠ it) (h3 : ∀ p ∈ X.pn ++ pins,p.1 ≠ it) : Inv X pins σ H { s with heap := h',toks := t' } := by
 have nit : ∀ b u,H b = some u → b ≠ it := fun b u e z => by rw [z,hn] at e; cases e
 refine I.step (g' := s.gens) (d' := s.drawn) (ch := [it]) (fun b hb => ?_) (fun b o _ _ hc e _ => k b o (fun z => hc (by simp [z])) e) (fun b o _ _ hc e _ => ⟨o.slots,k b o (fun z => hc (by simp [z])) e⟩) (fun _ _ _ _ n => n)
  (fun b o hc e => ⟨o,k b o (fun z => hc (by simp [z])) e⟩) (fun _ _ e => e) (fun _ _ _ e => e) (fun b ps e => ⟨#[],by rw [e]; simp⟩) (fun m hm => ?_) (fun b u e => ?_) I.bare
 ·have e : b = it := by simpa using hb
  subst e
  exact ⟨h1,hL,h2,h3⟩
 ·obtain ⟨o,es,ep,ho,r⟩ := hm
  exact ⟨o,es,ep,k _ o (Ne.symm hL) ho,r⟩
 ·refine (I.hok b u e).stay (fun c v hc q => k c v ?_ q) (fun _ q => q) fun _ _ q => q
  rcases hc with z | z
  ·rw [z]; exact nit b u e
  ·exact nit c _ z
theorem Inv.tok (I : Inv X pins σ H s) (t : Nat) : Inv X pins σ H { s with toks := t } := I.un (h' := s.heap) (t' := t) Un.refl I.hok
theorem Inv.kept {t' : Nat} (I : Inv X pins σ H s) (k : ∀ b u,s.heap.get? b = some u → h'.get? b = some u) : Inv X pins σ H { s with heap := h',toks := t' } := I.un (Un.kept k) (I.hok.kept k)
theorem Inv.laid {a : Addr} {o : HO} {t' : Nat} (I : Inv X pins σ H s) (k : ∀ b u,s.heap.get? b = some u → h'.get? b = some u) (hp : s.heap.objs.size ≤ a) (new : J0Z X.prog X.w (upd H a o) h' a o) :
  Inv X pins σ (upd H a o) { s with heap := h',toks := t' } := I.un (Un.laid k hp (I.hok.fresh hp)) (I.hok.laid k hp new)
theorem Inv.write {x e : Addr} {o : HO} {t' : Nat} (I : Inv X pins σ H s) (mu : Mut (H x)) (he : e = x ∨ H e = some (.own x)) (k : ∀ b u,b ≠ e → s.heap.get? b = some u → h'.get? b = some u) (heo : ∃ u,h'.get? e = some u)
  (new : J0Z X.prog X.w (upd H x o) h' x o) : Inv X pins σ (upd H x o) { s with heap := h',toks := t' } := I.un (Un.write mu he k heo) (I.hok.write mu he k heo new)
theorem Inv.pins_of {pins' : List (Addr × Obj)} (I : Inv X pins σ H s) (h : ∀ p ∈ pins',s.heap.get? p.1 = some p.2 ∧ H p.1 = none ∧ p.1 ≠ X.env.locals ∧ p.1 ∉ X.fs ∧ ∀ v,p.2.data ≠ .cell v) : Inv X pins' σ H s :=
 ⟨I.ok,I.os,I.bare,I.base,I.loc,I.cell,I.free,I.freeC,fun p hp => (List.mem_append.mp hp).elim (fun z => I.pin p (List.mem_append_left _ z)) (h p),I.hok,I.len⟩
theorem Jai {N : List Str} (hN : N.Nodup) {i j : Nat} {x : Str} (a : N[i]? = some x) (b : N[j]? = some x) : i = j := by
 obtain ⟨h1,e1⟩ := List.getElem?_eq_some_iff.mp a
 obtain ⟨h2,e2⟩ := List.getElem?_eq_some_iff.mp b
 exact (List.getElem_inj hN).mp (e1.trans e2.symm)
theorem Jc1 {M : Model} {A : Around} {E : Value → Shared → Prop} {i : Nat} {x : Str} {v : V} {u : Value} {Q : Unit → Shared → Prop} (I : Inv X pins σ H s) (hN : X.N.Nodup) (hi : X.N[i]? = some x) (hx : Loc X.env.scope x) (r : RelV v u)
  (h : ∀ s',Inv X pins (σ.set i (some v)) H s' → (∃ a,Heap.SameBut a s.heap s'.heap ∧ (a = X.env.locals ∨ X.env.cells.lookup x = some a)) → Q () s') (hf : X.fn x = true ∨ X.env.scope.names.lookup x = some .local := by first | exact .inl rfl | exact .inr rfl | assumption) : wpAny M A (storeName X.env x u) Q E s := by
 obtain ⟨m,hn,hl⟩ := id I.loc
 have hcls : (X.env.scope.kind == .class || (X.env.scope.kind == .module && X.env.locals != X.env.globals)) = false := by rw [I.ok.kind]; rfl
 have hiσ : i < σ.length := by rw [I.len]; exact (List.getElem?_eq_some_iff.mp hi).1
 have cne := I.cne
 have tracked : ∀ {a : Addr} {h' : Heap},(∃ o,s.heap.get? a = some o ∧ H a = none) → Heap.SameBut a s.heap h' → HOk X.prog X.w H h' := fun {a h'} ha hs b ob e => by
  obtain ⟨_,_,hfree⟩ := ha
  refine (I.hok b ob e).stay (fun c w' hc q => (hs.2 c ?_).trans q) (fun _ q => q) fun _ _ q => q
  rintro rfl
  rcases hc with rfl | hc
  ·rw [hfree] at e; cases e
  ·rw [hfree] at hc; cases hc
 rcases hx with hk | hk
 ·refine wpAny_storeName_local hk hn (fun h' hn' hs => ?_) hcls
  obtain ⟨oL,_,_,hoL,_⟩ := id hn
  refine h _ ⟨I.ok,I.os,I.bare,⟨fun b o e n hb hx => ?_,fun b o e n hb hx => ?_,I.base.free,fun b o e hx => ?_,I.base.tups,I.base.frzs,I.base.tbls⟩,⟨_,hn',fun j y v' e1 e2 e3 => ?_⟩,fun y c e => ?_,I.free,I.freeC,fun p hp => ?_,tracked ⟨oL,hoL,I.free⟩ hs,by simpa using I.len⟩ ⟨_,hs,.inl rfl⟩
  ·exact (hs.2 b (Nat.ne_of_lt (Nat.lt_of_lt_of_le (Heap.lt_size e) I.ok.above))).trans (I.base.keep b o e n hb hx)
  ·obtain ⟨sl,e1⟩ := I.base.slot b o e n hb hx
   exact ⟨sl,(hs.2 b (Nat.ne_of_lt (Nat.lt_of_lt_of_le (Heap.lt_size e) I.ok.above))).trans e1⟩
  ·obtain ⟨o',e1⟩ := I.base.there b o e hx
   exact ⟨o',(hs.2 b (Nat.ne_of_lt (Nat.lt_of_lt_of_le (Heap.lt_size e) I.ok.above))).trans e1⟩
  ·by_cases hj : j = i
   ·subst hj
    rw [hi] at e1; cases e1
    rw [List.getElem?_set_self hiσ] at e2
    cases e2
    exact ⟨u,r,.inl ⟨hk,by simp⟩⟩
   ·rw [List.getElem?_set_ne (Ne.symm hj)] at e2
    obtain ⟨u',r',q⟩ := hl j y v' e1 e2 e3
    refine ⟨u',r',?_⟩
    rcases q with ⟨k,e⟩ | ⟨k,c,e,z⟩
    ·refine .inl ⟨k,?_⟩
     have : y ≠ x := fun e => hj (Jai hN e1 (e ▸ hi))
     simp [this,e]
    ·exact .inr ⟨k,c,e,z.sameBut hs (cne y c e)⟩
  ·obtain ⟨w',z⟩ := I.cell y c e
   exact ⟨w',z.sameBut hs (cne y c e)⟩
  ·obtain ⟨e,n,ne,nf,d⟩ := I.pin p hp
   exact ⟨(hs.2 p.1 ne).trans e,n,ne,nf,d⟩
 ·have hfn : X.fn x = true := by
   rcases hf with z | z
   ·exact z
   ·rw [z] at hk; cases hk
  obtain ⟨c,hc⟩ := I.ok.has x (.inl hk)
  obtain ⟨w',z⟩ := I.cell x c hc
  refine wpAny_storeName_cell I.ok.kind hk hc z (fun h' hc' hs => ?_)
  obtain ⟨oc,hoc,hocd⟩ := id z
  refine h { s with heap := h' } ⟨I.ok,I.os,I.bare,⟨fun b o e n hb hx => ?_,fun b o e n hb hx => ?_,I.base.free,fun b o e hx => ?_,I.base.tups,I.base.frzs,I.base.tbls⟩,⟨m,hn.sameBut hs (Ne.symm (cne x c hc)),fun j y v' e1 e2 e3 => ?_⟩,fun y c' e => ?_,I.free,I.freeC,fun p hp => ?_,tracked ⟨oc,hoc,I.freeC x c hc⟩ hs,by simpa using I.len⟩ ⟨c,hs,.inr hc⟩
  ·exact (hs.2 b (Nat.ne_of_lt (Nat.lt_of_lt_of_le (Heap.lt_size e) (I.ok.cab x c hfn hc)))).trans (I.base.keep b o e n hb hx)
  ·obtain ⟨sl,e1⟩ := I.base.slot b o e n hb hx
   exact ⟨sl,(hs.2 b (Nat.ne_of_lt (Nat.lt_of_lt_of_le (Heap.lt_size e) (I.ok.cab x c hfn hc)))).trans e1⟩
  ·obtain ⟨o',e1⟩ := I.base.there b o e hx
   exact ⟨o',(hs.2 b (Nat.ne_of_lt (Nat.lt_of_lt_of_le (Heap.lt_size e) (I.ok.cab x c hfn hc)))).trans e1⟩
  ·by_cases hj : j = i
   ·subst hj
    rw [hi] at e1; cases e1
    rw [List.getElem?_set_self hiσ] at e2
    cases e2
    exact ⟨u,r,.inr ⟨.inl hk,c,hc,hc'⟩⟩
   ·rw [List.getElem?_set_ne (Ne.symm hj)] at e2
    obtain ⟨u',r',q⟩ := hl j y v' e1 e2 e3
    refine ⟨u',r',?_⟩
    rcases q with q | ⟨k,c',e,z'⟩
    ·exact .inl q
    ·refine .inr ⟨k,c',e,z'.sameBut hs ?_⟩
     rintro rfl
     exact hj (Jai hN e1 (I.ok.inj _ _ _ e hc ▸ hi))
  ·by_cases hcc : c' = c
   ·subst hcc; exact ⟨_,hc'⟩
   ·obtain ⟨w2,z2⟩ := I.cell y c' e
    exact ⟨w2,z2.sameBut hs hcc⟩
  ·obtain ⟨e,n,ne,nf,d⟩ := I.pin p hp
   refine ⟨(hs.2 p.1 ?_).trans e,n,ne,nf,d⟩
   intro q
   rw [q,hoc] at e
   have q' : oc = p.2 := Option.some.inj e
   exact d w' (by rw [← q']; exact hocd)
theorem J5c {M : Model} {A : Around} {E : Value → Shared → Prop} {i : Nat} {x : Str} {v : V} {u : Value} {Q : Unit → Shared → Prop} (I : Inv X pins σ H s) (hN : X.N.Nodup) (hi : X.N[i]? = some x) (hx : Loc X.env.scope x) (r : RelV v u)
  (h : ∀ s',Inv X pins (σ.set i (some v)) H s' → Q () s') (hf : X.fn x = true ∨ X.env.scope.names.lookup x = some .local := by first | exact .inl rfl | exact .inr rfl | assumption) : wpAny M A (storeName X.env x u) Q E s :=
 Jc1 I hN hi hx r (fun s' I' _ => h s' I') hf
theorem Inv.call' {s' : Shared} {ch : List Addr} (I : Inv X pins σ H s) (ho : s'.os = s.os) (u : Un (frs X.stack) ch H H' s.heap s'.heap) (hok : HOk X.prog X.w H' s'.heap) (hg : AllBare s'.gens)
  (hch : ∀ b ∈ ch,(b ∈ X.ex ∨ X.s₀.heap.objs.size ≤ b) ∧ b ≠ X.env.locals ∧ (∀ x c,X.env.cells.lookup x = some c → c ≠ b) ∧ ∀ p ∈ X.pn ++ pins,p.1 ≠ b) : Inv X pins σ H' s' := by
 obtain ⟨h',g',d',t',o'⟩ := s'
 have e : o' = s.os := ho
 subst e
 exact I.call (g' := g') (t' := t') (d' := d') u hok hg hch
end
noncomputable abbrev XK := Value → Option Addr → Hp → Prop
noncomputable abbrev St := List (Option V)
noncomputable abbrev VK := V → Hp → Prop
noncomputable abbrev TE := St → Hp → VK → Prop
noncomputable abbrev TT := St → Hp → (Bool → Hp → Prop) → Prop
noncomputable abbrev TA := St → Hp → (List V → Hp → Prop) → Prop
structure Ends where
 nx : St → Hp → Prop
 rt : VK
 bk : St → Hp → Prop := fun _ _ => False
 ct : St → Hp → Prop := fun _ _ => False
noncomputable abbrev TS := Ends → St → Hp → Prop
noncomputable def EP (X : Cx) (pins : List (Addr × Obj)) (σ : St) (Q : VK) (u : Value) (s' : Shared) : Prop := ∃ v H',Inv X pins σ H' s' ∧ RelV v u ∧ Q v H'
noncomputable def TP (X : Cx) (pins : List (Addr × Obj)) (σ : St) (Q : Bool → Hp → Prop) (b : Bool) (s' : Shared) : Prop := ∃ H',Inv X pins σ H' s' ∧ Q b H'
noncomputable def AP (X : Cx) (pins : List (Addr × Obj)) (σ : St) (Q : List V → Hp → Prop) (us : List Value) (s' : Shared) : Prop := ∃ vs H',Inv X pins σ H' s' ∧ Vals vs us ∧ Q vs H'
noncomputable def SP (X : Cx) (pins : List (Addr × Obj)) (D : Ends) (f : Flow) (s' : Shared) : Prop :=
 match f with
 | .next => ∃ σ' H',Inv X pins σ' H' s' ∧ D.nx σ' H'
 | .brk => ∃ σ' H',Inv X pins σ' H' s' ∧ D.bk σ' H'
 | .cont => ∃ σ' H',Inv X pins σ' H' s' ∧ D.ct σ' H'
 | .ret u => ∃ v σ' H',Inv X pins σ' H' s' ∧ RelV v u ∧ D.rt v H'
noncomputable def PE (X : Cx) (e : Expr) (t : TE) : Prop :=
 ∀ (pins : List (Addr × Obj)) (s : Shared) (σ : St) (H : Hp) (Q : VK),Inv X pins σ H s → t σ H Q → wpAny (model X.prog X.w) X.A (eval e X.env) (EP X pins σ Q) X.xe s
noncomputable def PT (X : Cx) (e : Expr) (t : TT) : Prop :=
 ∀ (pins : List (Addr × Obj)) (s : Shared) (σ : St) (H : Hp) (Q : Bool → Hp → Prop),Inv X pins σ H s → t σ H Q → wpAny (model X.prog X.w) X.A (isTrue e X.env (eval e X.env)) (TP X pins σ Q) X.xe s
noncomputable def PW (X : Cx) (e : Expr) (t : TT) : Prop :=
 ∀ (whole : Sem Value) (pins : List (Addr × Obj)) (s : Shared) (σ : St) (H : Hp) (Q : Bool → Hp → Prop),Inv X pins σ H s → t σ H Q → wpAny (model X.prog X.w) X.A (isTrue e X.env whole) (TP X pins σ Q) X.xe s
theorem PW.pt {X : Cx} {e : Expr} {t : TT} (h : PW X e t) : PT X e t := h _
noncomputable def PA (X : Cx) (es : List Expr) (t : TA) : Prop :=
 ∀ (pos : Pos) (pins : List (Addr × Obj)) (s : Shared) (σ : St) (H : Hp) (Q : List V → Hp → Prop),Inv X pins σ H s → t σ H Q → wpAny (model X.prog X.w) X.A (spliced (backTo pos (starEach es X.env))) (AP X pins σ Q) X.xe s
noncomputable def PS (X : Cx) (st : Stmt) (t : TS) : Prop :=
 ∀ (pins : List (Addr × Obj)) (s : Shared) (σ : St) (H : Hp) (D : Ends),Inv X pins σ H s → t D σ H → wpAny (model X.prog X.w) X.A (exec st X.env) (SP X pins D) X.xe s
noncomputable def PSs (X : Cx) (st : List Stmt) (t : TS) : Prop :=
 ∀ (pins : List (Addr × Obj)) (s : Shared) (σ : St) (H : Hp) (D : Ends),Inv X pins σ H s → t D σ H → wpAny (model X.prog X.w) X.A (execs st X.env) (SP X pins D) X.xe s
theorem thn {α : Type} {t : Sem α} {Q Q' : α → Shared → Prop} {M : Model} {A : Around} {E : Value → Shared → Prop} {s : Shared} (h : wpAny M A t Q E s) (hQ : ∀ a s,Q a s → Q' a s) : wpAny M A t Q' E s := wpAny_mono h hQ fun _ _ x => x
end L2
namespace L2
open PySem PySem.Spec PyProof.Rows
section
variable {X : Cx}
noncomputable def tVar (i : Nat) : TE := fun σ H Q => ∃ v,σ[i]? = some (some v) ∧ Q v H
noncomputable def tC (v : V) : TE := fun _ H Q => Q v H
theorem JfF {i : Nat} {x : Str} {pos : Pos} (hN : X.N[i]? = some x) (hv : Vis X.env.scope x) (hd : (x == ("__debug__" : Str)) = false := by decide) (hcd : (x == ("__classdict__" : Str)) = false := by decide) : PE X (.Name x pos) (tVar i) := by
 intro pins s σ H Q I h
 obtain ⟨v,e,h⟩ := h
 obtain ⟨m,hn,hl⟩ := I.loc
 obtain ⟨u,r,l⟩ := hl i x v hN e hv
 have fin : EP X pins σ Q u s := ⟨v,H,I,r,h⟩
 rcases l with ⟨hk,hm⟩ | ⟨hk,c,hc,hcell⟩
 ·exact wpAny_Name (wpAny_loadName_local I.ok.kind hk hn hm fin) hd
 ·rcases hk with hk | hk
  ·exact wpAny_Name (wpAny_loadName_cell I.ok.kind hk hc hcell fin) hd
  ·exact wpAny_Name (wpAny_loadName_free I.ok.kind hk hc hcell fin hcd) hd
theorem Jd {i j pos} : PE X (.Constant (.int i) j pos) (tC (.int i)) := fun _ _ _ H _ I h => wpAny_Constant_int ⟨.int i,H,I.tok _,⟨_,rfl⟩,h⟩
theorem J3h {b j pos} : PE X (.Constant (.bool b) j pos) (tC (.bl b)) := fun _ _ _ H _ I h => Constant_bool ⟨.bl b,H,I,rfl,h⟩
theorem JfR {x j pos} : PE X (.Constant (.str x) j pos) (tC (.str x)) := fun _ _ _ H _ I h => Calls.Constant_str ⟨.str x,H,I.tok _,⟨_,rfl⟩,h⟩
noncomputable def Gl (X : Cx) (x : Str) : Prop := X.env.kindOf x = some .globalImplicit
theorem J91 {E : Value → Shared → Prop} {pins : List (Addr × Obj)} {s : Shared} {σ : St} {H : Hp} {x : Str} {u : Value} {pos : Pos} {Q : Value → Shared → Prop} (I : Inv X pins σ H s) (hg : Gl X x) (hm : X.mg x = some u) (h : Q u s)
  (hd : (x == ("__debug__" : Str)) = false := by decide) : wpAny (model X.prog X.w) X.A (eval (.Name x pos) X.env) Q E s :=
 Calls.Name_function_global I.ok.kind hg (Calls.loadGlobal_global (by rw [I.ok.glob]; exact I.mod.glob.keeps I.bk) hm h) hd
theorem J4B {E : Value → Shared → Prop} {pins : List (Addr × Obj)} {s : Shared} {σ : St} {H : Hp} {x : Str} {u : Value} {pos : Pos} {Q : Value → Shared → Prop} (I : Inv X pins σ H s) (hg : Gl X x) (hm : X.mg x = none) (hv : bootBuiltins x = some u) (h : Q u s)
  (hn : x ≠ "__name__" := by decide) (hd : (x == ("__debug__" : Str)) = false := by decide) : wpAny (model X.prog X.w) X.A (eval (.Name x pos) X.env) Q E s := by
 obtain ⟨mb,h1,h2⟩ := I.mod.blt
 exact Calls.Name_function_global I.ok.kind hg (Calls.loadGlobal_builtin (by rw [I.ok.glob]; exact I.mod.glob.keeps I.bk) hm (by rw [I.ok.blt]; exact h1.keeps I.bk) ((h2 x hn).trans hv) h) hd
theorem J5a {x : Str} {v : V} {u : Value} {pos : Pos} (hg : Gl X x) (hm : X.mg x = some u) (r : RelV v u) (hd : (x == ("__debug__" : Str)) = false := by decide) : PE X (.Name x pos) (tC v) :=
 fun _ _ _ H _ I h => J91 I hg hm ⟨v,H,I,r,h⟩ hd
variable {a b : Expr} {ta tb : TE} {pos : Pos}
noncomputable def tB (t : TE) : TT := fun σ H Q => t σ H fun x H1 => ∃ c,x = .bl c ∧ Q c H1
theorem J3Z {e : Expr} {t : TE} (h : PE X e t) (he : ∀ whole,isTrue e X.env whole = (do let v ← whole; standAt e.pos; holding [v] (truthy v)) := by intro _; rfl) : PT X e (tB t) := by
 intro pins s σ H Q I hw
 refine isTrue_plain (thn (h pins s σ H _ I hw) fun v s1 ⟨x,H1,I1,r1,q1⟩ => ?_) (he _)
 obtain ⟨d,rfl,q⟩ := q1
 cases r1
 exact wpAny_truthy_bool ⟨H1,I1,q⟩
variable {tA tB' : TT} {rest : List Expr}
noncomputable def tAnd (t u : TT) : TT := fun σ H Q => t σ H fun c H1 => if c = true then u σ H1 Q else Q false H1
noncomputable def tOr (t u : TT) : TT := fun σ H Q => t σ H fun c H1 => if c = true then Q true H1 else u σ H1 Q
noncomputable def tNot (t : TT) : TT := fun σ H Q => t σ H fun c H1 => Q (!c) H1
theorem J3I (ha : PT X a tA) : PW X (.BoolOp .And [a] pos) tA := by
 intro wh pins s σ H Q I h
 refine isTrue_and (thn (ha pins s σ H Q I h) fun c s1 e => ?_)
 cases c with
 | true => exact isTrue_and_nil e
 | false => exact e
theorem J4F (ha : PT X a tA) : PW X (.BoolOp .Or [a] pos) tA := by
 intro wh pins s σ H Q I h
 refine isTrue_or (thn (ha pins s σ H Q I h) fun c s1 e => ?_)
 cases c with
 | false => exact isTrue_or_nil e
 | true => exact e
theorem J3D (ha : PT X a tA) (hb : PW X (.BoolOp .And (b :: rest) pos) tB') : PW X (.BoolOp .And (a :: b :: rest) pos) (tAnd tA tB') := by
 intro wh pins s σ H Q I h
 refine isTrue_and (thn (ha pins s σ H _ I h) fun c s1 ⟨H1,I1,q1⟩ => ?_)
 cases c with
 | true => exact hb wh pins s1 σ H1 Q I1 q1
 | false => exact ⟨H1,I1,q1⟩
theorem J5f (ha : PT X a tA) (hb : PW X (.BoolOp .Or (b :: rest) pos) tB') : PW X (.BoolOp .Or (a :: b :: rest) pos) (tOr tA tB') := by
 intro wh pins s σ H Q I h
 refine isTrue_or (thn (ha pins s σ H _ I h) fun c s1 ⟨H1,I1,q1⟩ => ?_)
 cases c with
 | true => exact ⟨H1,I1,q1⟩
 | false => exact hb wh pins s1 σ H1 Q I1 q1
theorem JcS (ha : PT X a tA) : PT X (.UnaryOp .Not a pos) (tNot tA) := by
 intro pins s σ H Q I h
 exact isTrue_not (ha pins s σ H (fun c H1 => Q (!c) H1) I h)
noncomputable def Jgo (ta tb : TE) : TE := fun σ H Q => ta σ H fun x H1 => ∃ c,x = .bl c ∧ if c = true then tb σ H1 Q else Q (.bl false) H1
noncomputable def tOrV (ta tb : TE) : TE := fun σ H Q => ta σ H fun x H1 => ∃ c,x = .bl c ∧ if c = true then Q (.bl true) H1 else tb σ H1 Q
noncomputable def Jga (ta : TE) : TE := fun σ H Q => ta σ H fun x H1 => ∃ c,x = .bl c ∧ Q (.bl (!c)) H1
theorem J8U {op} {t : TE} (h : PE X a t) : PE X (.BoolOp op [a] pos) t := fun pins s σ H Q I hw => BoolOp_one (h pins s σ H Q I hw)
theorem JdY (ha : PE X a ta) (hb : PE X (.BoolOp .And (b :: rest) pos) tb) : PE X (.BoolOp .And (a :: b :: rest) pos) (Jgo ta tb) := by
 intro pins s σ H Q I h
 refine BoolOp_and (thn (ha pins s σ H _ I h) fun v s1 ⟨x,H1,I1,r1,q1⟩ => ?_)
 obtain ⟨c,rfl,q1⟩ := q1
 cases r1
 refine wpAny_truthy_bool ?_
 cases c with
 | true => exact hb pins s1 σ H1 Q I1 q1
 | false => exact ⟨.bl false,H1,I1,rfl,q1⟩
theorem JeZ (ha : PE X a ta) (hb : PE X (.BoolOp .Or (b :: rest) pos) tb) : PE X (.BoolOp .Or (a :: b :: rest) pos) (tOrV ta tb) := by
 intro pins s σ H Q I h
 refine BoolOp_or (thn (ha pins s σ H _ I h) fun v s1 ⟨x,H1,I1,r1,q1⟩ => ?_)
 obtain ⟨c,rfl,q1⟩ := q1
 cases r1
 refine wpAny_truthy_bool ?_
 cases c with
 | false => exact hb pins s1 σ H1 Q I1 q1
 | true => exact ⟨.bl true,H1,I1,rfl,q1⟩
theorem JfK (ha : PE X a ta) : PE X (.UnaryOp .Not a pos) (Jga ta) := by
 intro pins s σ H Q I h
 refine UnaryOp_ (thn (ha pins s σ H _ I h) fun v s1 ⟨x,H1,I1,r1,q1⟩ => ?_)
 obtain ⟨c,rfl,q1⟩ := q1
 cases r1
 exact not_of (wpAny_truthy_bool ⟨.bl (!c),H1,I1,rfl,q1⟩)
noncomputable def tIf (t : TT) (ta tb : TE) : TE := fun σ H Q => t σ H fun c H1 => if c = true then ta σ H1 Q else tb σ H1 Q
theorem Jar {c : Expr} (hc : PT X c tA) (ha : PE X a ta) (hb : PE X b tb) : PE X (.IfExp c a b pos) (tIf tA ta tb) := by
 intro pins s σ H Q I h
 refine wpAny_IfExp (thn (hc pins s σ H _ I h) fun d s1 ⟨H1,I1,q1⟩ => ?_)
 cases d with
 | true => exact ha pins s1 σ H1 Q I1 q1
 | false => exact hb pins s1 σ H1 Q I1 q1
end
end L2
namespace L2
open PySem PySem.Spec PyProof.Rows
noncomputable def SqL (K : PySem.W.Frag) (H : Hp) (a : Addr) (xs : List V) : Prop :=
 Rd H a (.lst xs) ∨
  ∃ (o : Obj) (its : Array Value) (n : Nat),K.lookup a = some o ∧ o.cls = .type "list" ∧ o.dict = none ∧ o.data = .seq its n ∧ its.size ≤ sizeLine ∧ Vals xs its.toList
noncomputable def SqT (K : PySem.W.Frag) (H : Hp) (a : Addr) (xs : List V) : Prop :=
 Rd H a (.tup xs) ∨
  ∃ (o : Obj) (its : Array Value) (n : Nat),K.lookup a = some o ∧ o.cls = .type "tuple" ∧ o.data = .seq its n ∧ its.size ≤ sizeLine ∧ Vals xs its.toList
noncomputable def absV : Value → Option V
 | .none => some .non
 | .bool b => some (.bl b)
 | .int i _ => some (.int i)
 | .str x _ => some (.str x)
 | .bytes b _ => some (.byt b)
 | .float b _ => some (.flt b)
 | .ref a => some (.ref a)
 | .type n => some (.ty n)
 | _ => none
theorem RelV.abs {x : V} {u : Value} (r : RelV x u) : absV u = some x := by
 cases x with
 | non => cases r; rfl
 | bl _ => cases r; rfl
 | int _ => obtain ⟨t,rfl⟩ := r; rfl
 | str _ => obtain ⟨t,rfl⟩ := r; rfl
 | byt _ => obtain ⟨t,rfl⟩ := r; rfl
 | flt _ => obtain ⟨t,rfl⟩ := r; rfl
 | ref _ => cases r; rfl
 | ty _ => cases r; rfl
theorem RelV.inj {x y : V} {u : Value} (r : RelV x u) (q : RelV y u) : x = y := Option.some.inj (r.abs.symm.trans q.abs)
theorem Vals.inj : ∀ {xs ys : List V} {us : List Value},Vals xs us → Vals ys us → xs = ys
 | _,_,_,.nil,.nil => rfl
 | _,_,_,.cons r t,.cons r' t' => by rw [r.inj r',Vals.inj t t']
section
variable {X : Cx} {pins : List (Addr × Obj)} {σ : St} {H : Hp} {s : Shared} {a : Addr} {xs ys : List V}
theorem SqL.of {K : PySem.W.Frag} (h : H a = some (.lst xs)) : SqL K H a xs := .inl (.inl h)
theorem SqT.of {K : PySem.W.Frag} (h : H a = some (.tup xs)) : SqT K H a xs := .inl (.inl h)
theorem Inv.list (I : Inv X pins σ H s) (h : SqL X.K H a xs) : ∃ its : List Value,Vals xs its ∧ PlainL s.heap a its.toArray ∧ xs.length ≤ sizeLine := by
 rcases h with h | ⟨o,its,n,hk,hc,hd,hs,hz,r⟩
 ·obtain ⟨z,its,n,r,e⟩ := h.ok I.hok
  exact ⟨its,r,⟨_,n,e,rfl,rfl,rfl⟩,z⟩
 ·refine ⟨its.toList,r,⟨o,n,I.kIn a o hk,hc,hd,by simpa using hs⟩,?_⟩
  have e := r.length
  simp only [Array.length_toList] at e
  omega
theorem Inv.tuple (I : Inv X pins σ H s) (h : SqT X.K H a xs) : ∃ its : List Value,Vals xs its ∧ IsTup s.heap a its.toArray ∧ xs.length ≤ sizeLine := by
 rcases h with h | ⟨o,its,n,hk,hc,hs,hz,r⟩
 ·obtain ⟨z,its,r,p⟩ := h.ok I.hok
  exact ⟨its,r,p,z⟩
 ·refine ⟨its.toList,r,⟨o,I.kIn a o hk,hc,n,by simpa using hs⟩,?_⟩
  have e := r.length
  simp only [Array.length_toList] at e
  omega
theorem Inv.list_inj (I : Inv X pins σ H s) (h : SqL X.K H a xs) (h' : SqL X.K H a ys) : xs = ys := by
 obtain ⟨its,r,⟨o,n,e,_,_,d⟩,_⟩ := I.list h
 obtain ⟨its',r',⟨o',n',e',_,_,d'⟩,_⟩ := I.list h'
 rw [e] at e'; cases e'
 rw [d] at d'
 injection d' with d1 _
 have : its = its' := by simpa using congrArg Array.toList d1
 subst this
 exact r.inj r'
theorem Inv.tuple_inj (I : Inv X pins σ H s) (h : SqT X.K H a xs) (h' : SqT X.K H a ys) : xs = ys := by
 obtain ⟨its,r,⟨o,e,_,n,d⟩,_⟩ := I.tuple h
 obtain ⟨its',r',⟨o',e',_,n',d'⟩,_⟩ := I.tuple h'
 rw [e] at e'; cases e'
 rw [d] at d'
 injection d' with d1 _
 have : its = its' := by simpa using congrArg Array.toList d1
 subst this
 exact r.inj r'
end
noncomputable abbrev Cx.wish (X : Cx) (E : Value → Shared → Prop) : Cx := { X with xe := E }
noncomputable abbrev Cx.nox (X : Cx) : Cx := X.wish fun _ _ => False
theorem Cx.Ok.wish {X : Cx} (ok : X.Ok) (E : Value → Shared → Prop) : (X.wish E).Ok :=
 ⟨ok.mod,ok.kind,ok.glob,ok.blt,ok.above,ok.inj,ok.has,ok.cab,ok.hd,ok.frames,ok.stk,ok.exf,ok.bs,ok.bsz,ok.noex,ok.exfs,ok.funs,ok.frf⟩
theorem Cx.Ok.unwish {X : Cx} {E : Value → Shared → Prop} (ok : (X.wish E).Ok) : X.Ok :=
 ⟨ok.mod,ok.kind,ok.glob,ok.blt,ok.above,ok.inj,ok.has,ok.cab,ok.hd,ok.frames,ok.stk,ok.exf,ok.bs,ok.bsz,ok.noex,ok.exfs,ok.funs,ok.frf⟩
section
variable {X : Cx} {pins : List (Addr × Obj)} {σ : St} {H : Hp} {s : Shared} {E : Value → Shared → Prop}
theorem Inv.wish (I : Inv X pins σ H s) (E : Value → Shared → Prop) : Inv (X.wish E) pins σ H s := ⟨I.ok.wish E,I.os,I.bare,I.base,I.loc,I.cell,I.free,I.freeC,I.pin,I.hok,I.len⟩
theorem Inv.unwish (I : Inv (X.wish E) pins σ H s) : Inv X pins σ H s := ⟨I.ok.unwish,I.os,I.bare,I.base,I.loc,I.cell,I.free,I.freeC,I.pin,I.hok,I.len⟩
theorem SP.unwish {D : Ends} {f : Flow} {s' : Shared} (h : SP (X.wish E) pins D f s') : SP X pins D f s' := by
 cases f with
 | next => obtain ⟨σ',H',I,q⟩ := h; exact ⟨σ',H',I.unwish,q⟩
 | brk => obtain ⟨σ',H',I,q⟩ := h; exact ⟨σ',H',I.unwish,q⟩
 | cont => obtain ⟨σ',H',I,q⟩ := h; exact ⟨σ',H',I.unwish,q⟩
 | ret u => obtain ⟨v,σ',H',I,r,q⟩ := h; exact ⟨v,σ',H',I.unwish,r,q⟩
theorem PSs.nox {st : List Stmt} {t : TS} (h : PSs X.nox st t) : PSs X st t := fun pins s σ H D I hw =>
 wpAny_mono (h pins s σ H D (I.wish _) hw) (fun _ _ q => q.unwish) fun _ _ z => False.elim z
end
section
variable {X : Cx} {st : Stmt} {rest : List Stmt} {t u : TS} {e : Expr} {te : TE} {pos : Pos}
noncomputable def Jgr : TS := fun D σ H => D.nx σ H
noncomputable def tSeq (t u : TS) : TS := fun D σ H => t { D with nx := u D } σ H
theorem JA : PSs X [] Jgr := fun _ _ σ H _ I h => wpAny_execs_nil ⟨σ,H,I,h⟩
theorem J5 (h1 : PS X st t) (h2 : PSs X rest u) : PSs X (st :: rest) (tSeq t u) := by
 intro pins s σ H D I h
 refine wpAny_execs_cons (thn (h1 pins s σ H { D with nx := u D } I h) fun f s1 q => ?_)
 cases f with
 | next =>
  obtain ⟨σ',H',I',q⟩ := q
  exact h2 pins s1 σ' H' D I' q
 | ret v => exact q
 | brk => exact q
 | cont => exact q
theorem Jc (h1 : PS X st t) : PSs X [st] t := by
 intro pins s σ H D I h
 refine wpAny_execs_cons (thn (h1 pins s σ H D I h) fun f s1 q => ?_)
 cases f with
 | next => exact wpAny_execs_nil q
 | ret v => exact q
 | brk => exact q
 | cont => exact q
theorem Inv.quiet {pins : List (Addr × Obj)} {σ : St} {H : Hp} {s : Shared} (I : Inv X pins σ H s) : interactive X.env = false := by simp [interactive,I.ok.kind]
noncomputable def Jgt (te : TE) : TS := fun D σ H => te σ H fun _ H1 => D.nx σ H1
theorem J1O (he : PE X e te) (hs : swapsWith e none pos.line X.env = pure false := by rfl) : PS X (.Expr e pos) (Jgt te) := by
 intro pins s σ H D I h
 exact wpAny_Expr_any (thn (he pins s σ H _ I h) fun v s1 ⟨x,H1,I1,r1,q1⟩ => ⟨σ,H1,I1,q1⟩) I.quiet hs
noncomputable def tRet (te : TE) : TS := fun D σ H => te σ H D.rt
theorem Jp (he : PE X e te) : PS X (.Return (some e) pos) (tRet te) := by
 intro pins s σ H D I h
 exact wpAny_Return_some (thn (he pins s σ H _ I h) fun v s1 ⟨x,H1,I1,r1,q1⟩ => ⟨x,σ,H1,I1,r1,q1⟩)
noncomputable def tIfS (c : TT) (t u : TS) : TS := fun D σ H => c σ H fun b H1 => if b = true then t D σ H1 else u D σ H1
theorem J01 {c : Expr} {a b : List Stmt} {tc : TT} (hc : PT X c tc) (ha : PSs X a t) (hb : PSs X b u) : PS X (.If c a b pos) (tIfS tc t u) := by
 intro pins s σ H D I h
 refine wpAny_If (thn (hc pins s σ H _ I h) fun d s1 ⟨H1,I1,q1⟩ => ?_)
 cases d with
 | true => exact ha pins s1 σ H1 D I1 q1
 | false => exact hb pins s1 σ H1 D I1 q1
noncomputable def JfU : TS := fun _ _ _ => False
theorem Jdo : PS X st JfU := fun _ _ _ _ _ _ h => h.elim
end
noncomputable abbrev TG := V → St → Hp → (St → Hp → Prop) → Prop
noncomputable abbrev TGs := List V → St → Hp → (St → Hp → Prop) → Prop
noncomputable def PG (X : Cx) (target : Expr) (t : TG) : Prop :=
 ∀ (pins : List (Addr × Obj)) (s : Shared) (σ : St) (H : Hp) (v : V) (u : Value) (Q : St → Hp → Prop),Inv X pins σ H s → RelV v u → t v σ H Q →
  wpAny (model X.prog X.w) X.A (assign target X.env u) (fun _ s' => ∃ σ' H',Inv X pins σ' H' s' ∧ Q σ' H') X.xe s
noncomputable def PGs (X : Cx) (ts : List Expr) (t : TGs) : Prop :=
 ∀ (pins : List (Addr × Obj)) (s : Shared) (σ : St) (H : Hp) (vs : List V) (us : List Value) (Q : St → Hp → Prop),Inv X pins σ H s → Vals vs us → t vs σ H Q →
  wpAny (model X.prog X.w) X.A (assignInOrder ((assignEach ts X.env).map (·.2)) us) (fun _ s' => ∃ σ' H',Inv X pins σ' H' s' ∧ Q σ' H') X.xe s
noncomputable abbrev TIp := V → V → Hp → VK → Prop
noncomputable def PIp (X : Cx) (op : Operator) (t : TIp) : Prop :=
 ∀ (pins : List (Addr × Obj)) (s : Shared) (σ : St) (H : Hp) (x y : V) (v u : Value) (Q : VK),Inv X pins σ H s → RelV x v → RelV y u → t x y H Q →
  wpAny (model X.prog X.w) X.A (inplaceOp op v u) (EP X pins σ Q) X.xe s
section
variable {X : Cx} {pos : Pos}
noncomputable def J3w (i : Nat) : TG := fun v σ H Q => Q (σ.set i (some v)) H
theorem Jo {i : Nat} {x : Str} (hN : X.N.Nodup) (hi : X.N[i]? = some x) (hx : Loc X.env.scope x) (hf : X.fn x = true ∨ X.env.scope.names.lookup x = some .local := by first | exact .inl rfl | exact .inr rfl | assumption) : PG X (.Name x pos) (J3w i) := by
 intro pins s σ H v u Q I r h
 exact wpAny_assign_Name (J5c I hN hi hx r (fun s' I' => ⟨_,H,I',h⟩) hf)
noncomputable def gNil : TGs := fun vs σ H Q => vs = [] ∧ Q σ H
noncomputable def Jaa (t : TG) (u : TGs) : TGs := fun vs σ H Q => ∃ v r,vs = v :: r ∧ t v σ H fun σ' H' => u r σ' H' Q
theorem J1P : PGs X [] gNil := by
 intro pins s σ H vs us Q I r h
 obtain ⟨e,h⟩ := h
 subst e
 cases r
 exact assignInOrder_nil ⟨σ,H,I,h⟩
theorem Jz {e : Expr} {es : List Expr} {t : TG} {u : TGs} (h1 : PG X e t) (h2 : PGs X es u)
  (hs : (assignEach (e :: es) X.env).map (·.2) = assign e X.env :: (assignEach es X.env).map (·.2) := by rfl) : PGs X (e :: es) (Jaa t u) := by
 intro pins s σ H vs us Q I r h
 obtain ⟨v,vr,e1,h⟩ := h
 subst e1
 cases r with
 | cons r rr =>
  rw [hs]
  refine assignInOrder_cons (thn (h1 pins s σ H _ _ _ I r h) fun _ s1 ⟨σ1,H1,I1,q1⟩ => ?_)
  exact h2 pins s1 σ1 H1 _ _ Q I1 rr q1
noncomputable def gTup (K : PySem.W.Frag) (n : Nat) (t : TGs) : TG := fun v σ H Q => ∃ a xs,v = .ref a ∧ SqT K H a xs ∧ xs.length = n ∧ t xs σ H Q
theorem J2P {es : List Expr} {k : Nat} {t : TGs} {n : Nat} (hc : X.calm = true) (h : PGs X es t)
  (hn : (assignEach es X.env).length = n := by rfl) (hst : (assignEach es X.env).findIdx? (·.1) = none := by rfl) : PG X (.Tuple es k pos) (gTup X.K n t) := by
 intro pins s σ H v u Q I r hw
 obtain ⟨a,xs,e1,hq,hl,hw⟩ := hw
 subst e1
 cases r
 obtain ⟨its,rv,ht,hz⟩ := I.tuple hq
 refine assign_Tuple_tuple (I.ok.hd hc) ht (by simp [hn,← hl,rv.length]) hst fun h' hx => ?_
 have I1 : Inv X pins σ H { s with heap := h' } := I.kept (t' := s.toks) fun b o e => hx b o (Nat.ne_of_lt (Heap.lt_size e)) e
 exact h pins _ σ H xs _ Q I1 (by simpa using rv) hw
noncomputable def tAsg (te : TE) (g : TG) : TS := fun D σ H => te σ H fun x H1 => g x σ H1 D.nx
theorem Jj {i : Nat} {x : Str} {e : Expr} {te : TE} {pos' : Pos} (hN : X.N.Nodup) (hi : X.N[i]? = some x) (hx : Loc X.env.scope x) (he : PE X e te) (hs : swapsWith e (some (.Name x pos')) pos.line X.env = pure false := by rfl) (hf : X.fn x = true ∨ X.env.scope.names.lookup x = some .local := by first | exact .inl rfl | exact .inr rfl | assumption) :
  PS X (.Assign [.Name x pos'] e pos) (tAsg te (J3w i)) := by
 intro pins s σ H D I h
 refine wpAny_Assign_Name (thn (he pins s σ H _ I h) fun v s1 ⟨y,H1,I1,r1,q1⟩ => ?_) hs
 exact J5c I1 hN hi hx r1 (fun s2 I2 => ⟨_,H1,I2,q1⟩) hf
noncomputable def tAug (i : Nat) (te : TE) (ti : TIp) : TS := fun D σ H => ∃ x,σ[i]? = some (some x) ∧ te σ H fun y H1 => ti x y H1 fun z H2 => D.nx (σ.set i (some z)) H2
theorem J4D {i : Nat} {x : Str} {e : Expr} {te : TE} {op : Operator} {ti : TIp} {pos' : Pos} (hN : X.N.Nodup) (hi : X.N[i]? = some x) (hx : Loc X.env.scope x) (he : PE X e te) (ho : PIp X op ti) (hf : X.fn x = true ∨ X.env.scope.names.lookup x = some .local := by first | exact .inl rfl | exact .inr rfl | assumption) :
  PS X (.AugAssign (.Name x pos') op e pos) (tAug i te ti) := by
 intro pins s σ H D I h
 obtain ⟨v,e1,h⟩ := h
 obtain ⟨m,hn,hl⟩ := I.loc
 have vis : Vis X.env.scope x := by rcases hx with k | k; exact .inl k; exact .inr (.inl k)
 obtain ⟨u,r,l⟩ := hl i x v hi e1 vis
 refine wpAny_AugAssign_Name ?_
 have go : wpAny (model X.prog X.w) X.A (eval e X.env) (fun w s₂ => wpAny (model X.prog X.w) X.A (inplaceOp op u w) (fun r s₃ => wpAny (model X.prog X.w) X.A (storeName X.env x r) (fun _ => SP X pins D .next) X.xe s₃) X.xe s₂) X.xe s := by
  refine thn (he pins s σ H _ I h) fun w s1 ⟨y,H1,I1,r1,q1⟩ => ?_
  refine thn (ho pins s1 σ H1 v y u w _ I1 r r1 q1) fun z s2 ⟨zv,H2,I2,r2,q2⟩ => ?_
  exact J5c I2 hN hi hx r2 (fun s3 I3 => ⟨_,H2,I3,q2⟩) hf
 rcases l with ⟨hk,hm⟩ | ⟨hk,c,hc,hcell⟩
 ·exact wpAny_loadName_local I.ok.kind hk hn hm go
 ·rcases hk with hk | hk
  ·exact wpAny_loadName_cell I.ok.kind hk hc hcell go
  ·rcases hx with k | k
   ·have : X.env.scope.names.lookup x = some .free := hk
    rw [k] at this; cases this
   ·have : X.env.scope.names.lookup x = some .free := hk
    rw [k] at this; cases this
end
section
variable {X : Cx} {pos : Pos}
end
structure It where
 go : Nat → Hp → Prop
 yld : Nat → Hp → V → Hp → Prop
 stop : Nat → Hp → Prop
noncomputable def FpOk (X : Cx) (pins : List (Addr × Obj)) (H : Hp) (b : Addr) : Prop :=
 H b = none ∧ b ≠ X.env.locals ∧ b ∉ X.fs ∧ (b ∈ X.ex ∨ X.s₀.heap.objs.size ≤ b) ∧ (∀ x c,X.env.cells.lookup x = some c → c ≠ b) ∧ ∀ p ∈ X.pn ++ pins,p.1 ≠ b
theorem Inv.fpOk {X : Cx} {pins : List (Addr × Obj)} {σ : St} {H H' : Hp} {s : Shared} {b : Addr} (I : Inv X pins σ H s) (hb : s.heap.objs.size ≤ b) (hn : H' b = none) : FpOk X pins H' b := by
 refine ⟨hn,Nat.ne_of_gt (Nat.lt_of_lt_of_le I.lt hb),I.nofs hb,.inr (Nat.le_trans I.sz hb),fun x c e z => ?_,fun p hp z => ?_⟩
 ·obtain ⟨v,q⟩ := I.cell x c e
  exact absurd (Nat.lt_of_lt_of_le q.lt (by rw [z]; exact hb)) (Nat.lt_irrefl _)
 ·exact absurd (Nat.lt_of_lt_of_le (Heap.lt_size (I.pin p hp).1) (by rw [z]; exact hb)) (Nat.lt_irrefl _)
structure Turn (P : Program) (w : World) (K : PySem.W.Frag) (tg : Expr) (J : It) (fp : List Addr) (it : Addr) (tn : Nat → Heap → Prop) : Prop where
 mem : it ∈ fp
 obj : ∀ i h,tn i h → ∀ b ∈ fp,∃ o,h.get? b = some o ∧ ∀ v,o.data ≠ .cell v
 keep : ∀ i h h',tn i h → (∀ b ∈ fp,∀ o,h.get? b = some o → h'.get? b = some o) → tn i h'
 item : ∀ (X : Cx),X.prog = P → X.w = w → X.K = K → X.calm = true → ∀ (i : Nat) (pins : List (Addr × Obj)) (s : Shared) (σ : St) (H : Hp) (E : Value → Shared → Prop),Inv X pins σ H s → (∀ b ∈ fp,FpOk X pins H b) → tn i s.heap → J.go i H →
  wpAny (model P w) X.A (pyNext (.ref it)) (fun r s1 => ∃ u,r = some u ∧
   wpAny (model P w) X.A (letOwnedTupleGo tg (.ref it) u) (fun _ s2 => ∃ x H',Inv X pins σ H' s2 ∧ RelV x u ∧ J.yld i H x H' ∧ tn (i + 1) s2.heap ∧ ∀ b ∈ fp,H' b = none) E s1) E s
 done : ∀ (X : Cx),X.prog = P → X.w = w → X.K = K → X.calm = true → ∀ (i : Nat) (pins : List (Addr × Obj)) (s : Shared) (σ : St) (H : Hp) (E : Value → Shared → Prop),Inv X pins σ H s → (∀ b ∈ fp,FpOk X pins H b) → tn i s.heap → J.stop i H →
  wpAny (model P w) X.A (pyNext (.ref it)) (fun r s1 => r = none ∧ Inv X pins σ H s1) E s
 self : ∀ (A : Around) (i : Nat) (s : Shared) (Q : Value → Shared → Prop) (E : Value → Shared → Prop),tn i s.heap → Q (.ref it) s → wpAny (model P w) A (pyIter (.ref it)) Q E s
noncomputable abbrev TI := St → Hp → (It → Hp → Prop) → Prop
noncomputable def PIE (X : Cx) (pins : List (Addr × Obj)) (σ : St) (tg : Expr) (R : It → Hp → Prop) (itv : Value) (s2 : Shared) : Prop :=
 ∃ (it : Addr) (fp : List Addr) (tn : Nat → Heap → Prop) (J : It) (H' : Hp),itv = .ref it ∧ Inv X pins σ H' s2 ∧ Turn X.prog X.w X.K tg J fp it tn ∧ tn 0 s2.heap ∧ (∀ b ∈ fp,FpOk X pins H' b) ∧ R J H'
noncomputable def PI (X : Cx) (tg iter : Expr) (wi : TI) : Prop :=
 ∀ (pins : List (Addr × Obj)) (s : Shared) (σ : St) (H : Hp) (R : It → Hp → Prop),Inv X pins σ H s → wi σ H R →
  wpAny (model X.prog X.w) X.A (eval iter X.env) (fun v s1 => wpAny (model X.prog X.w) X.A (pyIter v) (PIE X pins σ tg R) X.xe s1) X.xe s
theorem JcW {M : Model} {A : Around} {E : Value → Shared → Prop} {s : Shared} {tg : Expr} {it : Addr} {u : Value} {o : Obj} {n : String} {vs : Array Value} {Q : Unit → Shared → Prop} (ho : s.heap.get? it = some o) (hc : o.cls = .type n) (hd : o.data = .fields vs)
    (hn : ["enumerate","zip","dict_itemiterator","dict_reverseitemiterator","odict_iterator","itertools.zip_longest","itertools.pairwise"].contains n = false) (hQ : Q () s) : wpAny M A (letOwnedTupleGo tg (.ref it) u) Q E s := by
  unfold letOwnedTupleGo
  cases tg <;> first
    | exact wpAny_pure hQ
    | (cases u <;> first
        | exact wpAny_pure hQ
        | (refine wpAny_bind (wpAny_load ho ?_)
           rw [hc,hd]
           show wpAny M A (if (["enumerate","zip","dict_itemiterator","dict_reverseitemiterator","odict_iterator","itertools.zip_longest","itertools.pairwise"].contains n && vs[0]? == some (rawInt _)) = true then _ else _) Q E s
           rw [if_neg (by intro h; rw [hn,Bool.false_and] at h; cases h)]
           exact wpAny_pure hQ))
noncomputable def Itl (K : PySem.W.Frag) (a : Addr) : It :=
 ⟨fun i H => ∃ xs x,SqL K H a xs ∧ xs[i]? = some x,fun i H x H' => H' = H ∧ ∀ xs,SqL K H a xs → xs[i]? = some x,fun i H => ∃ xs,SqL K H a xs ∧ xs.length ≤ i⟩
noncomputable def Itr (lo : Int) (n : Nat) : It := ⟨fun i _ => i < n,fun i H x H' => H' = H ∧ x = .int (lo + i),fun i _ => n ≤ i⟩
theorem Jcy {P : Program} {w : World} {K : PySem.W.Frag} {tg : Expr} (a it : Addr) : Turn P w K tg (Itl K a) [it] it (fun i h => h.IsListIter it a i) where
 mem := by simp
 obj := fun i h st b hb => by
  have e : b = it := by simpa using hb
  subst e
  obtain ⟨o,e,c,d⟩ := st
  exact ⟨o,e,fun v z => by rw [d] at z; cases z⟩
 keep := fun i h h' st k => st.at fun o e => k it (by simp) o e
 item := by
  intro X hP hw hK hc i pins s σ H E I hf st hg
  subst hP hw hK
  obtain ⟨xs,x,hq,hx⟩ := hg
  obtain ⟨its,rv,p,hz⟩ := I.list hq
  obtain ⟨u,hu,ru⟩ := rv.get hx
  obtain ⟨f0,f1,f2,f3,f4,f5⟩ := hf it (by simp)
  refine wpAny_pyNext_list_item st p.isList (x := u) (by simpa using hu) fun h' st' sb => ?_
  have I1 : Inv X pins σ H { s with heap := h' } := I.turned (t' := s.toks) (fun b o hb e => (sb.2 b hb).trans e) f0 f1 f3 f4 f5
  obtain ⟨o,e,c,d⟩ := id st'
  exact ⟨u,rfl,JcW (s := { s with heap := h' }) e c d (by decide) ⟨x,H,I1,ru,⟨rfl,fun ys hy => by rw [I.list_inj hy hq]; exact hx⟩,st',fun b hb => (hf b hb).1⟩⟩
 done := by
  intro X hP hw hK hc i pins s σ H E I hf st hg
  subst hP hw hK
  obtain ⟨xs,hq,hx⟩ := hg
  obtain ⟨its,rv,p,hz⟩ := I.list hq
  obtain ⟨f0,f1,f2,f3,f4,f5⟩ := hf it (by simp)
  have hl := rv.length
  exact wpAny_pyNext_list_end (I.ok.hd hc) st p.isList (by simp; omega) fun h' eb => ⟨rfl,I.turned (t' := s.toks) (fun b o hb e => eb b o hb e) f0 f1 f3 f4 f5⟩
 self := fun _ _ _ _ _ st h => wpAny_pyIter_listiter st h
theorem Jb8 {P : Program} {w : World} {K : PySem.W.Frag} {tg : Expr} (it : Addr) (lo : Int) (n : Nat) : Turn P w K tg (Itr lo n) [it] it (fun i h => IsRangeIter h it (lo + (i : Nat) * 1) ((n : Int) - (i : Nat)) 1) where
 mem := by simp
 obj := fun i h st b hb => by
  have e : b = it := by simpa using hb
  subst e
  exact ⟨_,st,fun v z => by
   have z' : Data.fields _ = Data.cell v := z
   cases z'⟩
 keep := fun i h h' st k => k it (by simp) _ st
 item := by
  intro X hP hw hK hc i pins s σ H E I hf st hg
  subst hP hw hK
  obtain ⟨f0,f1,f2,f3,f4,f5⟩ := hf it (by simp)
  have W := Walks.range (prog := X.prog) (w := X.w) (I.ok.hd hc) it lo 1 n
  refine W.item i s _ _ hg st fun v h' tk hv st' kk => ?_
  obtain ⟨t,rfl⟩ := hv
  have I1 : Inv X pins σ H { s with heap := h',toks := tk } := I.turned (fun b o hb e => kk b o (by simpa using hb) e) f0 f1 f3 f4 f5
  refine ⟨_,rfl,JcW (s := { s with heap := h',toks := tk }) (n := "range_iterator") st' rfl rfl (by decide) ⟨.int (lo + i),H,I1,⟨t,?_⟩,⟨rfl,rfl⟩,st',fun b hb => (hf b hb).1⟩⟩
  rw [Int.mul_one]
 done := by
  intro X hP hw hK hc i pins s σ H E I hf st hg
  subst hP hw hK
  obtain ⟨f0,f1,f2,f3,f4,f5⟩ := hf it (by simp)
  exact wpAny_pyNext_range_end (I.ok.hd hc) st (by have : n ≤ i := hg; omega) fun h' eb => ⟨rfl,I.turned (t' := s.toks) (fun b o hb e => eb b o hb e) f0 f1 f3 f4 f5⟩
 self := fun _ _ _ _ _ st h => wpAny_pyIter_rangeiter st h
end L2
namespace L2
open PySem PySem.Spec PyProof.Rows
section
variable {X : Cx} {tg : Expr}
noncomputable def JeV (K : PySem.W.Frag) (tl : TE) : TI := fun σ H R => tl σ H fun x H1 => ∃ a,x = .ref a ∧ (∃ xs,SqL K H1 a xs) ∧ R (Itl K a) H1
theorem JeB {l : Expr} {tl : TE} (hl : PE X l tl) : PI X tg l (JeV X.K tl) := by
 intro pins s σ H R I h
 refine thn (hl pins s σ H _ I h) fun v s1 ⟨x,H1,I1,r1,q1⟩ => ?_
 obtain ⟨a,e,⟨xs,hq⟩,q⟩ := q1
 subst e
 cases r1
 obtain ⟨its,rv,p,hz⟩ := I1.list hq
 refine wpAny_pyIter_list p.isList ?_
 refine ⟨s1.heap.objs.size,[s1.heap.objs.size],_,_,H1,rfl,I1.kept (t' := s1.toks) fun b o e => Heap.get?_push_of_some _ e,Jcy a _,⟨_,Heap.get?_push_size _ rfl,rfl,rfl⟩,fun b hb => ?_,q⟩
 have e : b = s1.heap.objs.size := by simpa using hb
 subst e
 exact I1.fpOk (Nat.le_refl _) (I1.hok.fresh (Nat.le_refl _))
theorem Ja7 {pins : List (Addr × Obj)} {σ : St} {H : Hp} {s : Shared} {R : It → Hp → Prop} {E : Value → Shared → Prop} {lo hi : Int} {t u v : Tok} {tk : Nat} (I : Inv X pins σ H s) (h1 : -(2 ^ 62) ≤ lo) (h2 : lo < 2 ^ 62) (h3 : -(2 ^ 62) ≤ hi) (h4 : hi < 2 ^ 62)
  (q : R (Itr lo (hi - lo).toNat) H) : wpAny (model X.prog X.w) X.A (pyIter (.ref s.heap.objs.size)) (PIE X pins σ tg R) E { s with heap := s.heap.push { cls := .type "range",data := .fields #[.int lo t,.int hi u,.int 1 v] },toks := tk } := by
 refine wpAny_pyIter_range (IsRange.new ..) (small_one h1 h2 h3 h4) ?_
 have I1 : Inv X pins σ H { s with heap := s.heap.push { cls := .type "range",data := .fields #[.int lo t,.int hi u,.int 1 v] },toks := tk } := I.kept fun b o e => Heap.get?_push_of_some _ e
 refine ⟨(s.heap.push { cls := .type "range",data := .fields #[.int lo t,.int hi u,.int 1 v] }).objs.size,[(s.heap.push { cls := .type "range",data := .fields #[.int lo t,.int hi u,.int 1 v] }).objs.size],_,_,H,rfl,
  I1.kept (t' := tk) fun b o e => Heap.get?_push_of_some _ e,Jb8 _ lo (hi - lo).toNat,?_,fun b hb => ?_,q⟩
 ·have e1 : lo + ((0 : Nat) : Int) * 1 = lo := by simp
  have e2 : (((hi - lo).toNat : Nat) : Int) - ((0 : Nat) : Int) = Builtin.Range.rangeSize lo hi 1 := by rw [rangeSize_one]; split <;> omega
  show IsRangeIter _ _ (lo + ((0 : Nat) : Int) * 1) ((((hi - lo).toNat : Nat) : Int) - ((0 : Nat) : Int)) 1
  rw [e1,e2]
  exact Heap.get?_push_size _ rfl
 ·have e : b = (s.heap.push { cls := .type "range",data := .fields #[.int lo t,.int hi u,.int 1 v] }).objs.size := by simpa using hb
  subst e
  exact I1.fpOk (Nat.le_refl _) (I1.hok.fresh (Nat.le_refl _))
noncomputable def Jgz (ta : TA) : TI := fun σ H R => ta σ H fun vs H1 => ∃ j : Int,vs = [.int j] ∧ -(2 ^ 62) ≤ j ∧ j < 2 ^ 62 ∧ R (Itr 0 j.toNat) H1
noncomputable def Jgu (ta : TA) : TI := fun σ H R => ta σ H fun vs H1 => ∃ i j : Int,vs = [.int i,.int j] ∧ (-(2 ^ 62) ≤ i ∧ i < 2 ^ 62 ∧ -(2 ^ 62) ≤ j ∧ j < 2 ^ 62) ∧ R (Itr i (j - i).toNat) H1
theorem JW {a : Expr} {ta : TA} {p pos : Pos} (hg : Gl X "range") (hm : X.mg "range" = none) (ha : PA X [a] ta) (hs : starEach [a] X.env = [(false,eval a X.env)] := by rfl) : PI X tg (.Call (.Name "range" p) [a] [] pos) (Jgz ta) := by
 intro pins s σ H R I h
 refine Call_ (J4B I hg hm boot_range (PyProof.Rows.callWith_type1 (thn (ha pos pins s σ H _ I h) fun us s1 ⟨vs,H1,I1,r1,q1⟩ => ?_) hs rfl))
 obtain ⟨j,e,q1,q2,q⟩ := q1
 subst e
 cases r1 with
 | cons r rr =>
  cases rr
  obtain ⟨t,rfl⟩ := r
  exact call_range_1 (Ja7 I1 (by omega) (by omega) q1 q2 (by simpa using q))
theorem Jc5 {a b : Expr} {ta : TA} {p pos : Pos} (hg : Gl X "range") (hm : X.mg "range" = none) (ha : PA X [a,b] ta) (hs : starEach [a,b] X.env = [(false,eval a X.env),(false,eval b X.env)] := by rfl) (hs2 : starEach [b] X.env = [(false,eval b X.env)] := by rfl) :
  PI X tg (.Call (.Name "range" p) [a,b] [] pos) (Jgu ta) := by
 intro pins s σ H R I h
 refine Call_ (J4B I hg hm boot_range (PyProof.Rows.callWith_type1 (thn (ha pos pins s σ H _ I h) fun us s1 ⟨vs,H1,I1,r1,q1⟩ => ?_) (by rw [hs,hs2]) (by rw [hs2]; rfl)))
 obtain ⟨i,j,e,⟨q1,q2,q3,q4⟩,q⟩ := q1
 subst e
 cases r1 with
 | cons r rr =>
  cases rr with
  | cons r' rr =>
   cases rr
   obtain ⟨t,rfl⟩ := r
   obtain ⟨t',rfl⟩ := r'
   exact call_range_2 (Ja7 I1 q1 q2 q3 q4 q)
noncomputable def tFor (wi : TI) (g : TG) (tb : TS) : TS := fun D σ H => wi σ H fun J H1 => ∃ W : Nat → Nat → St → Hp → Prop,(∃ m,W 0 m σ H1) ∧ ∀ i m σ H,W i m σ H →
 (J.stop i H ∧ D.nx σ H) ∨ (J.go i H ∧ ∃ N : St → Hp → Prop,(∀ σ' H',N σ' H' → ∃ m',m' < m ∧ W (i + 1) m' σ' H') ∧ ∀ x H',J.yld i H x H' → g x σ H' fun σ2 H2 => tb { D with nx := N,ct := N,bk := D.nx } σ2 H2)
noncomputable def J5M (fp : List Addr) (h : Heap) : List (Addr × Obj) := fp.filterMap fun b => (h.get? b).map fun o => (b,o)
theorem J22 {fp : List Addr} {h : Heap} {b : Addr} {o : Obj} (hb : b ∈ fp) (e : h.get? b = some o) : (b,o) ∈ J5M fp h := List.mem_filterMap.mpr ⟨b,hb,by rw [e]; rfl⟩
theorem Jc9 {fp : List Addr} {h : Heap} {p : Addr × Obj} (hp : p ∈ J5M fp h) : p.1 ∈ fp ∧ h.get? p.1 = some p.2 := by
 obtain ⟨b,hb,e⟩ := List.mem_filterMap.mp hp
 cases q : h.get? b with
 | none => rw [q] at e; cases e
 | some o =>
  rw [q] at e
  have e' : (b,o) = p := Option.some.inj e
  subst e'
  exact ⟨hb,q⟩
theorem Inv.pinned {pins : List (Addr × Obj)} {σ : St} {H : Hp} {s : Shared} {fp : List Addr} (I : Inv X pins σ H s) (hf : ∀ b ∈ fp,FpOk X pins H b) (ho : ∀ b ∈ fp,∃ o,s.heap.get? b = some o ∧ ∀ v,o.data ≠ .cell v) : Inv X (pins ++ J5M fp s.heap) σ H s :=
 I.pins_of fun p hp => (List.mem_append.mp hp).elim (fun z => I.pin p (List.mem_append_right _ z)) fun z => by
  obtain ⟨hb,e⟩ := Jc9 z
  obtain ⟨f0,f1,f2,_⟩ := hf p.1 hb
  obtain ⟨o,e',d⟩ := ho p.1 hb
  rw [e] at e'; cases e'
  exact ⟨e,f0,f1,f2,d⟩
theorem Inv.unpinned {pins pl : List (Addr × Obj)} {σ : St} {H : Hp} {s : Shared} (I : Inv X (pins ++ pl) σ H s) : Inv X pins σ H s := I.pins_of fun p hp => I.pin p (List.mem_append_right _ (List.mem_append_left _ hp))
theorem J0l {iter : Expr} {body : List Stmt} {wi : TI} {g : TG} {tb : TS} {pos : Pos} (hp : PassesOwn (model X.prog X.w) X.A X.env X.xe) (hc : X.calm = true) (hi : PI X tg iter wi) (hg : PG X tg g) (hb : PSs X body tb)
  (hs : ∀ x,foldedSetIterable iter X.env x = pure x := by intro _; rfl) : PS X (.For tg iter body [] pos) (tFor wi g tb) := by
 intro pins s σ H D I h
 refine wpAny_For (thn (hi pins s σ H _ I h) fun v s1 h1 => thn h1 fun itv s2 h2 => ?_) hs
 obtain ⟨it,fp,tn,J,H2,e,I2,T,st2,f2,W,⟨m0,w0⟩,turn⟩ := h2
 subst e
 have stat : ∀ {H' : Hp},(∀ b ∈ fp,H' b = none) → ∀ b ∈ fp,FpOk X pins H' b := fun hn b hb => ⟨hn b hb,(f2 b hb).2⟩
 refine codeAny_forLoop_any (fun n s' => ∃ i σ' H',Inv X pins σ' H' s' ∧ tn i s'.heap ∧ (∀ b ∈ fp,H' b = none) ∧ W i n σ' H') ?_ m0 ⟨0,σ,H2,I2,st2,fun b hb => (f2 b hb).1,w0⟩
 rintro n s3 ⟨i,σ3,H3,I3,st3,fr3,w3⟩
 rcases turn i n σ3 H3 w3 with ⟨stop,qn⟩ | ⟨go,N,hN,step⟩
 ·refine wpAny_passesOwn hp (thn (T.done X rfl rfl rfl hc i pins s3 σ3 H3 X.xe I3 (stat fr3) st3 stop) fun r s4 ⟨hr,I4⟩ => ?_)
  subst hr
  exact wpAny_execs_nil ⟨σ3,H3,I4,qn⟩
 ·refine wpAny_passesOwn hp (thn (T.item X rfl rfl rfl hc i pins s3 σ3 H3 X.xe I3 (stat fr3) st3 go) fun r s4 ⟨u,hr,h4⟩ => ?_)
  subst hr
  refine wpAny_passesOwn hp (thn h4 fun _ s5 ⟨x,H5,I5,r5,y5,st5,fr5⟩ => ?_)
  have I5' := I5.pinned (stat fr5) (T.obj _ _ st5)
  refine wpAny_passesOwn hp (thn (hg _ s5 σ3 H5 x u _ I5' r5 (step x H5 y5)) fun _ s6 ⟨σ6,H6,I6,q6⟩ => ?_)
  refine wpAny_passesOwn hp (thn (hb _ s6 σ6 H6 _ I6 q6) fun f s7 q7 => ?_)
  have again : ∀ {σ7 : St} {H7 : Hp},Inv X (pins ++ J5M fp s5.heap) σ7 H7 s7 → N σ7 H7 → ∃ m,m < n ∧ ∃ i σ' H',Inv X pins σ' H' s7 ∧ tn i s7.heap ∧ (∀ b ∈ fp,H' b = none) ∧ W i m σ' H' := fun {σ7 H7} I7 n7 => by
   obtain ⟨m',hm,w7⟩ := hN σ7 H7 n7
   refine ⟨m',hm,i + 1,σ7,H7,I7.unpinned,T.keep _ _ _ st5 fun b hb o e => (I7.pin (b,o) (List.mem_append_right _ (List.mem_append_right _ (J22 hb e)))).1,fun b hb => ?_,w7⟩
   obtain ⟨o,e,d⟩ := T.obj _ _ st5 b hb
   exact (I7.pin (b,o) (List.mem_append_right _ (List.mem_append_right _ (J22 hb e)))).2.1
  cases f with
  | next => obtain ⟨σ7,H7,I7,n7⟩ := q7; exact again I7 n7
  | cont => obtain ⟨σ7,H7,I7,n7⟩ := q7; exact again I7 n7
  | brk => obtain ⟨σ7,H7,I7,q7⟩ := q7; exact ⟨σ7,H7,I7.unpinned,q7⟩
  | ret v => obtain ⟨x7,σ7,H7,I7,r7,q7⟩ := q7; exact ⟨x7,σ7,H7,I7.unpinned,r7,q7⟩
end
theorem J3y {K : PySem.W.Frag} {a : Addr} {xs : List V} {g : TG} {tb : TS} {D : Ends} {σ : St} {H : Hp} (Pv : Nat → St → Hp → Prop) (h0 : Pv 0 σ H) (hl : ∀ i σ H,i ≤ xs.length → Pv i σ H → SqL K H a xs)
  (hs : ∀ i x σ H,xs[i]? = some x → Pv i σ H → g x σ H fun σ2 H2 => tb { D with nx := Pv (i + 1),ct := Pv (i + 1),bk := D.nx } σ2 H2) (hd : ∀ σ H,Pv xs.length σ H → D.nx σ H) :
  ∃ W : Nat → Nat → St → Hp → Prop,(∃ m,W 0 m σ H) ∧ ∀ i m σ H,W i m σ H →
   ((Itl K a).stop i H ∧ D.nx σ H) ∨ ((Itl K a).go i H ∧ ∃ N : St → Hp → Prop,(∀ σ' H',N σ' H' → ∃ m',m' < m ∧ W (i + 1) m' σ' H') ∧ ∀ x H',(Itl K a).yld i H x H' → g x σ H' fun σ2 H2 => tb { D with nx := N,ct := N,bk := D.nx } σ2 H2) := by
 refine ⟨fun i m σ H => m = xs.length - i ∧ i ≤ xs.length ∧ Pv i σ H,⟨xs.length,by simp,Nat.zero_le _,h0⟩,?_⟩
 rintro i m σ H ⟨rfl,hi,p⟩
 have q := hl i σ H hi p
 by_cases hlt : i < xs.length
 ·refine .inr ⟨⟨xs,xs[i],q,by simp [hlt]⟩,Pv (i + 1),fun σ' H' p' => ⟨xs.length - (i + 1),by omega,rfl,hlt,p'⟩,fun x H' y => ?_⟩
  obtain ⟨e,y⟩ := y
  subst e
  exact hs i x σ _ (y xs q) p
 ·have e : i = xs.length := by omega
  subst e
  exact .inl ⟨⟨xs,q,Nat.le_refl _⟩,hd σ H p⟩
theorem J0I {lo : Int} {n : Nat} {g : TG} {tb : TS} {D : Ends} {σ : St} {H : Hp} (Pv : Nat → St → Hp → Prop) (h0 : Pv 0 σ H)
  (hs : ∀ i σ H,i < n → Pv i σ H → g (.int (lo + i)) σ H fun σ2 H2 => tb { D with nx := Pv (i + 1),ct := Pv (i + 1),bk := D.nx } σ2 H2) (hd : ∀ σ H,Pv n σ H → D.nx σ H) :
  ∃ W : Nat → Nat → St → Hp → Prop,(∃ m,W 0 m σ H) ∧ ∀ i m σ H,W i m σ H →
   ((Itr lo n).stop i H ∧ D.nx σ H) ∨ ((Itr lo n).go i H ∧ ∃ N : St → Hp → Prop,(∀ σ' H',N σ' H' → ∃ m',m' < m ∧ W (i + 1) m' σ' H') ∧ ∀ x H',(Itr lo n).yld i H x H' → g x σ H' fun σ2 H2 => tb { D with nx := N,ct := N,bk := D.nx } σ2 H2) := by
 refine ⟨fun i m σ H => m = n - i ∧ i ≤ n ∧ Pv i σ H,⟨n,by simp,Nat.zero_le _,h0⟩,?_⟩
 rintro i m σ H ⟨rfl,hi,p⟩
 by_cases hlt : i < n
 ·refine .inr ⟨hlt,Pv (i + 1),fun σ' H' p' => ⟨n - (i + 1),by omega,rfl,hlt,p'⟩,fun x H' y => ?_⟩
  obtain ⟨e,y⟩ := y
  subst e y
  exact hs i σ _ hlt p
 ·have e : i = n := by omega
  subst e
  exact .inl ⟨Nat.le_refl _,hd σ H p⟩
end L2
namespace L2
open PySem PySem.Spec PyProof.Rows
noncomputable abbrev R2 := V → V → Hp → VK → Prop
noncomputable def OpR (X : Cx) (f : Value → Value → Sem Value) (r : R2) : Prop :=
 ∀ (pins : List (Addr × Obj)) (s : Shared) (σ : St) (H : Hp) (x y : V) (v u : Value) (Q : VK),Inv X pins σ H s → RelV x v → RelV y u → r x y H Q →
  wpAny (model X.prog X.w) X.A (f v u) (EP X pins σ Q) X.xe s
noncomputable def UnR (X : Cx) (f : Value → Sem Value) (r : V → Hp → VK → Prop) : Prop :=
 ∀ (pins : List (Addr × Obj)) (s : Shared) (σ : St) (H : Hp) (x : V) (v : Value) (Q : VK),Inv X pins σ H s → RelV x v → r x H Q →
  wpAny (model X.prog X.w) X.A (f v) (EP X pins σ Q) X.xe s
noncomputable def J2R (X : Cx) (f : Value) (r : List V → Hp → VK → Prop) : Prop :=
 ∀ (pins : List (Addr × Obj)) (s : Shared) (σ : St) (H : Hp) (xs : List V) (us : List Value) (Q : VK),Inv X pins σ H s → Vals xs us → r xs H Q →
  wpAny (model X.prog X.w) X.A (call f us) (EP X pins σ Q) X.xe s
noncomputable def tOp (r : R2) (ta tb : TE) : TE := fun σ H Q => ta σ H fun x H1 => tb σ H1 fun y H2 => r x y H2 Q
noncomputable def tUn (r : V → Hp → VK → Prop) (ta : TE) : TE := fun σ H Q => ta σ H fun x H1 => r x H1 Q
noncomputable def rI (C : Int → Int → Prop) (g : Int → Int → V) : R2 := fun x y H Q => ∃ i j,x = .int i ∧ y = .int j ∧ C i j ∧ Q (g i j) H
noncomputable def rI0 (g : Int → Int → V) : R2 := fun x y H Q => ∃ i j,x = .int i ∧ y = .int j ∧ Q (g i j) H
noncomputable def rU (g : Int → V) : V → Hp → VK → Prop := fun x H Q => ∃ i,x = .int i ∧ Q (g i) H
section
variable {X : Cx} {a b c : Expr} {ta tb tc : TE} {pos : Pos}
theorem binT (ha : PE X a ta) (hb : PE X b tb) {pins : List (Addr × Obj)} {s : Shared} {σ : St} {H : Hp} {R : V → V → Hp → Prop} (I : Inv X pins σ H s)
  (h : ta σ H fun x H1 => tb σ H1 fun y H2 => R x y H2) {Q : Value → Shared → Prop} {f : Value → Value → Sem Value}
  (hf : ∀ v u s2 x y H2,Inv X pins σ H2 s2 → RelV x v → RelV y u → R x y H2 → wpAny (model X.prog X.w) X.A (f v u) Q X.xe s2) :
  wpAny (model X.prog X.w) X.A (eval a X.env) (fun v s₁ => wpAny (model X.prog X.w) X.A (eval b X.env) (fun u s₂ => wpAny (model X.prog X.w) X.A (f v u) Q X.xe s₂) X.xe s₁) X.xe s := by
 refine thn (ha pins s σ H _ I h) fun v s1 ⟨x,H1,I1,r1,q1⟩ => ?_
 refine thn (hb pins s1 σ H1 _ I1 q1) fun u s2 ⟨y,H2,I2,r2,q2⟩ => ?_
 exact hf v u s2 x y H2 I2 r1 r2 q2
theorem Jf {op : Operator} {r : R2} (ho : OpR X (binaryOp op) r) (ha : PE X a ta) (hb : PE X b tb) : PE X (.BinOp a op b pos) (tOp r ta tb) := by
 intro pins s σ H Q I h
 exact wpAny_BinOp (binT ha hb I h fun v u s2 x y H2 I2 rx ry q => ho pins s2 σ H2 x y v u Q I2 rx ry q)
theorem Jf1 {op : UnaryOp} {r : V → Hp → VK → Prop} (ho : UnR X (unaryOp op) r) (ha : PE X a ta) : PE X (.UnaryOp op a pos) (tUn r ta) := by
 intro pins s σ H Q I h
 exact UnaryOp_ (thn (ha pins s σ H _ I h) fun v s1 ⟨x,H1,I1,r1,q1⟩ => ho pins s1 σ H1 x v Q I1 r1 q1)
theorem opI {f : Value → Value → Sem Value} {C : Int → Int → Prop} {g : Int → Int → Int}
  (rule : ∀ (i j : Int) (t u : Tok) (s : Shared) (Q : Value → Shared → Prop) (E : Value → Shared → Prop),C i j → Q (.int (g i j) s.toks) { s with toks := s.toks + 1 } → wpAny (model X.prog X.w) X.A (f (.int i t) (.int j u)) Q E s) :
  OpR X f (rI C fun i j => .int (g i j)) := by
 intro pins s σ H x y v u Q I rx ry h
 obtain ⟨i,j,rfl,rfl,hc,q⟩ := h
 obtain ⟨t,rfl⟩ := rx
 obtain ⟨t',rfl⟩ := ry
 exact rule i j t t' s _ _ hc ⟨.int (g i j),H,I.tok _,⟨_,rfl⟩,q⟩
theorem opI0 {f : Value → Value → Sem Value} {g : Int → Int → Int}
  (rule : ∀ (i j : Int) (t u : Tok) (s : Shared) (Q : Value → Shared → Prop) (E : Value → Shared → Prop),Q (.int (g i j) s.toks) { s with toks := s.toks + 1 } → wpAny (model X.prog X.w) X.A (f (.int i t) (.int j u)) Q E s) :
  OpR X f (rI0 fun i j => .int (g i j)) := by
 intro pins s σ H x y v u Q I rx ry h
 obtain ⟨i,j,rfl,rfl,q⟩ := h
 obtain ⟨t,rfl⟩ := rx
 obtain ⟨t',rfl⟩ := ry
 exact rule i j t t' s _ _ ⟨.int (g i j),H,I.tok _,⟨_,rfl⟩,q⟩
theorem opB0 {f : Value → Value → Sem Value} {g : Int → Int → Bool}
  (rule : ∀ (i j : Int) (t u : Tok) (s : Shared) (Q : Value → Shared → Prop) (E : Value → Shared → Prop),Q (.bool (g i j)) s → wpAny (model X.prog X.w) X.A (f (.int i t) (.int j u)) Q E s) :
  OpR X f (rI0 fun i j => .bl (g i j)) := by
 intro pins s σ H x y v u Q I rx ry h
 obtain ⟨i,j,rfl,rfl,q⟩ := h
 obtain ⟨t,rfl⟩ := rx
 obtain ⟨t',rfl⟩ := ry
 exact rule i j t t' s _ _ ⟨.bl (g i j),H,I,rfl,q⟩
noncomputable def CDiv (i j : Int) : Prop := 0 < j ∧ j < 1073741824
noncomputable def CPow (i j : Int) : Prop := 0 ≤ j ∧ j ≤ 1000000 ∧ i.natAbs < 2 ^ 64
noncomputable def CMul (i j : Int) : Prop := (-(2 ^ 64) < i ∧ i < 2 ^ 64) ∨ (-(2 ^ 64) < j ∧ j < 2 ^ 64)
theorem CMul.ok {i j : Int} (h : CMul i j) : IntMulOk i j := by
 rcases h with ⟨h1,h2⟩ | ⟨h1,h2⟩
 ·exact .of_left (intBits_le_64 h1 h2)
 ·exact .of_right (intBits_le_64 h1 h2)
theorem Jbe (k : Nat) : (0 : Int) ≤ 2 ^ k := by
 rw [two_pow_cast]
 exact Int.natCast_nonneg _
theorem JL : OpR X (binaryOp .Add) (rI0 fun i j => .int (i + j)) := opI0 fun _ _ _ _ _ _ _ q => add_int q
theorem J3r : OpR X (binaryOp .Sub) (rI0 fun i j => .int (i - j)) := opI0 fun _ _ _ _ _ _ _ q => sub_int q
theorem J2y : OpR X (binaryOp .Mult) (rI CMul fun i j => .int (i * j)) := opI fun _ _ _ _ _ _ _ hc q => mul_int q hc.ok
theorem JQ : OpR X (binaryOp .FloorDiv) (rI CDiv fun i j => .int (i / j)) := opI fun i j _ _ _ _ _ hc q => by
 have h1 : (0 : Int) < j := hc.1
 have h2 : j < 1073741824 := hc.2
 exact floordiv_int (by omega) (by rw [Int.fdiv_eq_ediv_of_nonneg i (by omega)]; exact q) (.inl (PyProof.noPylong_small (by omega)))
theorem JF : OpR X (binaryOp .Mod) (rI (fun _ j => 0 < j) fun i j => .int (i % j)) := opI fun i j _ _ _ _ _ hc q => by
 have h1 : (0 : Int) < j := hc
 exact mod_int' (by omega) (by rw [Int.fmod_eq_emod_of_nonneg i (by omega)]; exact q)
theorem Jd0 : OpR X (binaryOp .Pow) (rI CPow fun i j => .int (i ^ j.toNat)) := opI fun _ _ _ _ _ _ _ hc q => pow_int_small hc.1 hc.2.1 hc.2.2 q
theorem J9i : OpR X (binaryOp .RShift) (rI (fun _ j => 0 ≤ j) fun i j => .int (i / 2 ^ j.toNat)) := opI fun i j _ _ _ _ _ hc q =>
 rshift_int hc (by rw [Int.fdiv_eq_ediv_of_nonneg i (Jbe _)]; exact q)
theorem J8M : OpR X (binaryOp .BitAnd) (rI0 fun i j => .int (Builtin.bitAnd i j)) := opI0 fun _ _ _ _ _ _ _ q => and_int q
theorem unI {f : Value → Sem Value} {g : Int → Int}
  (rule : ∀ (i : Int) (t : Tok) (s : Shared) (Q : Value → Shared → Prop) (E : Value → Shared → Prop),Q (.int (g i) s.toks) { s with toks := s.toks + 1 } → wpAny (model X.prog X.w) X.A (f (.int i t)) Q E s) :
  UnR X f (rU fun i => .int (g i)) := by
 intro pins s σ H x v Q I rx h
 obtain ⟨i,rfl,q⟩ := h
 obtain ⟨t,rfl⟩ := rx
 exact rule i t s _ _ ⟨.int (g i),H,I.tok _,⟨_,rfl⟩,q⟩
theorem JdA : UnR X (unaryOp .USub) (rU fun i => .int (-i)) := unI fun _ _ _ _ _ q => neg_int q
end
noncomputable def scal : V → V → Bool
 | .non,.non => true | .non,.int _ => true | .int _,.non => true | .non,.bl _ => true | .bl _,.non => true | .non,.str _ => true | .str _,.non => true
 | .int _,.int _ => true | .bl _,.bl _ => true | .str _,.str _ => true | .byt _,.byt _ => true
 | .int _,.str _ => true | .str _,.int _ => true | .bl _,.str _ => true | .str _,.bl _ => true
 | _,_ => false
noncomputable def rEq : R2 := fun x y H Q => scal x y = true ∧ Q (.bl (decide (x = y))) H
noncomputable def rNe : R2 := fun x y H Q => scal x y = true ∧ Q (.bl (!decide (x = y))) H
theorem JbR {i j : Int} : decide (V.int i = V.int j) = (i == j) := by
 rw [Bool.eq_iff_iff]
 simp
theorem JdI {i j : Bool} : decide (V.bl i = V.bl j) = (i == j) := by
 rw [Bool.eq_iff_iff]
 simp
theorem JbN {i j : Str} : decide (V.str i = V.str j) = (i == j) := by
 rw [Bool.eq_iff_iff]
 simp
theorem JbF {i j : Array UInt8} : decide (V.byt i = V.byt j) = (i.toList == j.toList) := by
 rw [Bool.eq_iff_iff]
 cases i
 cases j
 simp
section
variable {X : Cx} {a b c : Expr} {ta tb tc : TE} {pos : Pos}
theorem JT {pins : List (Addr × Obj)} {σ : St} {H : Hp} {s : Shared} {Q : VK} {k k' : Bool} (I : Inv X pins σ H s) (q : Q (.bl k) H) (e : k = k') : EP X pins σ Q (.bool k') s := by
 subst e
 exact ⟨.bl k,H,I,rfl,q⟩
theorem J0f : OpR X (compareOp .Eq) rEq := by
 intro pins s σ H x y v u Q I rx ry h
 obtain ⟨hs,q⟩ := h
 cases x with
 | non =>
  cases rx
  cases y with
  | non => cases ry; exact PySem.EqNone.eq_none_none (JT I q (by simp))
  | bl j => cases ry; exact PySem.EqNone.eq_none_bool (JT I q (by simp))
  | int j => obtain ⟨t',rfl⟩ := ry; exact PySem.EqNone.eq_none_int (JT I q (by simp))
  | str j => obtain ⟨t',rfl⟩ := ry; exact PySem.EqNone.eq_none_str (JT I q (by simp))
  | _ => exact absurd (show false = true from hs) Bool.false_ne_true
 | bl i =>
  cases rx
  cases y with
  | non => cases ry; exact PySem.EqNone.eq_bool_none (JT I q (by simp))
  | bl j => cases ry; exact eq_bool (JT I q JdI)
  | str j => obtain ⟨t',rfl⟩ := ry; exact PySem.EqMixed.eq_bool_str (JT I q (by simp))
  | _ => exact absurd (show false = true from hs) Bool.false_ne_true
 | int i =>
  obtain ⟨t,rfl⟩ := rx
  cases y with
  | non => cases ry; exact PySem.EqNone.eq_int_none (JT I q (by simp))
  | int j => obtain ⟨t',rfl⟩ := ry; exact eq_int (JT I q JbR)
  | str j => obtain ⟨t',rfl⟩ := ry; exact PySem.EqMixed.eq_int_str (JT I q (by simp))
  | _ => exact absurd (show false = true from hs) Bool.false_ne_true
 | str i =>
  obtain ⟨t,rfl⟩ := rx
  cases y with
  | non => cases ry; exact PySem.EqNone.eq_str_none (JT I q (by simp))
  | bl j => cases ry; exact PySem.EqMixed.eq_str_bool (JT I q (by simp))
  | int j => obtain ⟨t',rfl⟩ := ry; exact PySem.EqMixed.eq_str_int (JT I q (by simp))
  | str j => obtain ⟨t',rfl⟩ := ry; exact eq_str (JT I q JbN)
  | _ => exact absurd (show false = true from hs) Bool.false_ne_true
 | byt i =>
  obtain ⟨t,rfl⟩ := rx
  cases y with
  | byt j => obtain ⟨t',rfl⟩ := ry; exact PySem.W.eq_bytes (JT I q JbF)
  | _ => exact absurd (show false = true from hs) Bool.false_ne_true
 | _ => cases y <;> exact absurd (show false = true from hs) Bool.false_ne_true
theorem J34 : OpR X (compareOp .NotEq) rNe := by
 intro pins s σ H x y v u Q I rx ry h
 obtain ⟨hs,q⟩ := h
 cases x with
 | non =>
  cases rx
  cases y with
  | non => cases ry; exact PySem.EqNone.ne_none_none (JT I q (by simp))
  | bl j => cases ry; exact PySem.EqNone.ne_none_bool (JT I q (by simp))
  | int j => obtain ⟨t',rfl⟩ := ry; exact PySem.EqNone.ne_none_int (JT I q (by simp))
  | str j => obtain ⟨t',rfl⟩ := ry; exact PySem.EqNone.ne_none_str (JT I q (by simp))
  | _ => exact absurd (show false = true from hs) Bool.false_ne_true
 | bl i =>
  cases rx
  cases y with
  | non => cases ry; exact PySem.EqNone.ne_bool_none (JT I q (by simp))
  | bl j => cases ry; exact ne_bool (JT I q (congrArg not JdI))
  | str j => obtain ⟨t',rfl⟩ := ry; exact PySem.EqMixed.ne_bool_str (JT I q (by simp))
  | _ => exact absurd (show false = true from hs) Bool.false_ne_true
 | int i =>
  obtain ⟨t,rfl⟩ := rx
  cases y with
  | non => cases ry; exact PySem.EqNone.ne_int_none (JT I q (by simp))
  | int j => obtain ⟨t',rfl⟩ := ry; exact ne_int (JT I q (congrArg not JbR))
  | str j => obtain ⟨t',rfl⟩ := ry; exact PySem.EqMixed.ne_int_str (JT I q (by simp))
  | _ => exact absurd (show false = true from hs) Bool.false_ne_true
 | str i =>
  obtain ⟨t,rfl⟩ := rx
  cases y with
  | non => cases ry; exact PySem.EqNone.ne_str_none (JT I q (by simp))
  | bl j => cases ry; exact PySem.EqMixed.ne_str_bool (JT I q (by simp))
  | int j => obtain ⟨t',rfl⟩ := ry; exact PySem.EqMixed.ne_str_int (JT I q (by simp))
  | str j => obtain ⟨t',rfl⟩ := ry; exact ne_str (JT I q (congrArg not JbN))
  | _ => exact absurd (show false = true from hs) Bool.false_ne_true
 | byt i =>
  obtain ⟨t,rfl⟩ := rx
  cases y with
  | byt j => obtain ⟨t',rfl⟩ := ry; exact PySem.W.ne_bytes (JT I q (congrArg not JbF))
  | _ => exact absurd (show false = true from hs) Bool.false_ne_true
 | _ => cases y <;> exact absurd (show false = true from hs) Bool.false_ne_true
theorem Jal : OpR X (compareOp .Lt) (rI0 fun i j => .bl (decide (i < j))) := opB0 fun _ _ _ _ _ _ _ q => lt_int q
theorem J7e : OpR X (compareOp .Gt) (rI0 fun i j => .bl (decide (j < i))) := opB0 fun _ _ _ _ _ _ _ q => gt_int q
theorem JbK : OpR X (compareOp .GtE) (rI0 fun i j => .bl (decide (j ≤ i))) := opB0 fun _ _ _ _ _ _ _ q => ge_int q
theorem Jcc : OpR X (compareOp .In) (fun x y H Q => ∃ i j,x = .str i ∧ y = .str j ∧ Q (.bl (!(Builtin.Str.occurrences j i 0 j.length 1).isEmpty)) H) := by
 intro pins s σ H x y v u Q I rx ry h
 obtain ⟨i,j,rfl,rfl,q⟩ := h
 obtain ⟨t,rfl⟩ := rx
 obtain ⟨t',rfl⟩ := ry
 exact in_str (JT I q rfl)
theorem J8S : OpR X (compareOp .NotIn) (fun x y H Q => ∃ i j,x = .str i ∧ y = .str j ∧ Q (.bl (!(!(Builtin.Str.occurrences j i 0 j.length 1).isEmpty))) H) := by
 intro pins s σ H x y v u Q I rx ry h
 obtain ⟨i,j,rfl,rfl,q⟩ := h
 obtain ⟨t,rfl⟩ := rx
 obtain ⟨t',rfl⟩ := ry
 exact notIn_str (JT I q rfl)
theorem Jq (b : Expr) {op : CmpOp} (h : op ≠ .In := by decide) (h2 : op ≠ .NotIn := by decide) : behindInMarks op b = false := by
 have e1 : (op == CmpOp.In) = false := by cases op <;> first | rfl | exact absurd rfl h
 have e2 : (op == CmpOp.NotIn) = false := by cases op <;> first | rfl | exact absurd rfl h2
 cases b <;> simp [behindInMarks,e1,e2]
theorem J2m {op : CmpOp} {r : R2} (ho : OpR X (compareOp op) r) (ha : PE X a ta) (hb : PE X b tb) (hm : behindInMarks op b = false) : PE X (.Compare a [op] [b] pos) (tOp r ta tb) := by
 intro pins s σ H Q I h
 exact wpAny_Compare1 (binT ha hb I h fun v u s2 x y H2 I2 rx ry q => ho pins s2 σ H2 x y v u Q I2 rx ry q) hm
noncomputable def Jge (t : TE) : TT := fun σ H Q => t σ H fun x H' => ∃ k,x = .bl k ∧ Q k H'
theorem Jl {op : CmpOp} {r : R2} (ho : OpR X (compareOp op) r) (ha : PE X a ta) (hb : PE X b tb) (hm : behindInMarks op b = false) : PT X (.Compare a [op] [b] pos) (Jge (tOp r ta tb)) := by
 intro pins s σ H Q I h
 refine wpAny_isTrue_Compare1 (thn (ha pins s σ H _ I h) fun v s1 ⟨x,H1,I1,r1,q1⟩ => thn (hb pins s1 σ H1 _ I1 q1) fun u s2 ⟨y,H2,I2,r2,q2⟩ =>
  thn (ho pins s2 σ H2 x y v u _ I2 r1 r2 q2) fun c s3 ⟨z,H3,I3,r3,k,e,q3⟩ => ?_) hm
 subst e
 cases r3
 exact wpAny_truthy_bool ⟨H3,I3,q3⟩
theorem J6Y : (sizeLine : Nat) < 2 ^ 63 := by rw [sizeLine_eq]; decide
theorem Jbl : OpR X (binaryOp .Add) (fun x y H Q => ∃ i j,x = .str i ∧ y = .str j ∧ i.length + j.length ≤ sizeLine ∧ Q (.str (i ++ j)) H) := by
 intro pins s σ H x y v u Q I rx ry h
 obtain ⟨i,j,rfl,rfl,hz,q⟩ := h
 obtain ⟨t,rfl⟩ := rx
 obtain ⟨t',rfl⟩ := ry
 exact add_str (fun t' tk => ⟨.str (i ++ j),H,I.tok _,⟨_,rfl⟩,q⟩) hz
theorem Jad {x : V} {us : List Value} (r : Vals [x] us) : ∃ u,us = [u] ∧ RelV x u := by
 cases r with
 | cons r1 r2 => cases r2; exact ⟨_,rfl,r1⟩
theorem Jf3 {x y : V} {us : List Value} (r : Vals [x,y] us) : ∃ u w',us = [u,w'] ∧ RelV x u ∧ RelV y w' := by
 cases r with
 | cons r1 r2 =>
  cases r2 with
  | cons r3 r4 => cases r4; exact ⟨_,_,rfl,r1,r3⟩
theorem Jcj (hc : X.calm = true) : J2R X (.builtin "max") (fun xs H Q => ∃ i j,xs = [.int i,.int j] ∧ Q (.int (if j > i then j else i)) H) := by
 intro pins s σ H xs us Q I r h
 obtain ⟨i,j,rfl,q⟩ := h
 obtain ⟨u,w',rfl,⟨t,rfl⟩,⟨t',rfl⟩⟩ := Jf3 r
 refine max_two_ints (I.ok.hd hc) fun h' tk k => ⟨_,H,I.kept k,?_,q⟩
 by_cases hj : j > i
 ·rw [if_pos hj,if_pos hj]; exact ⟨_,rfl⟩
 ·rw [if_neg hj,if_neg hj]; exact ⟨_,rfl⟩
theorem Jcz (hc : X.calm = true) : J2R X (.builtin "min") (fun xs H Q => ∃ i j,xs = [.int i,.int j] ∧ Q (.int (if j < i then j else i)) H) := by
 intro pins s σ H xs us Q I r h
 obtain ⟨i,j,rfl,q⟩ := h
 obtain ⟨u,w',rfl,⟨t,rfl⟩,⟨t',rfl⟩⟩ := Jf3 r
 refine min_two_ints (I.ok.hd hc) fun h' tk k => ⟨_,H,I.kept k,?_,q⟩
 by_cases hj : j < i
 ·rw [if_pos hj,if_pos hj]; exact ⟨_,rfl⟩
 ·rw [if_neg hj,if_neg hj]; exact ⟨_,rfl⟩
end
end L2
namespace L2
open PySem PySem.Spec PyProof.Rows
structure ObjM (h : Heap) (x dx C : Addr) (mA : Str → Option Value) : Prop where
 obj : h.get? x = some (PySem.W.instObj C dx)
 ns : h.Ns1 dx mA
 ne : dx ≠ x
theorem Jc0 {h : Heap} {dx : Addr} {mA : Str → Option Value} (n : h.Ns1 dx mA) : ∃ od,h.get? dx = some od ∧ ∀ name,PySem.W.lookIn name od = some (mA name) := by
 obtain ⟨o,es,ep,ho,hd,hk,_,hm⟩ := n
 refine ⟨o,ho,fun name => ?_⟩
 have e := hm name
 unfold nsFind findBy at e
 rw [← Array.find?_toList] at e
 unfold PySem.W.lookIn
 rw [hd]
 dsimp only
 split
 ·rename_i y q
  rw [q] at e
  exact congrArg some e
 ·rename_i q
  rw [q] at e
  have a : es.toList.any (·.refKey) = false := by
   rw [List.any_eq_false]
   intro y hy
   obtain ⟨z,t,hkey⟩ := hk y (Array.mem_toList_iff.mp hy)
   simp [DictEntry.refKey,hkey]
  have a' : ¬ es.toList.any (·.refKey) = true := by rw [a]; exact Bool.false_ne_true
  rw [if_neg a']
  exact congrArg some e
theorem ObjM.look {h : Heap} {x dx C : Addr} {mA : Str → Option Value} (I : ObjM h x dx C mA) : ∃ od,PySem.W.InstAt h x (PySem.W.instObj C dx) C (some od) ∧ ∀ name,PySem.W.lookIn name od = some (mA name) :=
 let ⟨od,ho,hl⟩ := Jc0 I.ns
 ⟨od,⟨I.obj,rfl,rfl,ho⟩,hl⟩
section
variable {prog : Program} {w : World} {A : Around} {E : Value → Shared → Prop} {s : Shared} {K : PySem.W.Frag} {x dx C f : Addr} {mA : Str → Option Value} {name : Str} {v : Value}
theorem JeE {expr : Bool} {Q : Value → Shared → Prop} (X : K.In s.heap) (I : ObjM s.heap x dx C mA) (hg : PySem.W.plainGet K C name = true) (hh : PySem.W.hasDictIn K C = true)
  (ha : PySem.W.findIn K (.ref C) name = some none) (hv : mA name = some v) (hv' : PySem.W.handedIn v = true) (h : Q v { s with toks := s.toks + 1 }) :
  wpAny (model prog w) A (getAttr (.ref x) name expr) Q E s := by
 obtain ⟨od,J,hl⟩ := I.look
 exact PySem.W.get_value X J (PySem.W.plainGet_of hg).1 (PySem.W.findObj_own hh ha rfl (by rw [hl,hv])) hv' h
theorem Jd8 {pl : Sem Bool} {Q : Value × List Value → Shared → Prop} (X : K.In s.heap) (I : ObjM s.heap x dx C mA) (hg : PySem.W.plainGet K C name = true)
  (hf : PySem.W.findIn K (.ref C) name = some (some (.ref f))) (ht : PySem.W.isFn K (.ref f) = true) (hv : mA name = none) (h : Q (.ref f,[.ref x]) s) :
  wpAny (model prog w) A (getMethod (.ref x) name pl) Q E s := by
 obtain ⟨od,J,hl⟩ := I.look
 exact PySem.W.method_fn X J (PySem.W.plainGet_of hg).1 (PySem.W.plainGet_of hg).2 hf (beq_iff_eq.mp ht) (by show (PySem.W.lookIn name od).map (·.isSome) = some false; rw [hl,hv]; rfl) h
theorem JeC {ns : List Str} {Q : Unit → Shared → Prop} (X : K.In s.heap) (I : ObjM s.heap x dx C mA)
  (hs : PySem.W.findIn K (.ref C) "__setattr__" = some (some (.builtin "object.__setattr__"))) (hp : PySem.W.plainOver K C = true) (ht : PySem.W.takerIn K C name = some none) (hh : PySem.W.hasDictIn K C = true)
  (hw : PySem.Within mA ns) (hsz : ns.length ≤ sizeLine)
  (h : ∀ h',ObjM h' x dx C (fun y => if y = name then some v else mA y) → Heap.SameBut dx s.heap h' → Q () { s with heap := h',toks := s.toks + 2 }) :
  wpAny (model prog w) A (setAttr (.ref x) name v) Q E s := by
 obtain ⟨od,J,hl⟩ := I.look
 refine PySem.W.set_plain X J hs (PySem.W.osa_open (s := { s with toks := s.toks + 1 }) (r := none) X J hp ht fun b => ?_)
 obtain ⟨cd,hc,hd'⟩ := PySem.W.any_some hh
 have hx : s.heap.get? x = some ⟨.ref C,some dx,.plain,#[]⟩ := I.obj
 refine wpAny_bind (wpAny_pure (wpAny_bind (wpAny_bind (wpAny_loadPart hx (wpAny_bind (PySem.W.Looks.here (s := { s with toks := s.toks + 1 }) (PySem.W.looks_clsIn X hc) ?_))))))
 rw [hd']
 refine wpAny_pure (a := some dx) (wpAny_bind (wpAny_pure (wpAny_bind ?_)))
 refine wpAny_nsSet1 (s := { s with toks := s.toks + 1 }) I.ns fun h' hn2 hs2 => ?_
 obtain ⟨oD,esD,epD,hoD,hdD,hcD⟩ := hn2.count (PySem.Within.cons name v hw)
 refine wpAny_bind (wpAny_lookBehind hoD (by rw [hdD]; exact pastItsLine_dict (Nat.le_trans hcD (by rw [List.length_cons]; omega))) ?_)
 exact wpAny_pure (h _ ⟨(hs2.2 _ (Ne.symm I.ne)).trans I.obj,hn2,I.ne⟩ hs2)
theorem Jdi {R : Result → Shared → Prop} {vs : List Value} {kw : List (Str × Value)} (X : K.In s.heap) (hm : PySem.W.makesIn K C = true)
  (hi : PySem.W.findIn K (.ref C) "__init__" = some (some (.ref f))) (hf : PySem.W.typeIn K (.ref f) = some (.type "function"))
  (h : codeAny (model prog w) (A.under (.builtin "type.__call__" ⟨.ref C :: vs,kw⟩)) (.call (.ref f) ⟨.ref (s.heap.objs.size + 1) :: vs,kw⟩) (PySem.W.InitBack (s.heap.objs.size + 1) R)
   {s with heap := (s.heap.push PySem.W.emptyDict).push (PySem.W.instObj C s.heap.objs.size) }) :
  codeAny (model prog w) A (.call (.ref C) ⟨vs,kw⟩) R s := by
 obtain ⟨hh,g,d,t,os⟩ := s
 exact PySem.W.make_core (PySem.W.makes_of X hm) (PySem.W.looks_findIn X hi) (fun self => PySem.W.bind_fn X self hf) (.inl rfl) h
end
noncomputable def putF (f : Str) (v : V) : List (Str × V) → List (Str × V)
 | [] => [(f,v)]
 | (g,x) :: r => if g = f then (g,v) :: r else (g,x) :: putF f v r
theorem J5U (f g : Str) (v : V) : ∀ fs : List (Str × V),(putF f v fs).lookup g = if g = f then some v else fs.lookup g
 | [] => by
  show List.lookup g [(f,v)] = _
  by_cases h : g = f
  ·have hb : (g == f) = true := beq_iff_eq.mpr h
   simp only [List.lookup,hb,if_pos h]
  ·have hb : (g == f) = false := beq_eq_false_iff_ne.mpr h
   simp only [List.lookup,hb,if_neg h]
 | (k,x) :: r => by
  have ih := J5U f g v r
  rw [show putF f v ((k,x) :: r) = (if k = f then (k,v) :: r else (k,x) :: putF f v r) from rfl]
  by_cases hk : k = f
  ·rw [if_pos hk]
   by_cases h : g = k
   ·have hb : (g == k) = true := beq_iff_eq.mpr h
    simp only [List.lookup,hb,if_pos (h.trans hk)]
   ·have hb : (g == k) = false := beq_eq_false_iff_ne.mpr h
    simp only [List.lookup,hb,if_neg (fun e : g = f => h (e.trans hk.symm))]
  ·rw [if_neg hk]
   by_cases h : g = k
   ·have hb : (g == k) = true := beq_iff_eq.mpr h
    simp only [List.lookup,hb,if_neg (fun e : g = f => hk (h.symm.trans e))]
   ·have hb : (g == k) = false := beq_eq_false_iff_ne.mpr h
    simp only [List.lookup,hb]
    exact ih
theorem J5I (f : Str) (v : V) : ∀ fs : List (Str × V),f ∈ (putF f v fs).map (·.1) ∧ ∀ g,g ∈ fs.map (·.1) → g ∈ (putF f v fs).map (·.1)
 | [] => ⟨by simp [putF],fun g h => by simp at h⟩
 | (k,x) :: r => by
  obtain ⟨i1,i2⟩ := J5I f v r
  rw [show putF f v ((k,x) :: r) = (if k = f then (k,v) :: r else (k,x) :: putF f v r) from rfl]
  by_cases hk : k = f
  ·rw [if_pos hk]
   subst hk
   exact ⟨by simp,fun g h => by simpa using h⟩
  ·rw [if_neg hk]
   refine ⟨?_,fun g h => ?_⟩
   ·rw [List.map_cons]
    exact List.mem_cons_of_mem _ i1
   ·rw [List.map_cons] at h ⊢
    rcases List.mem_cons.mp h with e | e
    ·exact List.mem_cons.mpr (.inl e)
    ·exact List.mem_cons_of_mem _ (i2 g e)
theorem J2d (f : Str) (v : V) : ∀ fs : List (Str × V),(putF f v fs).length ≤ fs.length + 1
 | [] => by simp [putF]
 | (k,x) :: r => by
  have ih := J2d f v r
  rw [show putF f v ((k,x) :: r) = (if k = f then (k,v) :: r else (k,x) :: putF f v r) from rfl]
  by_cases hk : k = f
  ·rw [if_pos hk,List.length_cons,List.length_cons]; omega
  ·rw [if_neg hk,List.length_cons,List.length_cons]; omega
theorem RelO.some_of {v : V} {o : Option Value} (r : RelO (some v) o) : ∃ u,o = some u ∧ RelV v u := by
 cases o with
 | none => exact (show False from r).elim
 | some u => exact ⟨u,rfl,r⟩
theorem RelO.none_of {o : Option Value} (r : RelO none o) : o = none := by
 cases o with
 | none => rfl
 | some u => exact (show False from r).elim
theorem Jc6 {v : V} {u : Value} (r : RelV v u) : PySem.W.handedIn u = true := by
 cases v with
 | non => cases (show u = Value.none from r); rfl
 | bl b => cases (show u = Value.bool b from r); rfl
 | int i => obtain ⟨t,e⟩ := (show ∃ t,u = Value.int i t from r); cases e; rfl
 | str x => obtain ⟨t,e⟩ := (show ∃ t,u = Value.str x t from r); cases e; rfl
 | byt b => obtain ⟨t,e⟩ := (show ∃ t,u = Value.bytes b t from r); cases e; rfl
 | flt b => obtain ⟨t,e⟩ := (show ∃ t,u = Value.float b t from r); cases e; rfl
 | ref a => cases (show u = Value.ref a from r); rfl
 | ty n => cases (show u = Value.type n from r); rfl
section
variable {P : Program} {w : World} {H H' : Hp} {h h' : Heap} {a C dx : Addr} {fs fs' : List (Str × V)}
theorem J6k (hok : HOk P w H h) (e : H a = some (.ins C dx fs)) : ∃ mA,ObjM h a dx C mA ∧ (∀ f,RelO (fs.lookup f) (mA f)) ∧ PySem.Within mA (fs.map (·.1)) ∧ fs.length ≤ 1000 ∧ H dx = some (.own a) := by
 obtain ⟨d,z,ne,ob,mA,n,r,q⟩ := (show J0Z P w H h a (.ins C dx fs) from hok a _ e)
 exact ⟨mA,⟨ob,n,ne⟩,r,q,z,d⟩
end
structure Cls (K : PySem.W.Frag) (C : Addr) : Prop where
 pg : PySem.W.plainGet K C Str.empty = true
 hd : PySem.W.hasDictIn K C = true
 po : PySem.W.plainOver K C = true
 sa : PySem.W.findIn K (.ref C) "__setattr__" = some (some (.builtin "object.__setattr__"))
theorem Cls.get {K : PySem.W.Frag} {C : Addr} (c : Cls K C) (f : Str) : PySem.W.plainGet K C f = true := c.pg
noncomputable def JV (K : PySem.W.Frag) (C : Addr) (f : Str) : Prop := PySem.W.findIn K (.ref C) f = some none
theorem JV.taker {K : PySem.W.Frag} {C : Addr} {f : Str} (n : JV K C f) : PySem.W.takerIn K C f = some none := by
 unfold PySem.W.takerIn
 rw [show PySem.W.findIn K (.ref C) f = some none from n]
 rfl
structure Meth (K : PySem.W.Frag) (C : Addr) (m : Str) (f : Addr) : Prop where
 at_ : PySem.W.findIn K (.ref C) m = some (some (.ref f))
 fn : PySem.W.isFn K (.ref f) = true
 kp : PySem.W.keepIn K (.ref f) = true
section
variable {X : Cx} {pins : List (Addr × Obj)} {σ : St} {H : Hp} {s : Shared} {a C dx : Addr} {fs : List (Str × V)} {f : Str} {v : V} {A : Around} {E : Value → Shared → Prop}
theorem Jbo {b : Bool} {Q : Value → Shared → Prop} (I : Inv X pins σ H s) (e : H a = some (.ins C dx fs)) (c : Cls X.K C) (n : JV X.K C f) (l : fs.lookup f = some v)
  (h : ∀ u s',Inv X pins σ H s' → RelV v u → Q u s') : wpAny (model X.prog X.w) A (getAttr (.ref a) f b) Q E s := by
 obtain ⟨mA,O,r,_,_,_⟩ := J6k I.hok e
 obtain ⟨u,hu,ru⟩ := RelO.some_of (v := v) (o := mA f) (by rw [← l]; exact r f)
 exact JeE I.kIn O (c.get f) c.hd n hu (Jc6 ru) (h u _ (I.tok _) ru)
theorem J4y {m : Str} {g : Addr} {pl : Sem Bool} {Q : Value × List Value → Shared → Prop} (I : Inv X pins σ H s) (e : H a = some (.ins C dx fs)) (c : Cls X.K C) (k : Meth X.K C m g) (l : fs.lookup m = none)
  (h : Q (.ref g,[.ref a]) s) : wpAny (model X.prog X.w) A (getMethod (.ref a) m pl) Q E s := by
 obtain ⟨mA,O,r,_,_,_⟩ := J6k I.hok e
 have hn : mA m = none := RelO.none_of (by rw [← l]; exact r m)
 exact Jd8 I.kIn O (c.get m) k.at_ k.fn hn h
theorem Jbc {y : V} {u : Value} {Q : Unit → Shared → Prop} (I : Inv X pins σ H s) (e : H a = some (.ins C dx fs)) (c : Cls X.K C) (n : JV X.K C f) (hl : fs.length < 1000) (ry : RelV y u)
  (h : ∀ s',Inv X pins σ (upd H a (.ins C dx (putF f y fs))) s' → Q () s') : wpAny (model X.prog X.w) A (setAttr (.ref a) f u) Q E s := by
 obtain ⟨mA,O,r,wi,_,ho⟩ := J6k I.hok e
 have hz : (fs.map (·.1)).length ≤ sizeLine := by rw [List.length_map,sizeLine_eq]; omega
 refine JeC I.kIn O c.sa c.po n.taker c.hd wi hz fun h' O' sb => h _ ?_
 have hd : ∃ o,h'.get? dx = some o := let ⟨o,_,_,e',_⟩ := O'.ns; ⟨o,e'⟩
 refine I.write (x := a) (e := dx) (by rw [e]; exact True.intro) (.inr ho) (fun b q hb z => (sb.2 b hb).trans z) hd ?_
 refine ⟨by rw [Ji O.ne]; exact ho,?_,O.ne,O'.obj,_,O'.ns,fun g => ?_,fun g hg => ?_⟩
 ·have := J2d f y fs; omega
 ·show RelO ((putF f y fs).lookup g) (if g = f then some u else mA g)
  rw [J5U]
  by_cases q : g = f
  ·rw [if_pos q,if_pos q]; exact ry
  ·rw [if_neg q,if_neg q]; exact r g
 ·by_cases q : g = f
  ·rw [q]; exact (J5I f y fs).1
  ·refine (J5I f y fs).2 g (wi g fun z => hg ?_)
   show (if g = f then some u else mA g) = none
   rw [if_neg q]; exact z
theorem Inv.made (I : Inv X pins σ H s) : Inv X pins σ (upd (upd H s.heap.objs.size (.own (s.heap.objs.size + 1))) (s.heap.objs.size + 1) (.ins C s.heap.objs.size []))
  {s with heap := (s.heap.push PySem.W.emptyDict).push (PySem.W.instObj C s.heap.objs.size) } := by
 have e1 : (s.heap.push PySem.W.emptyDict).get? s.heap.objs.size = some PySem.W.emptyDict := Heap.get?_push_size s.heap rfl
 have e2 : ((s.heap.push PySem.W.emptyDict).push (PySem.W.instObj C s.heap.objs.size)).get? (s.heap.objs.size + 1) = some (PySem.W.instObj C s.heap.objs.size) := by
  have := Heap.get?_push_size (s.heap.push PySem.W.emptyDict) (o := PySem.W.instObj C s.heap.objs.size) rfl
  rwa [Heap.size_push] at this
 have e3 : (s.heap.push PySem.W.emptyDict).Ns s.heap.objs.size (fun _ => none) := ⟨PySem.W.emptyDict,#[],_,e1,rfl,(fun e he => absurd he (by simp)),fun _ => rfl⟩
 have I1 := I.laid (a := s.heap.objs.size) (o := .own (s.heap.objs.size + 1)) (h' := s.heap.push PySem.W.emptyDict) (t' := s.toks) (fun b u q => Heap.get?_push_of_some _ q) (Nat.le_refl _) ⟨_,e1⟩
 refine I1.laid (a := s.heap.objs.size + 1) (o := .ins C s.heap.objs.size []) (t' := s.toks) (fun b u q => Heap.get?_push_of_some _ q) (Nat.le_of_eq (Heap.size_push _ _)) ?_
 have ne : s.heap.objs.size ≠ s.heap.objs.size + 1 := Nat.ne_of_lt (Nat.lt_succ_self _)
 refine ⟨by rw [Ji ne,J9],Nat.zero_le _,ne,e2,fun _ => none,(Heap.Ns1.of_empty e3).at fun o q => Heap.get?_push_of_some _ q,fun _ => True.intro,fun y hy => absurd rfl hy⟩
theorem Jeq {prog : Program} {w : World} {env : Env} {e : Expr} {f : Str} {pos : Pos} {s : Shared} {Q : Value → Shared → Prop} (hb : attributeBase e f env (eval e env) = eval e env)
  (h : wpAny (model prog w) A (eval e env) (fun o s₁ => wpAny (model prog w) A (getAttr o f true) Q E s₁) E s) : wpAny (model prog w) A (eval (.Attribute e f pos) env) Q E s :=
 Attribute_any_ h (by rw [arm_eval_Attribute,hb])
end
noncomputable def tFld (K : PySem.W.Frag) (ta : TE) (f : Str) : TE := fun σ H Q => ta σ H fun x H1 => ∃ a C dx fs v,x = .ref a ∧ H1 a = some (.ins C dx fs) ∧ Cls K C ∧ JV K C f ∧ fs.lookup f = some v ∧ Q v H1
noncomputable def sFld (K : PySem.W.Frag) (ta tv : TE) (f : Str) : TS := fun D σ H => tv σ H fun y H1 => ta σ H1 fun x H2 => ∃ a C dx fs,x = .ref a ∧ H2 a = some (.ins C dx fs) ∧ Cls K C ∧ JV K C f ∧ fs.length < 1000 ∧
 D.nx σ (upd H2 a (.ins C dx (putF f y fs)))
section
variable {X : Cx} {o e value : Expr} {f : Str} {pos pos' tpos : Pos} {ta tv : TE}
theorem Jfs (he : PE X e ta) (hb : attributeBase e f X.env (eval e X.env) = eval e X.env) : PE X (.Attribute e f pos) (tFld X.K ta f) := by
 intro pins s σ H Q I h
 refine Jeq hb (thn (he pins s σ H _ I h) fun u s1 ⟨x,H1,I1,rx,a,C,dx,fs,v,ex,ea,c,n,l,q⟩ => ?_)
 subst ex
 obtain rfl : u = Value.ref a := rx
 exact Jbo I1 ea c n l fun u' s2 I2 ru => ⟨v,H1,I2,ru,q⟩
theorem J0m (ha : PE X o ta) (hv : PE X value tv) (hs : swapsWith value (some (.Attribute o f pos')) pos.line X.env = pure false) : PS X (.Assign [.Attribute o f pos'] value pos) (sFld X.K ta tv f) := by
 intro pins s σ H D I h
 refine plainObj_wpAny_Assign_Attribute (thn (hv pins s σ H _ I h) fun u s1 ⟨y,H1,I1,ry,q⟩ => thn (ha pins s1 σ H1 _ I1 q) fun ov s2 ⟨x,H2,I2,rx,a,C,dx,fs,ex,ea,c,n,l,q2⟩ => ?_) hs
 subst ex
 obtain rfl : ov = Value.ref a := rx
 exact Jbc I2 ea c n l ry fun s3 I3 => ⟨σ,_,I3,q2⟩
end
section
variable {X : Cx} {pins : List (Addr × Obj)} {σ : St} {H : Hp} {s : Shared} {A : Around} {E : Value → Shared → Prop} {Q : Value → Shared → Prop} {c : Value} {b : Bool}
inductive TyOf (K : PySem.W.Frag) (H : Hp) : V → Value → Prop where
 | non : TyOf K H .non (.type "NoneType")
 | bl (x : Bool) : TyOf K H (.bl x) (.type "bool")
 | int (i : Int) : TyOf K H (.int i) (.type "int")
 | str (x : Str) : TyOf K H (.str x) (.type "str")
 | flt (x : UInt64) : TyOf K H (.flt x) (.type "float")
 | lst {a : Addr} {xs : List V} (e : H a = some (.lst xs)) : TyOf K H (.ref a) (.type "list")
 | frz {a : Addr} {o : Obj} {xs : List V} (e : H a = some (.frz o (.lst xs))) : TyOf K H (.ref a) (.type "list")
 | tup {a : Addr} {xs : List V} (e : H a = some (.tup xs)) : TyOf K H (.ref a) (.type "tuple")
 | dK {a : Addr} {kvs : List (Key × V)} (e : H a = some (.dK kvs)) : TyOf K H (.ref a) (.type "dict")
 | dT {a : Addr} {kvs : List (List Key × V)} (e : H a = some (.dT kvs)) : TyOf K H (.ref a) (.type "dict")
 | ins {a C dx : Addr} {fs : List (Str × V)} (e : H a = some (.ins C dx fs)) (cl : Cls K C) (ha : PySem.W.findIn K (.ref C) "__class__" = some (some (.builtin "object.__class__")))
   (hn : PySem.W.specialIn K (.builtin "object.__class__") "__get__" = some (some (.builtin "getset_descriptor.__get__"))) (htk : PySem.W.takesIn K (.builtin "object.__class__") = some true)
   (hm : PySem.W.mroIn K C (.type "object") = some true) : TyOf K H (.ref a) (.ref C)
theorem Jcv {x : V} {u t : Value} (I : Inv X pins σ H s) (rx : RelV x u) (ty : TyOf X.K H x t) (e : PySem.W.kitOne X.K t c = some b) (h : ∀ tk,Q (.bool b) { s with toks := tk }) :
  wpAny (model X.prog X.w) A (call (.builtin "isinstance") [u,c]) Q E s := by
 cases ty with
 | non => cases (show u = Value.none from rx); exact PySem.W.kia_one PySem.W.kitx_none I.kIn True.intro e (fun z => nomatch z) h
 | bl y => cases (show u = Value.bool y from rx); exact PySem.W.kia_one PySem.W.kitx_bool I.kIn True.intro e (fun z => nomatch z) h
 | int i => obtain ⟨t,q⟩ := (show ∃ t,u = Value.int i t from rx); cases q; exact PySem.W.kia_one PySem.W.kitx_int I.kIn True.intro e (fun z => nomatch z) h
 | str y => obtain ⟨t,q⟩ := (show ∃ t,u = Value.str y t from rx); cases q; exact PySem.W.kia_one PySem.W.kitx_str I.kIn True.intro e (fun z => nomatch z) h
 | flt y => obtain ⟨t,q⟩ := (show ∃ t,u = Value.float y t from rx); cases q; exact PySem.W.kia_one PySem.W.kitx_float I.kIn True.intro e (fun z => nomatch z) h
 | @lst a xs ea =>
  cases (show u = Value.ref a from rx)
  obtain ⟨_,_,n,_,h1⟩ := (show J0Z X.prog X.w H s.heap a (.lst xs) from I.hok a _ ea)
  exact PySem.W.kia_one PySem.W.kitx_list I.kIn ⟨_,h1,rfl⟩ e (fun z => nomatch z) h
 | @frz a ob xs ea =>
  cases (show u = Value.ref a from rx)
  obtain ⟨_,_,_,n,_,h1⟩ := (show J0Z X.prog X.w H s.heap a (.frz ob (.lst xs)) from I.hok a _ ea)
  exact PySem.W.kia_one PySem.W.kitx_list I.kIn ⟨_,h1,rfl⟩ e (fun z => nomatch z) h
 | @tup a xs ea =>
  cases (show u = Value.ref a from rx)
  obtain ⟨_,_,_,p⟩ := (show J0Z X.prog X.w H s.heap a (.tup xs) from I.hok a _ ea)
  obtain ⟨o,h1,h2,_⟩ := p
  exact PySem.W.kia_one PySem.W.kitx_tuple I.kIn ⟨o,h1,h2⟩ e (fun z => nomatch z) h
 | @dK a kvs ea =>
  cases (show u = Value.ref a from rx)
  obtain ⟨_,_,vs,_,p⟩ := (show J0Z X.prog X.w H s.heap a (.dK kvs) from I.hok a _ ea)
  obtain ⟨o,es,ep,h1,h2,_⟩ := p
  exact PySem.W.kia_one PySem.W.kitx_dict I.kIn ⟨o,h1,h2.1⟩ e (fun z => nomatch z) h
 | @dT a kvs ea =>
  cases (show u = Value.ref a from rx)
  obtain ⟨_,_,xs,_,o,es,ep,h1,h2,_⟩ := (show J0Z X.prog X.w H s.heap a (.dT kvs) from I.hok a _ ea)
  exact PySem.W.kia_one PySem.W.kitx_dict I.kIn ⟨o,h1,h2.1⟩ e (fun z => nomatch z) h
 | @ins a C dx fs ea cl ha hn htk hm =>
  cases (show u = Value.ref a from rx)
  obtain ⟨mA,O,_⟩ := J6k I.hok ea
  obtain ⟨od,J,_⟩ := O.look
  exact PySem.W.kia_one (PySem.W.kitx_own (cl.get _) cl.hd ha hn htk hm) I.kIn J e (fun z => nomatch z) h
end
end L2
namespace L2
open PySem PySem.Spec PyProof.Rows
structure Room (k : Nat) (A : Around) : Prop where
 hd : A.handled = none
 dp : A.depth + 3 * k + 5 < recursionLimit
 un : A.units + 16 * k + 200 < cLine
theorem Room.mono {j k : Nat} {A : Around} (r : Room k A) (h : j ≤ k) : Room j A := ⟨r.hd,by have := r.dp; omega,by have := r.un; omega⟩
theorem Room.deeper {k : Nat} {A : Around} (r : Room (k + 1) A) (env : Env) : Room k (A.deeper env) :=
 ⟨r.hd,by have := r.dp; show A.depth + 1 + 3 * k + 5 < _; omega,by have := r.un; show A.units + 3 + 16 * k + 200 < _; omega⟩
theorem Jbg {A : Around} {C : Addr} {us : List Value} {kw : List (Str × Value)} : (A.under (.builtin "type.__call__" ⟨.ref C :: us,kw⟩)).depth = A.depth + 1 := by
 first | rfl | simp [Around.under,Code.weight,Code.isCreation,Code.isGuard,Code.isCaller,Code.frames,Code.isFrame,guardIds]
theorem Jbj {A : Around} {C : Addr} {us : List Value} {kw : List (Str × Value)} : (A.under (.builtin "type.__call__" ⟨.ref C :: us,kw⟩)).units = A.units + 1 := by
 first | rfl | simp [Around.under,Code.cUnits,Code.frames,Code.isFrame]
theorem Room.make {k : Nat} {A : Around} (r : Room (k + 1) A) (C : Addr) (us : List Value) (kw : List (Str × Value)) : Room k (A.under (.builtin "type.__call__" ⟨.ref C :: us,kw⟩)) :=
 ⟨r.hd,by have := r.dp; rw [Jbg]; omega,by have := r.un; rw [Jbj]; omega⟩
theorem Room.depth {k : Nat} {A : Around} (r : Room k A) : A.depth < recursionLimit := by have := r.dp; omega
theorem Room.units {k : Nat} {A : Around} (r : Room k A) : A.units + 64 < cLine := by have := r.un; omega
theorem Room.units0 {k : Nat} {A : Around} (r : Room k A) : A.units < cLine := by have := r.un; omega
noncomputable def tNil : TA := fun _ H Q => Q [] H
noncomputable def Jgn (ta : TE) (tr : TA) : TA := fun σ H Q => ta σ H fun x H1 => tr σ H1 fun xs H2 => Q (x :: xs) H2
section
variable {X : Cx} {e : Expr} {es : List Expr} {te : TE} {t : TA} {pos : Pos}
theorem J6 : PA X [] tNil := fun _ _ _ _ H Q I h => Calls.spliced_nil ⟨[],H,I,.nil,h⟩
theorem J0 (ha : PE X e te) (hr : PA X es t) (hs : starEach (e :: es) X.env = (false,eval e X.env) :: starEach es X.env := by rfl) : PA X (e :: es) (Jgn te t) := by
 intro pos pins s σ H Q I h
 rw [hs]
 show wpAny _ _ (spliced ((false,eval e X.env) :: backTo pos (starEach es X.env))) _ _ s
 refine Calls.spliced_cons (thn (ha pins s σ H _ I h) fun u s1 ⟨x,H1,I1,r1,q1⟩ => ?_)
 exact thn (hr pos pins s1 σ H1 _ I1 q1) fun us s2 ⟨xs,H2,I2,r2,q2⟩ => ⟨x :: xs,H2,I2,.cons r1 r2,q2⟩
noncomputable def tTup (t : TA) : TE := fun σ H Q => t σ H fun xs H1 => xs.length ≤ sizeLine ∧ ∀ p,H1 p = none → Q (.ref p) (upd H1 p (.tup xs))
noncomputable def tLst (t : TA) : TE := fun σ H Q => t σ H fun xs H1 => xs.length ≤ sizeLine ∧ ∀ p,H1 p = none → Q (.ref p) (upd H1 p (.lst xs))
theorem J0a {x1} (h : PA X es t) : PE X (.Tuple es x1 pos) (tTup t) := by
 intro pins s σ H Q I hq
 refine wpAny_Tuple_spliced (thn (h pos pins s σ H _ I hq) fun us s1 ⟨xs,H1,I1,r,z,q⟩ => ⟨by rw [← r.length]; exact z,?_⟩)
 have hf : H1 s1.heap.objs.size = none := I1.hok.fresh (Nat.le_refl _)
 refine ⟨.ref s1.heap.objs.size,upd H1 s1.heap.objs.size (.tup xs),I1.laid (t' := s1.toks) (fun b u e => Heap.get?_push_of_some _ e) (Nat.le_refl _) ?_,rfl,q _ hf⟩
 exact ⟨z,us,r,⟨_,Heap.get?_push_size _ rfl,rfl,_,rfl⟩⟩
theorem J17 (h : PA X es t) : PE X (.List es pos) (tLst t) := by
 intro pins s σ H Q I hq
 refine wpAny_List_spliced (thn (h pos pins s σ H _ I hq) fun us s1 ⟨xs,H1,I1,r,z,q⟩ => ⟨by rw [← r.length]; exact z,?_⟩)
 have hf : H1 s1.heap.objs.size = none := I1.hok.fresh (Nat.le_refl _)
 refine ⟨.ref s1.heap.objs.size,upd H1 s1.heap.objs.size (.lst xs),I1.laid (t' := s1.toks) (fun b u e => Heap.get?_push_of_some _ e) (Nat.le_refl _) ?_,rfl,q _ hf⟩
 exact ⟨z,us,0,r,Heap.get?_push_size _ rfl⟩
end
noncomputable abbrev Sp := List V → Hp → VK → XK → Prop
noncomputable abbrev CXT := List Env → Hp → Shared → XK → Value → Shared → Prop
structure Env0 (P : Program) (w : World) (K : PySem.W.Frag) (mg : Str → Option Value) (base : Heap) (A : Around) (outer : List Env) (s : Shared) (H : Hp) : Prop where
 frames : A.frames = some outer
 mod : Mod K mg base
 bs : ∀ b o,base.get? b = some o → s.heap.get? b = some o ∧ H b = none
 bsz : base.objs.size ≤ s.heap.objs.size
 funs : s.heap.FunFrames base outer
 frf : ∀ b ∈ frs outer,H b = none
 hok : HOk P w H s.heap
 bare : AllBare s.gens
noncomputable def CE (outer : List Env) (P : Program) (w : World) (H : Hp) (s : Shared) (Q : VK) (u : Value) (s' : Shared) : Prop :=
 ∃ v H',s'.os = s.os ∧ AllBare s'.gens ∧ Un (frs outer) [] H H' s.heap s'.heap ∧ HOk P w H' s'.heap ∧ RelV v u ∧ Q v H'
noncomputable def CR (CX : CXT) (outer : List Env) (P : Program) (w : World) (H : Hp) (s : Shared) (Q : VK) (E : XK) (r : Result) (s' : Shared) : Prop :=
 match r with
 | .ok (.ret u) => CE outer P w H s Q u s'
 | .ok _ => False
 | .error e => CX outer H s E e s'
structure FnOk (P : Program) (w : World) (K : PySem.W.Frag) (mg : Str → Option Value) (base : Heap) (CX : CXT) (k : Nat) (f : Addr) (fd : FuncData) (ps : List Str) (sp : Sp) : Prop where
 len : ∀ vs H Q E,sp vs H Q E → vs.length = ps.length
 run : ∀ (A : Around) (outer : List Env) (s : Shared) (H : Hp) (args : Args) (us : List Value) (vs : List V) (Q : VK) (E : XK),Room k A → Env0 P w K mg base A outer s H → BindsTo s fd args (ps.zip us) → Vals vs us → sp vs H Q E →
  codeAny (model P w) A (.call (.ref f) args) (CR CX outer P w H s Q E) s
theorem FnOk.mono {P : Program} {w : World} {K : PySem.W.Frag} {mg : Str → Option Value} {base : Heap} {CX : CXT} {j k : Nat} {f : Addr} {fd : FuncData} {ps : List Str} {sp : Sp} (F : FnOk P w K mg base CX j f fd ps sp) (h : j ≤ k) :
  FnOk P w K mg base CX k f fd ps sp := ⟨F.len,fun A outer s H args us vs Q E hr => F.run A outer s H args us vs Q E (hr.mono h)⟩
theorem FnOk.imp {P : Program} {w : World} {K : PySem.W.Frag} {mg : Str → Option Value} {base : Heap} {CX : CXT} {k : Nat} {f : Addr} {fd : FuncData} {ps : List Str} {sp sp' : Sp} (F : FnOk P w K mg base CX k f fd ps sp)
  (h : ∀ vs H Q E,sp' vs H Q E → sp vs H Q E) : FnOk P w K mg base CX k f fd ps sp' :=
 ⟨fun vs H Q E q => F.len vs H Q E (h _ _ _ _ q),fun A outer s H args us vs Q E hr he hb hv hs => F.run A outer s H args us vs Q E hr he hb hv (h _ _ _ _ hs)⟩
theorem Env0.make {P : Program} {w : World} {K : PySem.W.Frag} {mg : Str → Option Value} {base : Heap} {A : Around} {outer : List Env} {s : Shared} {H : Hp} (e : Env0 P w K mg base A outer s H) (C : Addr) (us : List Value) (kw : List (Str × Value)) :
  Env0 P w K mg base (A.under (.builtin "type.__call__" ⟨.ref C :: us,kw⟩)) outer s H := ⟨by first | exact e.frames | (simpa [Around.under,Code.envs,Code.isFrame,pushEnvs] using e.frames),e.mod,e.bs,e.bsz,e.funs,e.frf,e.hok,e.bare⟩
section
variable {X : Cx} {pins : List (Addr × Obj)} {σ : St} {H : Hp} {s s' : Shared}
theorem Inv.env0 (I : Inv X pins σ H s) : Env0 X.prog X.w X.K X.mg X.base X.A X.stack s H :=
 ⟨I.ok.frames,I.ok.mod,I.bs,Nat.le_trans I.ok.bsz I.sz,I.stack,I.stkFree,I.hok,I.bare⟩
theorem Inv.after {Q : VK} {u : Value} (I : Inv X pins σ H s) (h : CE X.stack X.prog X.w H s Q u s') : EP X pins σ Q u s' := by
 obtain ⟨v,H',os,bare,un,hok,r,q⟩ := h
 obtain ⟨hh,g,d,t,os'⟩ := s'
 obtain rfl : os' = s.os := os
 exact ⟨v,H',I.call (h' := hh) (g' := g) (d' := d) (t' := t) (ch := []) un hok bare (fun b z => absurd z (by simp)),r,q⟩
end
noncomputable def JeX (sp : Sp) (dvs : List V) (E : XK) (t : TA) : TE := fun σ H Q => t σ H fun vs H1 => sp (vs ++ dvs) H1 Q E
noncomputable def JeT (C : Addr) (m : Str) (sp : Sp) (dvs : List V) (E : XK) (ta : TE) (t : TA) : TE := fun σ H Q => ta σ H fun x H1 => ∃ a dx fs,x = .ref a ∧ H1 a = some (.ins C dx fs) ∧ fs.lookup m = none ∧
 t σ H1 fun vs H2 => sp (x :: (vs ++ dvs)) H2 Q E
noncomputable def J4u (K : PySem.W.Frag) (fd : FuncData) (ps : List Str) (ds : List Value) : Prop :=
 ∀ (s : Shared) (us : List Value),K.In s.heap → (us ++ ds).length = ps.length → BindsTo s fd ⟨us,[]⟩ (ps.zip (us ++ ds))
theorem J4u.all {K : PySem.W.Frag} {fd : FuncData} {ps : List Str} (h : ∀ us : List Value,us.length = ps.length → bindArgs fd ⟨us,[]⟩ = pure (ps.zip us)) : J4u K fd ps [] := fun s us _ hl => by
 rw [List.append_nil] at hl ⊢
 exact .of_eq (h us hl)
noncomputable def J74 (CX : CXT) (X : Cx) (E : XK) : Prop := ∀ (pins : List (Addr × Obj)) (σ : St) (H : Hp) (s : Shared) (e : Value) (s' : Shared),Inv X pins σ H s → CX X.stack H s E e s' → X.xe e s'
section
variable {X : Cx} {CX : CXT} {k : Nat} {f C : Addr} {fd : FuncData} {ps : List Str} {sp : Sp} {dvs : List V} {ds : List Value} {E : XK} {x m : Str} {p pos apos : Pos} {e o : Expr} {es : List Expr} {ta : TE} {t : TA}
theorem J9d {pins : List (Addr × Obj)} {σ : St} {H : Hp} {s : Shared} {Q : VK} {us : List Value} {vs : List V} (F : FnOk X.prog X.w X.K X.mg X.base CX k f fd ps sp) (hr : Room k X.A) (hb : J4u X.K fd ps ds) (hd : Vals dvs ds) (hx : J74 CX X E)
  (I : Inv X pins σ H s) (r : Vals vs us) (h : sp (vs ++ dvs) H Q E) : wpAny (model X.prog X.w) X.A (call (.ref f) us) (EP X pins σ Q) X.xe s := by
 have r2 : Vals (vs ++ dvs) (us ++ ds) := r.append hd
 have hl : (us ++ ds).length = ps.length := by rw [← r2.length]; exact F.len _ _ _ _ h
 refine wpAny_call (codeAny_mono (F.run X.A X.stack s H ⟨us,[]⟩ (us ++ ds) (vs ++ dvs) Q E hr I.env0 (hb s us I.kIn hl) r2 h) fun r s' hq => ?_)
 cases r with
 | error e => exact hx pins σ H s e s' I hq
 | ok fl =>
  cases fl with
  | ret u => exact I.after hq
  | next => exact False.elim hq
  | brk => exact False.elim hq
  | cont => exact False.elim hq
theorem Jel (F : FnOk X.prog X.w X.K X.mg X.base CX k f fd ps sp) (hr : Room k X.A) (hg : Gl X x) (hm : X.mg x = some (.ref f)) (hk : PySem.W.keepIn X.K (.ref f) = true) (hb : J4u X.K fd ps ds) (hd : Vals dvs ds) (hx : J74 CX X E)
  (ha : PA X (e :: es) t) (hdb : (x == ("__debug__" : Str)) = false := by decide) (he : starEach (e :: es) X.env = (false,eval e X.env) :: starEach es X.env := by rfl) (hpl : (backTo pos (starEach es X.env)).any (·.1) = false := by rfl) :
  PE X (.Call (.Name x p) (e :: es) [] pos) (JeX sp dvs E t) := by
 intro pins s σ H Q I h
 refine wpAny_Call_Name_kw (J91 I hg hm ?_ hdb)
 refine PySem.W.callWith_K (h₀ := X.base) I.ok.mod.kin hk (thn (ha pos pins s σ H _ I h) fun us s1 ⟨vs,H1,I1,r,q⟩ => ⟨I1.kIn,?_⟩) he hpl
 exact J9d F hr hb hd hx I1 r q
theorem JeN {pl : Sem Bool} (he : PE X o ta) (c : Cls X.K C) (hm : Meth X.K C m f) (F : FnOk X.prog X.w X.K X.mg X.base CX k f fd ps sp) (hr : Room k X.A) (hb : J4u X.K fd ps ds) (hd : Vals dvs ds) (hx : J74 CX X E) (ha : PA X (e :: es) t)
  (hst : starEach (e :: es) X.env = (false,eval e X.env) :: starEach es X.env := by rfl) (hpl : (backTo pos (starEach es X.env)).any (·.1) = false := by rfl)
  (ht : eval (.Call (.Attribute o m apos) (e :: es) [] pos) X.env = (do
   let ov ← eval o X.env
   standAt apos.atName
   let (f,first) ← holding [ov] (getMethod ov m pl)
   callWith pos f first (backTo pos (starEach (e :: es) X.env)) (backToKw pos (keywordEach [] X.env))) := by rfl) :
  PE X (.Call (.Attribute o m apos) (e :: es) [] pos) (JeT C m sp dvs E ta t) := by
 intro pins s σ H Q I h
 refine PySem.W.methodCall_KW (pl := pl) (thn (he pins s σ H _ I h) fun u s1 ⟨x,H1,I1,rx,a,dx,fs,ex,ea,l,q⟩ => ?_) ht
 subst ex
 obtain rfl : u = Value.ref a := rx
 refine J4y I1 ea c hm l ?_
 refine PySem.W.callWith_K (first := [.ref a]) (h₀ := X.base) I.ok.mod.kin hm.kp (thn (ha pos pins s1 σ H1 _ I1 q) fun us s2 ⟨vs,H2,I2,r,q2⟩ => ⟨I2.kIn,?_⟩) hst hpl
 exact J9d (us := .ref a :: us) (vs := .ref a :: vs) F hr hb hd hx I2 (.cons rfl r) q2
structure Mk (K : PySem.W.Frag) (C f : Addr) : Prop where
 makes : PySem.W.makesIn K C = true
 init : PySem.W.findIn K (.ref C) "__init__" = some (some (.ref f))
 fn : PySem.W.isFn K (.ref f) = true
 kp : PySem.W.keepIn K (.ref C) = true
theorem JdS {pins : List (Addr × Obj)} {σ : St} {H : Hp} {s : Shared} {Q : VK} {us : List Value} {vs : List V} (M : Mk X.K C f) (F : FnOk X.prog X.w X.K X.mg X.base CX k f fd ps sp) (hr : Room (k + 1) X.A) (hb : J4u X.K fd ps ds) (hd : Vals dvs ds)
  (hx : J74 CX X E) (I : Inv X pins σ H s) (r : Vals vs us)
  (h : ∀ x dx,H x = none → H dx = none → dx ≠ x → sp (.ref x :: (vs ++ dvs)) (upd (upd H dx (.own x)) x (.ins C dx [])) (fun v H2 => v = .non ∧ Q (.ref x) H2) E) :
  wpAny (model X.prog X.w) X.A (call (.ref C) us) (EP X pins σ Q) X.xe s := by
 have hq := h (s.heap.objs.size + 1) s.heap.objs.size (I.hok.fresh (Nat.le_succ _)) (I.hok.fresh (Nat.le_refl _)) (Nat.ne_of_lt (Nat.lt_succ_self _))
 have I2 := Inv.made (C := C) I
 have r2 : Vals (V.ref (s.heap.objs.size + 1) :: (vs ++ dvs)) (Value.ref (s.heap.objs.size + 1) :: (us ++ ds)) := .cons rfl (r.append hd)
 have hl : (Value.ref (s.heap.objs.size + 1) :: us ++ ds).length = ps.length := by
  have e := r2.length
  rw [F.len _ _ _ _ hq] at e
  exact e.symm
 refine wpAny_call (Jdi (f := f) I.kIn M.makes M.init (beq_iff_eq.mp M.fn) (codeAny_mono (F.run _ X.stack _ _ ⟨Value.ref (s.heap.objs.size + 1) :: us,[]⟩ (Value.ref (s.heap.objs.size + 1) :: (us ++ ds)) _ _ E (hr.make C us [])
  (I2.env0.make C us []) (hb _ (Value.ref (s.heap.objs.size + 1) :: us) I2.kIn hl) r2 hq) fun r s' hq' => ?_))
 cases r with
 | error e => exact hx pins σ _ _ e s' I2 hq'
 | ok fl =>
  cases fl with
  | ret u =>
   obtain ⟨v,H',I3,rv,ev,q3⟩ := I2.after hq'
   subst ev
   exact ⟨rv,⟨V.ref (s.heap.objs.size + 1),H',I3,rfl,q3⟩⟩
  | next => exact False.elim hq'
  | brk => exact False.elim hq'
  | cont => exact False.elim hq'
end
section
variable {X : Cx} {CX : CXT} {k : Nat} {f C : Addr} {fd : FuncData} {ps ks : List Str} {sp : Sp} {E : XK} {x m : Str} {p pos apos kpos : Pos} {e o : Expr} {es : List Expr} {kws : List Keyword} {te ta : TE} {t tk : TA} {nm : Option Str}
variable {g : List Value → List Value → List Value} {gV : List V → List V → List V}
end
structure Jn (N P : List Str) (sc : Scope) : Prop where
 kind : sc.kind = .function
 co : sc.isCoroutine = false
 gen : sc.isGenerator = false
 nd : N.Nodup
 pre : N.take P.length = P
 par : ∀ x ∈ P,sc.names.lookup x = some .local ∨ sc.names.lookup x = some .cell
 nofree : ∀ y ∈ sc.names,y.2 ≠ .free
theorem J7V {kindOf : Str → Option NameKind} {x : Str} : ∀ {binds : List (Str × Value)} {m : Str → Option Value},(∀ v,(x,v) ∉ binds) → bindL kindOf binds m x = m x
 | [],_,_ => rfl
 | (n,v) :: r,m,h => by
  unfold bindL
  rw [J7V fun w hw => h w (List.mem_cons_of_mem _ hw)]
  split
  ·have : x ≠ n := by rintro rfl; exact h v List.mem_cons_self
   simp [this]
  ·rfl
theorem J80 {kindOf : Str → Option NameKind} {x : Str} : ∀ {binds : List (Str × Value)} {m : Str → Option Value},(∀ v,(x,v) ∉ binds) → bindC kindOf binds m x = m x
 | [],_,_ => rfl
 | (n,v) :: r,m,h => by
  unfold bindC
  rw [J80 fun w hw => h w (List.mem_cons_of_mem _ hw)]
  split
  ·rfl
  ·have : x ≠ n := by rintro rfl; exact h v List.mem_cons_self
   simp [this]
theorem J82 {kindOf : Str → Option NameKind} {x : Str} {v : Value} : ∀ {P : List Str} {vs : List Value} {i : Nat} {m : Str → Option Value},P.Nodup → P[i]? = some x → vs[i]? = some v → kindOf x = some .local →
  bindL kindOf (P.zip vs) m x = some v
 | [],_,_,_,_,h,_,_ => by simp at h
 | _ :: _,[],_,_,_,_,h,_ => by simp at h
 | p :: P,w :: vs,0,m,nd,h1,h2,hk => by
  simp at h1 h2; subst h1; subst h2
  show bindL kindOf ((p,w) :: P.zip vs) m p = _
  unfold bindL
  rw [J7V fun v hv => (List.nodup_cons.mp nd).1 (List.of_mem_zip hv).1,if_pos hk]
  simp
 | p :: P,w :: vs,i + 1,m,nd,h1,h2,hk => by
  show bindL kindOf ((p,w) :: P.zip vs) m x = _
  unfold bindL
  exact J82 (i := i) (List.nodup_cons.mp nd).2 (by simpa using h1) (by simpa using h2) hk
theorem J7U {kindOf : Str → Option NameKind} {x : Str} {v : Value} : ∀ {P : List Str} {vs : List Value} {i : Nat} {m : Str → Option Value},P.Nodup → P[i]? = some x → vs[i]? = some v → kindOf x ≠ some .local →
  bindC kindOf (P.zip vs) m x = some v
 | [],_,_,_,_,h,_,_ => by simp at h
 | _ :: _,[],_,_,_,_,h,_ => by simp at h
 | p :: P,w :: vs,0,m,nd,h1,h2,hk => by
  simp at h1 h2; subst h1; subst h2
  show bindC kindOf ((p,w) :: P.zip vs) m p = _
  unfold bindC
  rw [J80 fun v hv => (List.nodup_cons.mp nd).1 (List.of_mem_zip hv).1,if_neg hk]
  simp
 | p :: P,w :: vs,i + 1,m,nd,h1,h2,hk => by
  show bindC kindOf ((p,w) :: P.zip vs) m x = _
  unfold bindC
  exact J7U (i := i) (List.nodup_cons.mp nd).2 (by simpa using h1) (by simpa using h2) hk
noncomputable def start (N : List Str) (vs : List V) : St := vs.map some ++ List.replicate (N.length - vs.length) none
noncomputable def cxOf (CX : CXT) (P : Program) (w : World) (K : PySem.W.Frag) (mg : Str → Option Value) (base : Heap) (N : List Str) (qual : Str) (scope : Scope) (f : Addr) (cd : Value) (A : Around) (outer : List Env) (s : Shared) (H : Hp) (E : XK) : Cx where
 prog := P
 w := w
 K := K
 mg := mg
 base := base
 A := A.deeper (envOfC qual scope s.heap.objs.size f cd)
 N := N
 s₀ := s
 H₀ := H
 env := envOfC qual scope s.heap.objs.size f cd
 outer := outer
 stack := envOfC qual scope s.heap.objs.size f cd :: outer
 ex := []
 calm := true
 fn := fun _ => true
 pn := []
 xe := fun e s' => wpAny (model P w) (A.deeper (envOfC qual scope s.heap.objs.size f cd)) (leaving (envOfC qual scope s.heap.objs.size f cd) e) (fun _ s'' => CX outer H s E e s'') (fun e' s'' => CX outer H s E e' s'') s'
theorem JaB {sc : Scope} {n : Nat} {x : Str} (h : sc.names.lookup x = some .cell) : ∃ c,(cellsFrom n sc.names []).lookup x = some c := by
 have q := PySem.W.cellsFrom_some sc.names n [] (.inl h)
 exact Option.isSome_iff_exists.mp q
theorem Jci {CX : CXT} {P : Program} {w : World} {K : PySem.W.Frag} {mg : Str → Option Value} {base : Heap} {N ps : List Str} {qual : Str} {scope : Scope} {f : Addr} {cd : Value} {A : Around} {outer : List Env} {s s1 : Shared} {H : Hp} {E : XK} {us : List Value} {vs : List V}
  (S : Jn N ps scope) (hd : A.handled = none) (e0 : Env0 P w K mg base A outer s H) (hl : vs.length = ps.length) (r : Vals vs us)
  (x : InCallC s s.heap.objs.size (bindL (envOfC qual scope s.heap.objs.size f cd).kindOf (ps.zip us) fun _ => none) (cellsFrom (s.heap.objs.size + 1) scope.names []) (bindC (envOfC qual scope s.heap.objs.size f cd).kindOf (ps.zip us) fun _ => none) s1) :
  Inv (cxOf CX P w K mg base N qual scope f cd A outer s H E) [] (start N vs) H s1 := by
 have hpl : ps.length ≤ N.length := by have := congrArg List.length S.pre; rw [List.length_take] at this; omega
 obtain ⟨h1,tk,rfl,hk⟩ := x.done
 have noA : ∀ b : Addr,b ∉ (cxOf CX P w K mg base N qual scope f cd A outer s H E).ex := fun b z => absurd (show b ∈ ([] : List Addr) from z) (by simp)
 refine ⟨⟨e0.mod,S.kind,rfl,rfl,Nat.le_refl _,fun y z c h1 h2 => ?_,fun y hy => ?_,fun y c _ h => ?_,fun _ => hd,Around.frames_deeper e0.frames,.inr ⟨rfl,rfl⟩,fun b z => absurd z (noA b),e0.bs,e0.bsz,fun b _ _ => noA b,fun b z => absurd z (noA b),e0.funs,e0.frf⟩,
  rfl,e0.bare,Un.kept hk,⟨_,x.toInCall.ns,fun i y v h1 h2 h3 => ?_⟩,fun y c h => ⟨_,x.cell y c h⟩,e0.hok.fresh (Nat.le_refl _),fun y c h => ?_,fun p hp => absurd (show p ∈ ([] : List (Addr × Obj)) from hp) (by simp),e0.hok.kept hk,?_⟩
 ·exact name_of_addr x.apart (PySem.mem_of_lookup h1) (PySem.mem_of_lookup h2)
 ·have hy : scope.names.lookup y = some .cell ∨ scope.names.lookup y = some .free := hy
  rcases hy with hy | hy
  ·exact JaB hy
  ·exact absurd rfl (S.nofree _ (PySem.mem_of_lookup hy))
 ·exact Nat.le_of_lt (x.above y c (PySem.mem_of_lookup h))
 ·have hi : i < vs.length := by
   unfold start at h2
   by_cases hi : i < vs.length
   ·exact hi
   ·rw [List.getElem?_append_right (by simpa using hi)] at h2
    rw [List.getElem?_replicate] at h2
    split at h2 <;> cases h2
  have ha : vs[i]? = some v := by
   unfold start at h2
   rw [List.getElem?_append_left (by simpa using hi),List.getElem?_map] at h2
   cases e : vs[i]? with
   | none => rw [e] at h2; cases h2
   | some a => rw [e] at h2; cases h2; rfl
  obtain ⟨u,hu,rv⟩ := r.get ha
  have hp : ps[i]? = some y := by
   rw [← S.pre,List.getElem?_take_of_lt (by omega)]; exact h1
  have ndP : ps.Nodup := by rw [← S.pre]; exact S.nd.sublist (List.take_sublist _ _)
  refine ⟨u,rv,?_⟩
  rcases S.par y (List.mem_of_getElem? hp) with k | k
  ·exact .inl ⟨k,J82 ndP hp hu k⟩
  ·obtain ⟨c,e⟩ := JaB (n := s.heap.objs.size + 1) k
   refine .inr ⟨.inl k,c,e,?_⟩
   have q := x.cell y c e
   rw [J7U ndP hp hu (by show scope.names.lookup y ≠ _; rw [k]; decide)] at q
   exact q
 ·exact e0.hok.fresh (Nat.le_of_lt (x.above y c (PySem.mem_of_lookup h)))
 ·unfold start
  show _ = N.length
  rw [List.length_append,List.length_map,List.length_replicate]
  omega
theorem Jgi {CX : CXT} {P : Program} {w : World} {K : PySem.W.Frag} {mg : Str → Option Value} {base : Heap} {k : Nat} {f : Addr} {name qual : Str} {params : Arguments} {body : List Stmt} {scope : Scope} {dV kV doc pm cdv ct oc : Value} {an od : Option Addr}
  {osl : Array (Option Value)} {N ps : List Str} {sp : Sp} (lk : K.lookup f = some ⟨oc,od,.func (PySem.W.fnOf name qual params body scope dV kV doc pm an cdv ct),osl⟩) (hcd : PySem.W.codeIn K cdv qual = true) (S : Jn N ps scope)
  (len : ∀ vs H Q E,sp vs H Q E → vs.length = ps.length)
  (hbody : ∀ (A : Around) (outer : List Env) (s : Shared) (H : Hp) (vs : List V) (Q : VK) (E : XK),Room k (A.deeper (envOfC qual scope s.heap.objs.size f cdv)) → sp vs H Q E →
   ∃ t,PSs (cxOf CX P w K mg base N qual scope f cdv A outer s H E) body t ∧ t { nx := fun _ H' => Q .non H',rt := Q } (start N vs) H) :
  FnOk P w K mg base CX (k + 1) f (PySem.W.fnOf name qual params body scope dV kV doc pm an cdv ct) ps sp := by
 refine ⟨len,fun A outer s H args us vs Q E hr e0 hb r hsp => ?_⟩
 have hl := len _ _ _ _ hsp
 have KX : K.In s.heap := e0.mod.kin.keeps fun b o e => (e0.bs b o e).1
 have lim : s.heap.NoLimit := e0.mod.nolimit.keeps fun b o e => (e0.bs b o e).1
 have hkind : ∀ y ∈ ps.zip us,scope.names.lookup y.1 = some .local ∨ (scope.names.lookup y.1 = some .cell ∧ ((cellsFrom (s.heap.objs.size + 1) scope.names []).lookup y.1).isSome = true) := fun ⟨n,v⟩ hy => by
  rcases S.par n (List.of_mem_zip hy).1 with q | q
  ·exact .inl q
  ·exact .inr ⟨q,PySem.W.cellsFrom_some _ _ _ (.inl q)⟩
 refine codeAny_call_function hr.depth (KX _ _ lk) rfl S.co S.gen rfl (PySem.W.codeRec_of KX hcd) (hb _ _ _ _ ?_)
 refine wpAny_newFunctionEnv_cells S.kind hkind fun env he s1 x => ?_
 subst he
 refine ⟨lim.keeps x.toInCall.keep,codeAny_func ?_⟩
 obtain ⟨t,ht,hq⟩ := hbody A outer s H vs Q E (hr.deeper _) hsp
 have I : Inv (cxOf CX P w K mg base N qual scope f cdv A outer s H E) [] (start N vs) H s1 := Jci S hr.hd e0 hl r x
 refine wpAny_mono (ht [] s1 (start N vs) H _ I hq) (fun fl s' hs => ?_) fun e s' hs => hs
 have fin : ∀ {σ' : St} {H' : Hp} {v : V} {u : Value},Inv (cxOf CX P w K mg base N qual scope f cdv A outer s H E) [] σ' H' s' → RelV v u → Q v H' → CE outer P w H s Q u s' :=
  fun {σ' H' v u} J rv q => ⟨v,H',J.os,J.bare,J.base,J.hok,rv,q⟩
 cases fl with
 | ret u =>
  obtain ⟨v,σ',H',J,rv,q⟩ := hs
  exact fin J rv q
 | next =>
  obtain ⟨σ',H',J,q⟩ := hs
  exact fin (v := V.non) (u := Value.none) J rfl q
 | brk =>
  obtain ⟨_,_,_,q⟩ := hs
  exact False.elim q
 | cont =>
  obtain ⟨_,_,_,q⟩ := hs
  exact False.elim q
end L2
namespace L2
open PySem PySem.Spec PyProof.Rows
section
variable {X : Cx} {x : Str} {p pos : Pos} {e : Expr} {es : List Expr} {t : TA} {id T : String} {r : List V → Hp → VK → Prop}
noncomputable def tCB (r : List V → Hp → VK → Prop) (t : TA) : TE := fun σ H Q => t σ H fun vs H1 => r vs H1 Q
theorem Jt (hc : J2R X (.builtin id) r) (hg : Gl X x) (hm : X.mg x = none) (hv : bootBuiltins x = some (.builtin id)) (ha : PA X (e :: es) t) (hn : x ≠ "__name__" := by decide) (hdb : (x == ("__debug__" : Str)) = false := by decide)
  (he : starEach (e :: es) X.env = (false,eval e X.env) :: starEach es X.env := by rfl) (hpl : (backTo pos (starEach es X.env)).any (·.1) = false := by rfl) : PE X (.Call (.Name x p) (e :: es) [] pos) (tCB r t) := by
 intro pins s σ H Q I h
 refine wpAny_Call_Name_kw (J4B I hg hm hv ?_ hn hdb)
 exact PyProof.Rows.callWith_builtin1 (thn (ha pos pins s σ H _ I h) fun us s1 ⟨vs,H1,I1,r1,q1⟩ => hc pins s1 σ H1 vs us Q I1 r1 q1) he hpl
theorem J1N (hc : J2R X (.type T) r) (hg : Gl X x) (hm : X.mg x = none) (hv : bootBuiltins x = some (.type T)) (ha : PA X (e :: es) t) (hn : x ≠ "__name__" := by decide) (hdb : (x == ("__debug__" : Str)) = false := by decide)
  (he : starEach (e :: es) X.env = (false,eval e X.env) :: starEach es X.env := by rfl) (hpl : (backTo pos (starEach es X.env)).any (·.1) = false := by rfl) : PE X (.Call (.Name x p) (e :: es) [] pos) (tCB r t) := by
 intro pins s σ H Q I h
 refine wpAny_Call_Name_kw (J4B I hg hm hv ?_ hn hdb)
 exact PyProof.Rows.callWith_type1 (thn (ha pos pins s σ H _ I h) fun us s1 ⟨vs,H1,I1,r1,q1⟩ => hc pins s1 σ H1 vs us Q I1 r1 q1) he hpl
end
end L2
namespace HT
open PySem PyProof.Rows
section
open PySem.SeqAt
open PySem.AutoSeq1 (wpAny_loadPart')
open PySem.MeetsSeq PySem.MeetsSeq2 PySem.MeetsSeq3
end
section
variable {prog : Program} {w : World} {A : Around} {E : Value → Shared → Prop} {s : Shared}
theorem cat_tup {t b : Addr} {vs ws : List Value} {Q : Value → Shared → Prop} (ht : IsTup s.heap t vs.toArray) (hb : IsTup s.heap b ws.toArray) (hv : vs ≠ [])
  (h1 : ws = [] → Q (.ref t) s) (h2 : ws ≠ [] → Q (.ref s.heap.objs.size) { s with heap := s.heap.push { cls := .type "tuple",data := .seq (vs ++ ws).toArray } })
  (hsz : vs.length + ws.length ≤ sizeLine) : wpAny (model prog w) A (binaryOp .Add (.ref t) (.ref b)) Q E s := by
 obtain ⟨⟨cls,dd,data,sl⟩,ho,hc,n,hd⟩ := id ht
 obtain ⟨⟨cls2,dd2,data2,sl2⟩,ho2,hc2,n2,hd2⟩ := id hb
 simp only at hc hd hc2 hd2
 subst hc hd hc2 hd2
 have e : vs.toArray ++ ws.toArray = (vs ++ ws).toArray := by simp
 by_cases hw : ws = []
 ·exact concat_meets ⟨_,ho,rfl⟩ ⟨_,ho2,rfl⟩ noFill_tuple_add seq_tuple_add PySem.F.slot_tuple_add PySem.F.entry_tuple_add (PySem.F.args_tuple_add_2 _ _)
   (tuple_addW1 t b vs.toArray ws.toArray n n2 dd dd2 sl sl2 (by simpa using hv) (by simp [hw])) ⟨ho,ho2,h1 hw⟩
 ·refine concat_meets ⟨_,ho,rfl⟩ ⟨_,ho2,rfl⟩ noFill_tuple_add seq_tuple_add PySem.F.slot_tuple_add PySem.F.entry_tuple_add (PySem.F.args_tuple_add_2 _ _)
   (tuple_addW2 t b vs.toArray ws.toArray n n2 dd dd2 sl sl2 (by simpa using hv) (by simpa using hw) (by rw [List.size_toArray,List.size_toArray]; exact hsz)) ⟨ho,ho2,?_⟩
  rw [e]
  exact h2 hw
noncomputable def sIx (n d : Nat) : Option Int → Nat
 | none => d
 | some v => if v < 0 then (v + (n : Int)).toNat else min v.toNat n
theorem sIx_none (n d : Nat) : sIx n d none = d := rfl
theorem sIx_le (n d : Nat) (hd : d ≤ n) (o : Option Int) : sIx n d o ≤ n := by
 cases o with
 | none => exact hd
 | some v =>
  show (if v < 0 then (v + (n : Int)).toNat else min v.toNat n) ≤ n
  by_cases hv : v < 0
  ·rw [if_pos hv]; omega
  ·rw [if_neg hv]; exact Nat.min_le_right _ _
theorem Jbz (v : Int) (n d : Nat) : (if v < 0 then max (v + (n : Int)) 0 else min v (n : Int)) = ((sIx n d (some v) : Nat) : Int) := by
 show (if v < 0 then max (v + (n : Int)) 0 else min v (n : Int)) = (((if v < 0 then (v + (n : Int)).toNat else min v.toNat n) : Nat) : Int)
 by_cases hv : v < 0
 ·simp only [if_pos hv]; omega
 ·simp only [if_neg hv]; omega
theorem Jbn (lo hi : Option Int) (n : Nat) : Builtin.Slice.sliceAdjust lo hi 1 (n : Int) = (((sIx n 0 lo : Nat) : Int),((sIx n n hi : Nat) : Int)) := by
 have h1 : ¬ ((1 : Int) < 0) := by omega
 unfold Builtin.Slice.sliceAdjust
 simp only [h1,if_false]
 refine Prod.ext ?_ ?_
 ·cases lo with
  | none => rfl
  | some v => exact Jbz v n 0
 ·cases hi with
  | none => rfl
  | some v => exact Jbz v n n
theorem Jb5 (i j : Nat) : Builtin.Slice.slicePlaces (i : Int) (j : Int) 1 = j - i := by
 unfold Builtin.Slice.slicePlaces
 have h1 : (1 : Int) > 0 := by omega
 simp only [h1,if_true,Int.ediv_one]
 split <;> omega
theorem J7c {v : Value} {o : Option Int} {Q : Option Int → Shared → Prop} (p : IsPart v o) (h : Q o s) : wpAny (model prog w) A (Builtin.Slice.slicePartIndex v) Q E s := by
 cases p with
 | none => exact slicePart_none h
 | int i t => exact slicePart_int h
theorem J5K {sl : Addr} {vl vu : Value} {lo hi : Option Int} {n : Nat} {Q : Int × Int × Nat → Shared → Prop} (hs : s.heap.IsSliceOf sl vl vu .none) (pl : IsPart vl lo) (pu : IsPart vu hi)
  (h : Q (((sIx n 0 lo : Nat) : Int),1,sIx n n hi - sIx n 0 lo) s) : wpAny (model prog w) A (Builtin.Slice.sliceApplied (.ref sl) (pure (n : Int))) Q E s := by
 obtain ⟨os,hos,hcs,hds⟩ := id hs
 unfold Builtin.Slice.sliceApplied Builtin.Slice.sliceFields
 refine wpAny_bind (wpAny_bind (wpAny_field hos hds (x := vl) rfl (wpAny_bind (wpAny_field hos hds (x := vu) rfl (wpAny_bind (wpAny_field hos hds (x := .none) rfl (wpAny_pure ?_)))))))
 refine wpAny_bind (slicePart_none ?_)
 show wpAny _ _ (if ((1 : Int) == 0) = true then _ else _) _ _ s
 rw [if_neg (by decide)]
 refine wpAny_bind (J7c pl (wpAny_bind (J7c pu (wpAny_bind (wpAny_pure ?_)))))
 show wpAny _ _ (match Builtin.Slice.sliceAdjust lo hi 1 (n : Int) with | (lo,hi) => pure (lo,(1 : Int),Builtin.Slice.slicePlaces lo hi 1)) _ _ s
 rw [Jbn lo hi n]
 show wpAny _ _ (pure (((sIx n 0 lo : Nat) : Int),(1 : Int),Builtin.Slice.slicePlaces ((sIx n 0 lo : Nat) : Int) ((sIx n n hi : Nat) : Int) 1)) _ _ s
 rw [Jb5]
 exact wpAny_pure h
theorem JdP (xs : Array Value) (i k : Nat) : ((List.range k).filterMap fun (m : Nat) => xs[((i : Int) + (m : Int) * 1).toNat]?).toArray = ((xs.toList.drop i).take k).toArray := by
 have e : (fun (m : Nat) => xs[((i : Int) + (m : Int) * 1).toNat]?) = fun m => xs[i + m]? := by
  funext m
  have : ((i : Int) + (m : Int) * 1).toNat = i + m := by omega
  rw [this]
 rw [e]
 have := pick_run xs i k
 rw [List.filterMap_map] at this
 have e2 : ((fun x => xs[x]?) ∘ fun x => i + x) = fun m => xs[i + m]? := rfl
 rw [e2] at this
 rw [this]
theorem getItem_tuple_cut {t sl : Addr} {items : Array Value} {vl vu : Value} {lo hi : Option Int} {Q : Value → Shared → Prop} (ht : IsTup s.heap t items) (hs : s.heap.IsSliceOf sl vl vu .none) (pl : IsPart vl lo) (pu : IsPart vu hi)
  (hw : ¬ (sIx items.size 0 lo = 0 ∧ sIx items.size items.size hi = items.size))
  (h : Q (.ref s.heap.objs.size) { s with heap := s.heap.push { cls := .type "tuple",data := .seq ((items.toList.drop (sIx items.size 0 lo)).take (sIx items.size items.size hi - sIx items.size 0 lo)).toArray } })
  (hsz : items.size ≤ sizeLine) : wpAny (model prog w) A (getItem (.ref t) (.ref sl)) Q E s := by
 have htake : sizeOk (.seq ((items.toList.drop (sIx items.size 0 lo)).take (sIx items.size items.size hi - sIx items.size 0 lo)).toArray) := by
  show ((items.toList.drop (sIx items.size 0 lo)).take (sIx items.size items.size hi - sIx items.size 0 lo)).toArray.size ≤ sizeLine
  rw [List.size_toArray,List.length_take,List.length_drop,Array.length_toList]
  omega
 have hj : sIx items.size items.size hi ≤ items.size := sIx_le _ _ (Nat.le_refl _) hi
 obtain ⟨os,hos,hcs,hds⟩ := id hs
 have hTs : s.TypeIs (.ref sl) "slice" := ⟨os,hos,hcs⟩
 unfold getItem
 try with_reducible refine wpAny_holding ?_
 first | refine wpAny_bind (wpAny_pure ?_) | skip
 refine wpAny_bind (wpAny_sequenceKey ht.typeIs (by decide) ?_)
 refine wpAny_bind (wpAny_callSpecial?_slot (name := Str.ofString "__getitem__") ht.typeIs PyProof.Rows.slot_tuple_getitem
  (wpAny_call_entry PyProof.Rows.slot_tuple_getitem ht.typeIs entry_tuple_getitem ?_ (args_tuple_getitem _ _)))
 show wpAny _ _ (Builtin.Tuple.tupleItemsOf (.ref t) >>= _) _ _ s
 refine wpAny_bind (tupleItemsOf_ ht ?_)
 refine wpAny_bind (wpAny_typeOf hTs ?_)
 rw [if_pos (by decide)]
 refine wpAny_bind (J5K hs pl pu ?_)
 have hno : ¬ ((((sIx items.size 0 lo : Nat) : Int) == 0 && (1 : Int) == 1 && (sIx items.size items.size hi - sIx items.size 0 lo) == items.size) = true) := by
  intro q
  rw [Bool.and_eq_true,Bool.and_eq_true] at q
  have q1 : ((sIx items.size 0 lo : Nat) : Int) = 0 := eq_of_beq q.1.1
  have q2 : sIx items.size items.size hi - sIx items.size 0 lo = items.size := eq_of_beq q.2
  exact hw ⟨by omega,by omega⟩
 show wpAny _ _ (if (((sIx items.size 0 lo : Nat) : Int) == 0 && (1 : Int) == 1 && (sIx items.size items.size hi - sIx items.size 0 lo) == items.size) = true then _ else _) _ _ s
 rw [if_neg hno,JdP]
 first
  | exact wpAny_bind (m := Builtin.Tuple.tupleExact _) (wpAny_newObj_type (wpAny_pure ⟨_,rfl,wpAny_pure h⟩) htake)
  | exact wpAny_bind (m := Builtin.Tuple.tupleExact _) (wpAny_newObj_type (wpAny_bind (wpAny_pure (wpAny_pure ⟨_,rfl,wpAny_pure h⟩))) htake)
  | exact wpAny_bind (wpAny_bind (m := Builtin.Tuple.tupleExact _) (wpAny_newObj_type (wpAny_pure (wpAny_pure ⟨_,rfl,wpAny_pure h⟩)) htake))
  | exact wpAny_bind (wpAny_bind (m := Builtin.Tuple.tupleExact _) (wpAny_newObj_type (wpAny_pure ⟨_,rfl,wpAny_pure h⟩) htake))
end
end HT
namespace L2
open PySem PySem.Spec PyProof.Rows
noncomputable abbrev TO := St → Hp → (Option Int → Hp → Prop) → Prop
noncomputable def PO (X : Cx) (e : Option Expr) (t : TO) : Prop :=
 ∀ (pins : List (Addr × Obj)) (s : Shared) (σ : St) (H : Hp) (Q : Option Int → Hp → Prop),Inv X pins σ H s → t σ H Q →
  wpAny (model X.prog X.w) X.A (evalPart e X.env) (fun u s' => ∃ o H',Inv X pins σ H' s' ∧ IsPart u o ∧ Q o H') X.xe s
noncomputable def Jex : TO := fun _ H Q => Q none H
noncomputable def Jgb (t : TE) : TO := fun σ H Q => t σ H fun x H1 => ∃ i,x = .int i ∧ Q (some i) H1
section
variable {X : Cx} {e : Expr} {te : TE} {lo hi : Option Expr} {tl th : TO} {pos p2 : Pos}
theorem J15 : PO X none Jex := by
 intro pins s σ H Q I h
 rw [evalPart_none]
 exact wpAny_pure ⟨none,H,I,.none,h⟩
theorem J0q (h : PE X e te) : PO X (some e) (Jgb te) := by
 intro pins s σ H Q I hw
 rw [evalPart_some]
 refine thn (h pins s σ H _ I hw) fun u s1 ⟨x,H1,I1,r1,q1⟩ => ?_
 obtain ⟨i,rfl,q⟩ := q1
 obtain ⟨t,rfl⟩ := r1
 exact ⟨some i,H1,I1,.int i t,q⟩
noncomputable def SlR (X : Cx) (r : V → Option Int → Option Int → Hp → VK → Prop) : Prop :=
 ∀ (pins : List (Addr × Obj)) (s : Shared) (σ : St) (H : Hp) (x : V) (v vl vu : Value) (lo hi : Option Int) (sl : Addr) (Q : VK),Inv X pins σ H s → RelV x v → s.heap.IsSliceOf sl vl vu .none → IsPart vl lo → IsPart vu hi → r x lo hi H Q →
  ∃ T id,typeLookup (.type T) "__getitem__" = pure (some (.builtin id)) ∧ s.TypeIs v T ∧ wpAny (model X.prog X.w) X.A (getItem v (.ref sl)) (EP X pins σ Q) X.xe s
noncomputable def tSl (r : V → Option Int → Option Int → Hp → VK → Prop) (te : TE) (tl th : TO) : TE := fun σ H Q => te σ H fun x H1 => tl σ H1 fun l H2 => th σ H2 fun u H3 => r x l u H3 Q
theorem J0e {r : V → Option Int → Option Int → Hp → VK → Prop} (hr : SlR X r) (he : PE X e te) (hl : PO X lo tl) (hu : PO X hi th) : PE X (.Subscript e (.Slice lo hi none p2) pos) (tSl r te tl th) := by
 intro pins s σ H Q I h
 refine Subscript_ (thn (he pins s σ H _ I h) fun v s1 ⟨x,H1,I1,r1,q1⟩ => ?_)
 refine wpAny_Slice (thn (hl pins s1 σ H1 _ I1 q1) fun vl s2 ⟨l,H2,I2,pl,q2⟩ => thn (hu pins s2 σ H2 _ I2 q2) fun vu s3 ⟨u,H3,I3,pu,q3⟩ => ?_)
 rw [evalPart_none]
 refine wpAny_pure ?_
 have I4 : Inv X pins σ H3 { s3 with heap := s3.heap.push { cls := .type "slice",data := .fields #[vl,vu,.none] } } := I3.kept (t' := s3.toks) fun b ob q => Heap.get?_push_of_some _ q
 obtain ⟨T,id,hT,ht,hg⟩ := hr pins { s3 with heap := s3.heap.push { cls := .type "slice",data := .fields #[vl,vu,.none] } } σ H3 x v vl vu l u s3.heap.objs.size Q I4 r1 (Heap.IsSliceOf.new ..) pl pu q3
 show wpAny (model X.prog X.w) X.A (subscriptTail e (.Slice lo hi none p2) v (.ref s3.heap.objs.size)) (EP X pins σ Q) X.xe { s3 with heap := s3.heap.push { cls := .type "slice",data := .fields #[vl,vu,.none] } }
 exact tail_any (ops := [.ref s3.heap.objs.size,v]) ht hT hg (by with_unfolding_all rfl)
noncomputable def cutV (xs : List V) (lo hi : Option Int) : List V := (xs.drop (HT.sIx xs.length 0 lo)).take (HT.sIx xs.length xs.length hi - HT.sIx xs.length 0 lo)
theorem J3l (xs : List V) (lo hi : Option Int) : (cutV xs lo hi).length ≤ xs.length := by
 unfold cutV
 rw [List.length_take,List.length_drop]
 omega
noncomputable def rSlT (K : PySem.W.Frag) : V → Option Int → Option Int → Hp → VK → Prop := fun x lo hi H Q => ∃ a xs,x = .ref a ∧ SqT K H a xs ∧
 ¬ (HT.sIx xs.length 0 lo = 0 ∧ HT.sIx xs.length xs.length hi = xs.length) ∧ ∀ p,H p = none → Q (.ref p) (upd H p (.tup (cutV xs lo hi)))
theorem JfP : SlR X (rSlT X.K) := by
 intro pins s σ H x v vl vu lo hi sl Q I rx hs pl pu h
 obtain ⟨a,xs,rfl,hx,hw,q⟩ := h
 cases rx
 obtain ⟨its,r,ht,hz⟩ := I.tuple hx
 have hlen : its.toArray.size = xs.length := by rw [List.size_toArray]; exact r.length.symm
 refine ⟨"tuple",_,PyProof.Rows.slot_tuple_getitem.lookup,ht.typeIs,?_⟩
 refine HT.getItem_tuple_cut ht hs pl pu (by rw [hlen]; exact hw) ?_ (by rw [hlen]; exact hz)
 rw [hlen]
 refine ⟨.ref s.heap.objs.size,_,I.laid (t' := s.toks) (o := .tup (cutV xs lo hi)) (fun b ob q => Heap.get?_push_of_some _ q) (Nat.le_refl _) ?_,rfl,q _ (I.hok.fresh (Nat.le_refl _))⟩
 exact ⟨Nat.le_trans (J3l xs lo hi) hz,_,(r.drop (HT.sIx xs.length 0 lo)).take (HT.sIx xs.length xs.length hi - HT.sIx xs.length 0 lo),IsTup.new _ _⟩
noncomputable def Jgc (K : PySem.W.Frag) : R2 := fun x y H Q => ∃ a b xs ys,x = .ref a ∧ y = .ref b ∧ SqT K H a xs ∧ SqT K H b ys ∧ xs ≠ [] ∧ xs.length + ys.length ≤ sizeLine ∧
 (ys = [] → Q (.ref a) H) ∧ (ys ≠ [] → ∀ p,H p = none → Q (.ref p) (upd H p (.tup (xs ++ ys))))
theorem Vals.nil_iff {xs : List V} {us : List Value} (r : Vals xs us) : us = [] ↔ xs = [] := by
 cases r with
 | nil => simp
 | cons _ _ => simp
theorem JeH : OpR X (binaryOp .Add) (Jgc X.K) := by
 intro pins s σ H x y v u Q I rx ry h
 obtain ⟨a,b,xs,ys,rfl,rfl,ha,hb,hx,hz,q1,q2⟩ := h
 cases rx
 cases ry
 obtain ⟨its,r1,p1,_⟩ := I.tuple ha
 obtain ⟨its2,r2,p2,_⟩ := I.tuple hb
 refine HT.cat_tup p1 p2 (fun z => hx (r1.nil_iff.mp z)) (fun z => ⟨.ref a,H,I,rfl,q1 (r2.nil_iff.mp z)⟩) (fun z => ?_) (by rw [← r1.length,← r2.length]; exact hz)
 refine ⟨.ref s.heap.objs.size,_,I.laid (t' := s.toks) (o := .tup (xs ++ ys)) (fun b ob q => Heap.get?_push_of_some _ q) (Nat.le_refl _) ?_,rfl,q2 (fun w => z (r2.nil_iff.mpr w)) _ (I.hok.fresh (Nat.le_refl _))⟩
 exact ⟨by rw [List.length_append]; exact hz,_,r1.append r2,IsTup.new _ _⟩
end
end L2
namespace L2
open PySem PySem.Spec PyProof.Rows
noncomputable def ixN (n : Nat) (i : Int) : Option Nat := if 0 ≤ i then (if i < n then some i.toNat else none) else if -(n : Int) ≤ i then some (i + n).toNat else none
noncomputable def atI {α : Type} (xs : List α) (i : Int) : Option α := (ixN xs.length i).bind fun j => xs[j]?
theorem JeQ {n : Nat} {i : Int} {j : Nat} (h : ixN n i = some j) : seqIndex? i n = some j ∧ j < n ∧ -(n : Int) ≤ i ∧ i < n := by
 unfold ixN at h
 by_cases h0 : 0 ≤ i
 ·rw [if_pos h0] at h
  by_cases h1 : i < n
  ·rw [if_pos h1] at h
   have e : i.toNat = j := Option.some.inj h
   exact ⟨by rw [seqIndex_of h0 h1,e],by omega,by omega,h1⟩
  ·rw [if_neg h1] at h; cases h
 ·rw [if_neg h0] at h
  by_cases h1 : -(n : Int) ≤ i
  ·rw [if_pos h1] at h
   have e : (i + n).toNat = j := Option.some.inj h
   exact ⟨by rw [seqIndex_neg (by omega) h1,e],by omega,h1,by omega⟩
  ·rw [if_neg h1] at h; cases h
theorem J8R {α : Type} {xs : List α} {i : Int} {v : α} (h : atI xs i = some v) : ∃ j,seqIndex? i xs.length = some j ∧ xs[j]? = some v ∧ j < xs.length ∧ -(xs.length : Int) ≤ i ∧ i < xs.length := by
 unfold atI at h
 cases e : ixN xs.length i with
 | none => rw [e] at h; cases h
 | some j =>
  rw [e] at h
  obtain ⟨h1,h2,h3,h4⟩ := JeQ e
  exact ⟨j,h1,h,h2,h3,h4⟩
theorem J0E {α : Type} {xs : List α} {j : Nat} {v : α} (h : xs[j]? = some v) : atI xs (j : Int) = some v := by
 have hj : j < xs.length := (List.getElem?_eq_some_iff.mp h).1
 have e : ixN xs.length (j : Int) = some j := by
  unfold ixN
  rw [if_pos (by omega),if_pos (by omega)]; simp
 unfold atI; rw [e]; exact h
noncomputable def JeD (b : Expr) : Prop := ∀ o i,subscripted b false o i = operate [o,i] (getItem o i)
noncomputable def IxR (X : Cx) (r : R2) : Prop :=
 ∀ (value slice : Expr) (pins : List (Addr × Obj)) (s : Shared) (σ : St) (H : Hp) (x y : V) (v u : Value) (Q : VK),Inv X pins σ H s → RelV x v → RelV y u → r x y H Q →
  subscripted slice false v u = operate [v,u] (getItem v u) → wpAny (model X.prog X.w) X.A (subscriptTail value slice v u) (EP X pins σ Q) X.xe s
noncomputable def MtR (X : Cx) (id : String) (r : V → List V → Hp → VK → Prop) : Prop :=
 ∀ (pins : List (Addr × Obj)) (s : Shared) (σ : St) (H : Hp) (x : V) (xs : List V) (v : Value) (us : List Value) (Q : VK),Inv X pins σ H s → RelV x v → Vals xs us → r x xs H Q →
  wpAny (model X.prog X.w) X.A (call (.builtin id) (v :: us)) (EP X pins σ Q) X.xe s
section
variable {X : Cx} {a b : Expr} {ta tb : TE} {pos : Pos}
theorem JE {r : R2} (hr : IxR X r) (ha : PE X a ta) (hb : PE X b tb) (hs : JeD b) : PE X (.Subscript a b pos) (tOp r ta tb) := by
 intro pins s σ H Q I h
 exact Subscript_ (binT ha hb I h fun v u s2 x y H2 I2 rx ry q => hr a b pins s2 σ H2 x y v u Q I2 rx ry q (hs _ _))
noncomputable def rIxL (K : PySem.W.Frag) : R2 := fun x y H Q => ∃ p xs i v,x = .ref p ∧ y = .int i ∧ SqL K H p xs ∧ atI xs i = some v ∧ Q v H
noncomputable def rIxT (K : PySem.W.Frag) : R2 := fun x y H Q => ∃ p xs i v,x = .ref p ∧ y = .int i ∧ SqT K H p xs ∧ atI xs i = some v ∧ Q v H
noncomputable def rIxS : R2 := fun x y H Q => ∃ z i c,x = .str z ∧ y = .int i ∧ z.length ≤ sizeLine ∧ atI z.cps.toList i = some c ∧ Q (.str ⟨#[c]⟩) H
theorem Jep : IxR X (rIxL X.K) := by
 intro value slice pins s σ H x y v u Q I rx ry h hs
 obtain ⟨p,xs,i,z,rfl,rfl,hq,he,q⟩ := h
 cases rx
 obtain ⟨t,rfl⟩ := ry
 obtain ⟨its,r,pl,hz⟩ := I.list hq
 obtain ⟨j,h1,h2,h3,h4,h5⟩ := J8R he
 obtain ⟨w,ew,rw'⟩ := r.get h2
 have hl := r.length
 have hn := J6Y
 have fin : EP X pins σ Q w s := ⟨z,H,I,rw',q⟩
 by_cases h0 : 0 ≤ i
 ·have hj : i.toNat = j := by
   rw [seqIndex_of h0 h5] at h1
   exact Option.some.inj h1
  exact item_listR pl.isList h0 (by omega) (by rw [hj]; simpa using ew) fin hs
 ·have hj : (i + (its.toArray.size : Int)).toNat = j := by
   rw [seqIndex_neg (by omega) h4] at h1
   rw [List.size_toArray,← hl]
   exact Option.some.inj h1
  exact subscriptTail_builtinR (x := w) pl.isList.typeIs slot_list_getitem.lookup
   (wpAny_getItem_list_neg (Q := fun r s' => r = w ∧ EP X pins σ Q r s') pl.isList (by omega) (by rw [List.size_toArray] <;> omega) (by omega) (by rw [hj]; simpa using ew) ⟨rfl,fin⟩) hs
theorem JfO : IxR X (rIxT X.K) := by
 intro value slice pins s σ H x y v u Q I rx ry h hs
 obtain ⟨p,xs,i,z,rfl,rfl,hq,he,q⟩ := h
 cases rx
 obtain ⟨t,rfl⟩ := ry
 obtain ⟨its,r,pl,hz⟩ := I.tuple hq
 obtain ⟨j,h1,h2,h3,h4,h5⟩ := J8R he
 obtain ⟨w,ew,rw'⟩ := r.get h2
 have hl := r.length
 have hn := J6Y
 have fin : EP X pins σ Q w s := ⟨z,H,I,rw',q⟩
 exact subscriptTail_builtinR (x := w) pl.typeIs slot_tuple_getitem.lookup
  (getItem_tuple (j := j) (Q := fun r s' => r = w ∧ EP X pins σ Q r s') pl (by omega) (by omega) (by rw [List.size_toArray,← hl]; exact h1) (by simpa using ew) ⟨rfl,fin⟩) hs
theorem JfW : IxR X rIxS := by
 intro value slice pins s σ H x y v u Q I rx ry h hs
 obtain ⟨z,i,c,rfl,rfl,hz,he,q⟩ := h
 obtain ⟨t,rfl⟩ := rx
 obtain ⟨t',rfl⟩ := ry
 obtain ⟨j,h1,h2,h3,h4,h5⟩ := J8R he
 have hl : z.cps.toList.length = z.length := by simp [Str.length]
 rw [hl] at h1 h4 h5
 have hn := J6Y
 exact tail_any (typeIs_str s z t) slot_str_getitem.lookup (getItem_str (c := c) (by
  have e1 : decide (i < -(2 ^ 63 : Int)) = false := decide_eq_false (by omega)
  have e2 : decide (i ≥ 2 ^ 63) = false := decide_eq_false (by omega)
  rw [e1,e2,Bool.or_false]) (by rw [h1]; simpa using h2) ⟨.str ⟨#[c]⟩,H,I.tok _,⟨_,rfl⟩,q⟩) hs
theorem J9j (lo hi : Option Int) (n : Nat) : (sliceBounds lo hi none n).1 = ((HT.sIx n 0 lo : Nat) : Int) ∧ (sliceBounds lo hi none n).2.1 = ((HT.sIx n n hi : Nat) : Int) ∧ (sliceBounds lo hi none n).2.2 = 1 := by
 refine ⟨?_,?_,rfl⟩
 ·cases lo with
  | none => simp [sliceBounds,HT.sIx]
  | some i =>
   simp only [sliceBounds,HT.sIx,Option.getD_none,show (1 : Int) > 0 by decide,if_true]
   by_cases h : i < 0
   ·simp only [h,if_true] <;> omega
   ·simp only [h,if_false] <;> omega
 ·cases hi with
  | none => simp [sliceBounds,HT.sIx]
  | some i =>
   simp only [sliceBounds,HT.sIx,Option.getD_none,show (1 : Int) > 0 by decide,if_true]
   by_cases h : i < 0
   ·simp only [h,if_true] <;> omega
   ·simp only [h,if_false] <;> omega
theorem J7O (its : List Value) (lo hi : Option Int) : slicePick its.toArray lo hi none = ((its.drop (HT.sIx its.length 0 lo)).take (HT.sIx its.length its.length hi - HT.sIx its.length 0 lo)).toArray := by
 obtain ⟨h1,h2,h3⟩ := J9j lo hi its.toArray.size
 unfold slicePick
 rw [h1,h2,h3]
 simp only [sliceRange_one,pick_run,List.size_toArray] <;> rfl
noncomputable def rSlL (K : PySem.W.Frag) : V → Option Int → Option Int → Hp → VK → Prop := fun x lo hi H Q => ∃ a xs,x = .ref a ∧ SqL K H a xs ∧ ∀ p,H p = none → Q (.ref p) (upd H p (.lst (cutV xs lo hi)))
theorem Jeo : SlR X (rSlL X.K) := by
 intro pins s σ H x v vl vu lo hi sl Q I rx hs pl pu h
 obtain ⟨a,xs,rfl,hx,q⟩ := h
 cases rx
 obtain ⟨its,r,ht,hz⟩ := I.list hx
 have hlen := r.length
 refine ⟨"list",_,slot_list_getitem.lookup,ht.isList.typeIs,?_⟩
 refine wpAny_getItem_list_slice ht.isList hs pl pu .none (by simp) ?_ (by rw [List.size_toArray] <;> omega)
 rw [J7O,← hlen]
 refine ⟨.ref s.heap.objs.size,_,I.laid (t' := s.toks) (o := .lst (cutV xs lo hi)) (fun b ob q => Heap.get?_push_of_some _ q) (Nat.le_refl _) ?_,rfl,q _ (I.hok.fresh (Nat.le_refl _))⟩
 exact ⟨Nat.le_trans (J3l xs lo hi) hz,_,0,(r.drop (HT.sIx xs.length 0 lo)).take (HT.sIx xs.length xs.length hi - HT.sIx xs.length 0 lo),Heap.get?_push_size _ rfl⟩
noncomputable def J0j : V → Bool
 | .non => true
 | .bl _ => true
 | .int _ => true
 | .str _ => true
 | _ => false
noncomputable def eqV : V → V → Bool
 | .non,.non => true
 | .bl a,.bl b => a == b
 | .bl a,.int b => (if a then 1 else 0) == b
 | .int a,.bl b => a == (if b then 1 else 0)
 | .int a,.int b => a == b
 | .str a,.str b => a == b
 | _,_ => false
theorem Jdk {A : Around} {s : Shared} {y x : V} {u v : Value} (ry : RelV y u) (rx : RelV x v) (fy : J0j y = true) (fx : J0j x = true) : SeqAt.EqAt A s u v (eqV y x) := by
 cases y with
 | non =>
  cases ry
  cases x with
  | non => cases rx; exact SeqAt.EqAt.same _
  | bl b => cases rx; exact SeqAt.EqAt.none_bool b
  | int b => obtain ⟨t,rfl⟩ := rx; exact SeqAt.EqAt.none_int b t
  | str b => obtain ⟨t,rfl⟩ := rx; exact SeqAt.EqAt.none_str b t
  | _ => exact absurd (show false = true from fx) Bool.false_ne_true
 | bl a =>
  cases ry
  cases x with
  | non => cases rx; exact SeqAt.EqAt.bool_none a
  | bl b => cases rx; exact SeqAt.EqAt.bool_bool a b
  | int b => obtain ⟨t,rfl⟩ := rx; exact SeqAt.EqAt.bool_int a b t
  | str b => obtain ⟨t,rfl⟩ := rx; exact SeqAt.EqAt.bool_str a b t
  | _ => exact absurd (show false = true from fx) Bool.false_ne_true
 | int a =>
  obtain ⟨t',rfl⟩ := ry
  cases x with
  | non => cases rx; exact SeqAt.EqAt.int_none a t'
  | bl b => cases rx; exact SeqAt.EqAt.int_bool a t' b
  | int b => obtain ⟨t,rfl⟩ := rx; exact SeqAt.EqAt.int_int a t' b t
  | str b => obtain ⟨t,rfl⟩ := rx; exact SeqAt.EqAt.int_str a t' b t
  | _ => exact absurd (show false = true from fx) Bool.false_ne_true
 | str a =>
  obtain ⟨t',rfl⟩ := ry
  cases x with
  | non => cases rx; exact SeqAt.EqAt.str_none a t'
  | bl b => cases rx; exact SeqAt.EqAt.str_bool a t' b
  | int b => obtain ⟨t,rfl⟩ := rx; exact SeqAt.EqAt.str_int a t' b t
  | str b => obtain ⟨t,rfl⟩ := rx; exact SeqAt.EqAt.str_str a t' b t
  | _ => exact absurd (show false = true from fx) Bool.false_ne_true
 | _ => exact absurd (show false = true from fy) Bool.false_ne_true
noncomputable def eqU (x : V) (u : Value) : Bool := match u with
 | .none => eqV .non x
 | .bool b => eqV (.bl b) x
 | .int i _ => eqV (.int i) x
 | .str z _ => eqV (.str z) x
 | _ => false
theorem JcT {x y : V} {u : Value} (r : RelV y u) (f : J0j y = true) : eqU x u = eqV y x := by
 cases y with
 | non => cases r; rfl
 | bl b => cases r; rfl
 | int i => obtain ⟨t,rfl⟩ := r; rfl
 | str z => obtain ⟨t,rfl⟩ := r; rfl
 | _ => exact absurd (show false = true from f) Bool.false_ne_true
theorem J9a {x : V} : ∀ {xs : List V} {us : List Value},Vals xs us → xs.all J0j = true → us.any (eqU x) = xs.any fun y => eqV y x
 | _,_,.nil,_ => rfl
 | y :: xs,u :: us,.cons r t,f => by
  rw [List.all_cons,Bool.and_eq_true] at f
  rw [List.any_cons,List.any_cons,JcT r f.1,J9a t f.2]
theorem J76 {A : Around} {s : Shared} {x : V} {v : Value} (rx : RelV x v) (fx : J0j x = true) : ∀ {xs : List V} {us : List Value},Vals xs us → xs.all J0j = true → ∀ u ∈ us,SeqAt.EqAt A s u v (eqU x u)
 | _,_,.nil,_ => fun u hu => by cases hu
 | y :: xs,u :: us,.cons r t,f => fun u' hu => by
  rw [List.all_cons,Bool.and_eq_true] at f
  rcases List.mem_cons.mp hu with rfl | hu
  ·rw [JcT r f.1]; exact Jdk r rx f.1 fx
  ·exact J76 rx fx t f.2 u' hu
noncomputable def inV (x : V) (xs : List V) : Bool := xs.any fun y => eqV y x
noncomputable def rIn (K : PySem.W.Frag) (neg : Bool) : R2 := fun x y H Q => ∃ p xs,y = .ref p ∧ (SqL K H p xs ∨ SqT K H p xs) ∧ J0j x = true ∧ xs.all J0j = true ∧ Q (.bl (if neg then !inV x xs else inV x xs)) H
theorem Jch : OpR X (compareOp .In) (rIn X.K false) := by
 intro pins s σ H x y v u Q I rx ry h
 obtain ⟨p,xs,rfl,hq,fx,fs,q⟩ := h
 cases ry
 rcases hq with hq | hq
 ·obtain ⟨its,r,pl,hz⟩ := I.list hq
  refine SeqAt.in_listAt (eqU x) pl.isList (fun w hw => J76 rx fx r fs w (by simpa using hw)) ⟨.bl _,H,I,rfl,?_⟩
  rw [show its.toArray.any (eqU x) = its.any (eqU x) by simp,J9a r fs]
  exact q
 ·obtain ⟨its,r,pl,hz⟩ := I.tuple hq
  refine SeqAt.in_tupleAt (eqU x) pl (fun w hw => J76 rx fx r fs w (by simpa using hw)) ⟨.bl _,H,I,rfl,?_⟩
  rw [show its.toArray.any (eqU x) = its.any (eqU x) by simp,J9a r fs]
  exact q
theorem J8Q : J2R X (.builtin "len") (fun xs H Q => ∃ p ys,xs = [.ref p] ∧ (SqL X.K H p ys ∨ SqT X.K H p ys) ∧ Q (.int ys.length) H) := by
 intro pins s σ H xs us Q I r h
 obtain ⟨p,ys,rfl,hq,q⟩ := h
 obtain ⟨u,rfl,rx⟩ := Jad r
 cases rx
 have hn := J6Y
 rcases hq with hq | hq
 ·obtain ⟨its,r',pl,hz⟩ := I.list hq
  have hlen := r'.length
  exact Calls.call_len_list pl.isList (by simp only [List.size_toArray] <;> omega) ⟨.int ys.length,H,I.tok _,⟨s.toks + 1,by rw [List.size_toArray,hlen]⟩,q⟩
 ·obtain ⟨its,r',pl,hz⟩ := I.tuple hq
  have hlen := r'.length
  exact len_tuple pl (by simp only [List.size_toArray] <;> omega) ⟨.int ys.length,H,I.tok _,⟨s.toks + 1,by rw [List.size_toArray,hlen]⟩,q⟩
theorem J98 : J2R X (.builtin "len") (fun xs H Q => ∃ z,xs = [.str z] ∧ z.length ≤ sizeLine ∧ Q (.int z.length) H) := by
 intro pins s σ H xs us Q I r h
 obtain ⟨z,rfl,hz,q⟩ := h
 obtain ⟨u,rfl,t,rfl⟩ := Jad r
 have hn := J6Y
 exact len_str (by omega) ⟨.int z.length,H,I.tok _,⟨_,rfl⟩,q⟩
theorem J16 : J2R X (.type "list") (fun xs H Q => ∃ p ys,xs = [.ref p] ∧ (SqL X.K H p ys ∨ SqT X.K H p ys) ∧ ∀ l,H l = none → Q (.ref l) (upd H l (.lst ys))) := by
 intro pins s σ H xs us Q I r h
 obtain ⟨p,ys,rfl,hq,q⟩ := h
 obtain ⟨u,rfl,rx⟩ := Jad r
 cases rx
 have fin : ∀ (its : List Value),Vals ys its → ys.length ≤ sizeLine → ∀ (h' : Heap) (c' : Nat),(∀ b o',s.heap.get? b = some o' → h'.get? b = some o') →
   h'.get? s.heap.objs.size = some { cls := .type "list",dict := none,data := .seq its.toArray c',slots := #[] } → EP X pins σ Q (.ref s.heap.objs.size) { s with heap := h' } := fun its r' hz h' c' kp e =>
  ⟨.ref s.heap.objs.size,_,I.laid (t' := s.toks) kp (Nat.le_refl _) (show J0Z X.prog X.w _ h' _ (.lst ys) from ⟨hz,its,c',r',e⟩),rfl,q _ (I.hok.fresh (Nat.le_refl _))⟩
 rcases hq with hq | hq
 ·obtain ⟨its,r',pl,hz⟩ := I.list hq
  have hlen := r'.length
  obtain ⟨o,ho,hc,n,hd⟩ := pl.isList
  exact call_list_seq p (.inl rfl) ho hc hd (fun h' c' kp e => fin its r' hz h' c' kp e) (by simp only [List.size_toArray] <;> omega)
 ·obtain ⟨its,r',pl,hz⟩ := I.tuple hq
  have hlen := r'.length
  obtain ⟨o,ho,hc,n,hd⟩ := pl
  exact call_list_seq p (.inr rfl) ho hc hd (fun h' c' kp e => fin its r' hz h' c' kp e) (by simp only [List.size_toArray] <;> omega)
noncomputable def tyV (K : PySem.W.Frag) (T : String) (x : V) (H : Hp) : Prop := match x with
 | .str _ => T = "str"
 | .int _ => T = "int"
 | .ref p => (T = "list" ∧ ∃ xs,SqL K H p xs) ∨ (T = "tuple" ∧ ∃ o,K.lookup p = some o ∧ o.cls = .type "tuple" ∧ o.dict = none) ∨
   (T = "dict" ∧ ((∃ kvs,H p = some (.dK kvs)) ∨ ∃ kvs,H p = some (.dT kvs))) ∨ (T = "set" ∧ ∃ S n,H p = some (.set S n))
 | _ => False
theorem JfA {pins : List (Addr × Obj)} {σ : St} {H : Hp} {s : Shared} {T : String} {x : V} {v : Value} (I : Inv X pins σ H s) (r : RelV x v) (ty : tyV X.K T x H) :
  s.TypeIs v T ∧ ∀ a,v = .ref a → ∃ ob,s.heap.get? a = some ob ∧ ob.dict = none := by
 cases x with
 | str z =>
  obtain ⟨t,rfl⟩ := r
  cases (show T = "str" from ty)
  exact ⟨typeIs_str s z t,fun _ e => nomatch e⟩
 | int i =>
  obtain ⟨t,rfl⟩ := r
  cases (show T = "int" from ty)
  exact ⟨typeIs_int s i t,fun _ e => nomatch e⟩
 | ref p =>
  cases r
  rcases ty with ⟨rfl,xs,hq⟩ | ⟨rfl,o,hk,hc,hd⟩ | ⟨rfl,hk⟩ | ⟨rfl,S,n,hk⟩
  ·obtain ⟨its,_,pl,_⟩ := I.list hq
   refine ⟨pl.isList.typeIs,fun a e => ?_⟩
   cases e
   obtain ⟨o,n,e,c,hd,_⟩ := pl
   exact ⟨o,e,hd⟩
  ·refine ⟨⟨o,I.kIn p o hk,hc⟩,fun a e => ?_⟩
   cases e
   exact ⟨o,I.kIn _ o hk,hd⟩
  ·have z : ∃ o,s.heap.get? p = some o ∧ o.ExactDict := by
    rcases hk with ⟨kvs,hk⟩ | ⟨kvs,hk⟩
    ·obtain ⟨_,_,_,_,o,_,_,e,ex,_⟩ := I.hok p _ hk
     exact ⟨o,e,ex⟩
    ·obtain ⟨_,_,_,_,o,_,_,e,ex,_⟩ := I.hok p _ hk
     exact ⟨o,e,ex⟩
   obtain ⟨o,e,ex⟩ := z
   refine ⟨⟨o,e,ex.1⟩,fun a e2 => ?_⟩
   cases e2
   exact ⟨o,e,ex.2.1⟩
  ·obtain ⟨o,_,_,_,e,ex,_⟩ := I.hok p _ hk
   refine ⟨⟨o,e,ex.1⟩,fun a e2 => ?_⟩
   cases e2
   exact ⟨o,e,ex.2.1⟩
 | _ => exact False.elim ty
noncomputable def tBM (K : PySem.W.Frag) (T : String) (r : V → List V → Hp → VK → Prop) (to : TE) (t : TA) : TE := fun σ H Q => to σ H fun x H1 => tyV K T x H1 ∧ t σ H1 fun xs H2 => r x xs H2 Q
variable {o e : Expr} {es : List Expr} {to : TE} {t : TA} {name : Str} {apos cpos : Pos} {T id : String} {r : V → List V → Hp → VK → Prop}
theorem J3k (pa : PlainAttrs T) (slot : Slot T name id) (hty : typeOf (.builtin id) = pure (.type "method_descriptor")) (hm : MtR X id r) (ho : PE X o to) (ha : PA X (e :: es) t)
  (hbase : attributeBase o name X.env (eval o X.env) = eval o X.env := by rfl)
  (hfew : ((backTo cpos (starEach (e :: es) X.env)).all (fun x => !x.1) && (backToKw cpos (keywordEach [] X.env)).all (fun x => x.1.isSome)
   && decide ((e :: es).length + ([] : List Keyword).length + (if ([] : List Keyword).isEmpty then 0 else 1) < 30)) = true := by rfl)
  (hline : (apos.endLine == cpos.line) = true := by rfl) (hs : starEach (e :: es) X.env = (false,eval e X.env) :: starEach es X.env := by rfl) (hplain : (backTo cpos (starEach es X.env)).any (·.1) = false := by rfl) :
  PE X (.Call (.Attribute o name apos) (e :: es) [] cpos) (tBM X.K T r to t) := by
 intro pins s σ H Q I h
 refine wpAny_Call_method_late hbase hfew hline rfl (thn (ho pins s σ H _ I h) fun v s1 ⟨x,H1,I1,r1,ty,q1⟩ => ?_)
 obtain ⟨h1,h2⟩ := JfA I1 r1 ty
 refine ⟨T,id,pa,slot,hty,h1,h2,?_⟩
 have hA := ha cpos pins s1 σ H1 _ I1 q1
 rw [hs] at hA ⊢
 refine Calls.callWith_builtin (by show (false || (backTo cpos (starEach es X.env)).any (·.1)) = false; rw [hplain] <;> rfl) (Calls.evalArgs_plain ?_)
 exact thn hA fun us s2 ⟨vs,H2,I2,r2,q2⟩ => hm pins s2 σ H2 x vs v us Q I2 r1 r2 q2
end
end L2
namespace L2
open PySem PySem.Spec PyProof.Rows
noncomputable def MtM (X : Cx) (id : String) (r : V → List V → Hp → VK → Prop) : Prop :=
 ∀ (pins : List (Addr × Obj)) (s : Shared) (σ : St) (H : Hp) (x : V) (xs : List V) (v : Value) (us : List Value) (Q : VK),Inv X pins σ H s → RelV x v → Vals xs us → r x xs H Q →
  wpAny (model X.prog X.w) X.A (call (.builtin id) (v :: us)) (EP X pins σ Q) X.xe s
theorem Vals.one : ∀ {x : V} {us : List Value},Vals [x] us → ∃ u,us = [u] ∧ RelV x u
 | _,_,.cons r .nil => ⟨_,rfl,r⟩
theorem Vals.two : ∀ {x y : V} {us : List Value},Vals [x,y] us → ∃ u v,us = [u,v] ∧ RelV x u ∧ RelV y v
 | _,_,_,.cons r (.cons q .nil) => ⟨_,_,rfl,r,q⟩
section
variable {X : Cx} {pins : List (Addr × Obj)} {σ : St} {H : Hp} {s : Shared} {l b : Addr} {xs ys zs : List V}
theorem Inv.lset {its its' : List Value} {n : Nat} {f : Array Value → Array Value} {t' : Nat} (I : Inv X pins σ H s) (hH : H l = some (.lst xs))
  (e : s.heap.get? l = some { cls := .type "list",data := .seq its.toArray n }) (hf : f its.toArray = its'.toArray) (hv : Vals ys its') (hz : ys.length ≤ sizeLine) :
  Inv X pins σ (upd H l (.lst ys)) { s with heap := s.heap.update l (Obj.mapSeq f),toks := t' } := by
 have q := PySem.IsL.update e f
 rw [hf] at q
 refine I.write (x := l) (e := l) (by rw [hH]; exact trivial) (.inl rfl) (fun b' u hb hu => (Heap.get?_update_other s.heap (Obj.mapSeq f) (Ne.symm hb)).trans hu) ⟨_,q⟩ ?_
 exact ⟨hz,its',_,hv,q⟩
theorem Inv.lnew {its : List Value} {t' : Nat} (I : Inv X pins σ H s) (hv : Vals ys its) (hz : ys.length ≤ sizeLine) :
  Inv X pins σ (upd H s.heap.objs.size (.lst ys)) { s with heap := s.heap.push { cls := .type "list",data := .seq its.toArray },toks := t' } :=
 I.laid (fun _ _ q => Heap.get?_push_of_some _ q) (Nat.le_refl _) ⟨hz,its,0,hv,Heap.get?_push_size _ rfl⟩
theorem Inv.lstM (I : Inv X pins σ H s) (hH : H l = some (.lst xs)) : xs.length ≤ sizeLine ∧ ∃ (its : List Value) (n : Nat),Vals xs its ∧ xs.length = its.length ∧ s.heap.get? l = some { cls := .type "list",data := .seq its.toArray n } := by
 obtain ⟨z,its,n,r,e⟩ := I.hok l _ hH
 exact ⟨z,its,n,r,r.length,e⟩
theorem Jd1 {n : Nat} (h : n ≤ sizeLine) : Builtin.List.listTooLong n = false := by
 unfold Builtin.List.listTooLong
 exact decide_eq_false (by omega)
end
section
variable {X : Cx}
noncomputable def Jen : V → List V → Hp → VK → Prop := fun x vs H Q => ∃ l xs y,x = .ref l ∧ vs = [y] ∧ H l = some (.lst xs) ∧ xs.length < sizeLine ∧ Q .non (upd H l (.lst (xs ++ [y])))
theorem J09 : MtM X "list.append" Jen := by
 intro pins s σ H x vs v us Q I rx rv h
 obtain ⟨l,xs,y,rfl,rfl,hH,hz,q⟩ := h
 cases rx
 obtain ⟨u,rfl,ru⟩ := rv.one
 obtain ⟨z,its,n,r,hl,e⟩ := I.lstM hH
 refine call_meets F.slot_list_append ⟨_,e,rfl⟩ F.entry_list_append (F.args_list_append_2 _ _) (PySem.list_append l its.toArray n u (by rw [List.size_toArray]; omega)) ⟨e,?_⟩
 refine ⟨.non,_,I.lset (its' := its ++ [u]) hH e (by simp) (r.append (.cons ru .nil)) ?_,rfl,q⟩
 rw [List.length_append,List.length_singleton]
 omega
end
section
variable {prog : Program} {w : World} {A : Around} {E : Value → Shared → Prop} {s : Shared}
end
section
variable {X : Cx}
end
end L2
namespace Att
open PySem PySem.W PySem.Calls PyProof.Rows
theorem J64 {P : Params} {h : Heap} : ∀ (ns : List Int) (vs : List Value),WellAll P h vs (ns.map WData.int) → IntsAre vs ns := by
 intro ns
 induction ns with
 | nil =>
  intro vs w
  rw [List.map_nil] at w
  cases w
  exact .nil
 | cons n ns ih =>
  intro vs w
  rw [List.map_cons] at w
  cases w with
  | cons a b =>
   cases a
   exact .cons _ _ (ih _ b)
theorem Jcd {l : OpenLaw} {n : Nat} (hn : l.most = some n) {P : Params} {h : Heap} {args : List WData} {vals : List Value}
  (hpre : l.row.toRowW.claim.pre args = true) (hwl : WellAll P h vals args) :
  ∃ a vs ns,vals = [Value.ref a] ∧ args = [WData.list (ns.map WData.int)] ∧ h.get? a = some { cls := .type "list",data := .seq vs.toArray } ∧ IntsAre vs ns ∧ ns.length ≤ n := by
 have hsh : WShape.hasAll [] args [.list .int] = true := (pre_splitW hpre).1
 have hc : l.pre.holds [] { args := args } = true := (pre_splitW hpre).2
 obtain ⟨d,r,rfl,h1,h2⟩ := hasAllW_cons hsh
 obtain rfl := hasAllW_nil h2
 obtain ⟨xs,rfl,h3⟩ := hasW_list h1
 obtain ⟨ns,rfl⟩ := items_int h3
 have hlen : ns.length ≤ n := by
  unfold OpenLaw.pre at hc
  have h4 : (WTm.not (.lt (.lit (.int (n : Int))) (.len (.arg 0)))).holds [] { args := [.list (ns.map .int)] } = true := by
   have h4 := (holds_andW hc).1
   rw [hn] at h4
   exact h4
  have h5 := condW_of h4 (w_not (w_lt w_lit (w_len_list (w_arg rfl))))
  rw [List.length_map] at h5
  refine Nat.le_of_not_lt fun q => ?_
  have q' : (n : Int) < ((ns.length : Nat) : Int) := by omega
  first
   | (rw [decide_eq_true q'] at h5; exact absurd h5 (by decide))
   | (simp at h5; omega)
 cases hwl with
 | cons w1 w2 =>
  cases w2
  cases w1 with
  | list ho hall => exact ⟨_,_,ns,rfl,rfl,ho,J64 ns _ hall,hlen⟩
theorem Jc2 (l : OpenLaw) (args : List WData) : l.row.toRowW.claim.post args (.bool true) args = true :=
 postW_of (r := l.row.toRowW) (X := (true == true))
  (show WShape.has [] (.bool true) .bool = true by first | rfl | decide | simp [WShape.has,WShape.arms,WShape.armsAll])
  (show (WTm.eq .res (.lit (.bool true))).value [] { args := args,res := some (.bool true),after := args } = some (.bool (true == true)) from w_eq_bool (w_res rfl) w_lit) rfl
theorem attach_call {l : OpenLaw} {n : Nat} {q : Program} {loose : List Str} {XP : (Str → Option Value) → Heap → Prop} {YP : World → Heap → Prop} {d : DefRec}
  (hn : l.most = some n) (hdf : d.params.defaults = [])
  (call : ∀ (w : World) (s₀ s₁ : Shared) (mg mb : Str → Option Value) (fa : Addr) (o : Obj) (pm cd doc : Value) (a : Addr) (vs : List Value) (ns : List Int),
   Ground q loose [] XP w s₀ mg mb s₁.heap → YP w s₁.heap →
   s₁.heap.get? fa = some o → o.data = .func (docDef d.name d.params d.body d.scope pm cd doc) → s₁.heap.CodeRec cd d.name → mg d.name = some (.ref fa) →
   s₁.heap.get? a = some { cls := .type "list",data := .seq vs.toArray } → IntsAre vs ns → ns.length ≤ n → s₁.gens = #[] →
   codeAny (model l.prog w) callerA (.call (.ref fa) ⟨[.ref a],[]⟩) (fun r s' => r = .ok (.ret (.bool true)) ∧ OldK s₁.heap s'.heap ∧ s'.os = s₁.os ∧ AllBare s'.gens) s₁) :
  WalkO q loose XP YP l.row.toRowW d [] (fun f vs => PySem.call f vs) := by
 intro w s₀ s₁ mg mb G Y fa o pm cd doc dV kV ho hd hcd hD hmg hg args vals as hpre hlay hrd hwl hlo
 obtain rfl : dV = .none := Dflts.none hD hdf
 obtain rfl : kV = .none := Dflts.noKw hD
 obtain ⟨a,vs,ns,rfl,rfl,hobj,hints,hlen⟩ := Jcd hn hpre hwl
 refine enter_call (codeAny_mono (call w s₀ s₁ mg mb fa o pm cd doc a vs ns G Y ho (fd_plain hd) hcd hmg hobj hints hlen hg) fun r s' hq => ?_)
 obtain ⟨rfl,h2,h3,h4⟩ := hq
 exact ⟨.inl ⟨.bool true,.bool true,[],rfl,fun _ => rfl,.bool true,Jc2 l _,fun _ => ⟨List.Pairwise.nil,fun _ hm => (nomatch hm)⟩⟩,h2,h3,h4⟩
section
variable {prog : Program} {w : World} {A : Around} {E : Value → Shared → Prop} {s : Shared} {K : Frag}
end
end Att
namespace L2
open PySem PySem.Spec PyProof.Rows
theorem J83 : ∀ {vs : List Value} {ns : List Int},IntsAre vs ns → Vals (ns.map V.int) vs
 | _,_,.nil => .nil
 | _,_,.cons n t h => .cons ⟨t,rfl⟩ (J83 h)
noncomputable def Only (H : Hp) : Prop := ∀ b,H b = none ∨ ∃ o xs,H b = some (.frz o (.lst xs))
theorem Jd7 {P : Program} {w : World} {K : PySem.W.Frag} {mg mb : Str → Option Value} {CX : CXT} {k : Nat} {fa a : Addr} {fd : FuncData} {x : Str} {sp : Sp} {s₁ : Shared} {vs : List Value} {ns : List Int}
  (KX : K.In s₁.heap) (hns : s₁.heap.Ns mainGlobals mg) (hb : s₁.heap.Ns builtinsNs mb) (hbb : ∀ x : Str,x ≠ "__name__" → mb x = bootBuiltins x) (hlim : s₁.heap.NoLimit) (hg : s₁.gens = #[])
  (ha : s₁.heap.get? a = some { cls := .type "list",data := .seq vs.toArray }) (hi : IntsAre vs ns) (hl : ns.length ≤ sizeLine) (hr : Room k callerA)
  (F : ∀ base : Heap,K.In base → base.Ns mainGlobals mg → FnOk P w K mg base CX k fa fd [x] sp) (hbind : ∀ (s : Shared) (u : Value),BindsTo s fd ⟨[u],[]⟩ [(x,u)])
  (hsp : ∀ H : Hp,Only H → SqL K H a (ns.map V.int) → sp [.ref a] H (fun v _ => v = .bl true) fun _ _ _ => False)
  (hCX : ∀ H e s',CX [] H s₁ (fun _ _ _ => False) e s' → False) :
  codeAny (model P w) callerA (.call (.ref fa) ⟨[.ref a],[]⟩) (fun r s' => r = .ok (.ret (.bool true)) ∧ OldK s₁.heap s'.heap ∧ s'.os = s₁.os ∧ AllBare s'.gens) s₁ := by
 have rv := J83 hi
 have lenV := hi.length
 have core : ∀ H : Hp,Only H → SqL K H a (ns.map V.int) → HOk P w H s₁.heap → (∀ b,H b ≠ none → b = a) → (H a ≠ none → K.lookup a = none) →
   codeAny (model P w) callerA (.call (.ref fa) ⟨[.ref a],[]⟩) (fun r s' => r = .ok (.ret (.bool true)) ∧ OldK s₁.heap s'.heap ∧ s'.os = s₁.os ∧ AllBare s'.gens) s₁ := by
  intro H hO hS hok hA hK
  have base_of : ∀ {b : Addr} {o : Obj},s₁.heap.get? b = some o → H b = none → (hidT s₁.heap H).get? b = some o := fun e n => JcZ e n
  have noA : ∀ {b : Addr} {o : Obj} {es : Array DictEntry} {ep : Nat},s₁.heap.get? b = some o → o.data = .dict es ep → H b = none := fun {b o es ep} e d => by
   cases q : H b with
   | none => rfl
   | some u =>
    have e' : b = a := hA b (by rw [q]; simp)
    subst e'
    rw [ha] at e; cases e
    have d' : Data.seq vs.toArray _ = Data.dict es ep := d
    cases d'
  have nsK : ∀ {b : Addr} {m : Str → Option Value},s₁.heap.Ns b m → (hidT s₁.heap H).Ns b m := fun {b m} ⟨o,es,ep,e,d,r⟩ => ⟨o,es,ep,base_of e (noA e d),d,r⟩
  have hKb : K.In (hidT s₁.heap H) := fun b o e => base_of (KX b o e) (by
   cases q : H b with
   | none => rfl
   | some u =>
    have e' : b = a := hA b (by rw [q]; simp)
    subst e'
    rw [hK (by rw [q]; simp)] at e; cases e)
  have hM : Mod K mg (hidT s₁.heap H) := ⟨hKb,nsK hns,⟨mb,nsK hb,hbb⟩,let ⟨mc,h1,h2⟩ := hlim; ⟨mc,nsK h1,h2⟩⟩
  have e0 : Env0 P w K mg (hidT s₁.heap H) callerA [] s₁ H := ⟨rfl,hM,fun b o e => JeF e,Nat.le_of_eq (Jca _ _),trivial,fun b hb => absurd (show b ∈ ([] : List Addr) from hb) (by simp),hok,.of_eq hg⟩
  refine codeAny_mono ((F _ hKb (nsK hns)).run callerA [] s₁ H ⟨[.ref a],[]⟩ [.ref a] [.ref a] _ _ hr e0 (hbind s₁ (.ref a)) (.cons rfl .nil) (hsp H hO hS)) fun r s' h => ?_
  cases r with
  | error e => exact (hCX H e s' h).elim
  | ok fl =>
   cases fl with
   | next => exact False.elim h
   | brk => exact False.elim h
   | cont => exact False.elim h
   | ret u =>
    obtain ⟨v,H',os,bare,un,hok',r',q⟩ := h
    have q' : v = .bl true := q
    subst q'
    obtain rfl : u = Value.bool true := r'
    refine ⟨rfl,OldK.of_keep fun b o e => ?_,os,bare⟩
    cases q : H b with
    | none => exact un.keep b o e q (by intro z; exact absurd (show b ∈ ([] : List Addr) from z) (by simp)) (by simp)
    | some u =>
     rcases hO b with z | ⟨ob,xs,z⟩
     ·rw [q] at z; cases z
     ·have z2 := un.frzs b ob _ z
      obtain ⟨e1,_⟩ := hok b _ z
      obtain ⟨e2,_⟩ := hok' b _ z2
      rw [e] at e1; cases e1
      exact e2
 cases hk : K.lookup a with
 | some o =>
  have e := KX a o hk
  rw [ha] at e
  cases e
  refine core (fun _ => none) (fun _ => .inl rfl) (.inr ⟨_,vs.toArray,_,hk,rfl,rfl,rfl,by rw [List.size_toArray,lenV]; exact hl,by simpa using rv⟩) (fun b u z => by have z' : (none : Option HO) = some u := z; cases z') (fun b z => absurd rfl z) fun z => absurd rfl z
 | none =>
  refine core (fun b => if b = a then some (.frz { cls := .type "list",data := .seq vs.toArray } (.lst (ns.map V.int))) else none) (fun b => ?_) (.inl (.inr ⟨{ cls := .type "list",data := .seq vs.toArray },if_pos rfl⟩)) (fun b u z => ?_) (fun b z => ?_) fun _ => hk
  ·by_cases hb : b = a
   ·exact .inr ⟨_,_,if_pos hb⟩
   ·exact .inl (if_neg hb)
  ·by_cases hb : b = a
   ·have z' := (if_pos hb).symm.trans z
    cases z'
    subst hb
    exact ⟨ha,by rw [List.length_map]; exact hl,vs,_,rv,ha⟩
   ·have z' := (if_neg hb).symm.trans z
    cases z'
  ·by_cases hb : b = a
   ·exact hb
   ·exact absurd (if_neg hb) z
end L2
namespace L2
open PySem PySem.Spec PyProof.Rows
theorem walk_of {l : PySem.W.OpenLaw} {n k : Nat} {q : Program} {loose : List Str} {XP : (Str → Option Value) → Heap → Prop} {YP : World → Heap → Prop} {d : DefRec} {K : Params → PySem.W.Frag} {CX : World → CXT} {sp : World → Sp} {x : Str}
  (hn : l.most = some n) (hn2 : n ≤ sizeLine) (hdf : d.params.defaults = []) (hr : Room k callerA)
  (hY : ∀ (w : World) (h : Heap),YP w h → (K w.params).In h)
  (F : ∀ (w : World) (mg : Str → Option Value) (fa : Addr) (h : Heap),(K w.params).In h → h.Ns mainGlobals mg → mg d.name = some (.ref fa) →
   ∃ fd : FuncData,(∀ (s : Shared) (u : Value),BindsTo s fd ⟨[u],[]⟩ [(x,u)]) ∧
    ∀ base : Heap,(K w.params).In base → base.Ns mainGlobals mg → FnOk l.prog w (K w.params) mg base (CX w) k fa fd [x] (sp w))
  (hsp : ∀ (w : World) (H : Hp) (a : Addr) (ns : List Int),ns.length ≤ n → Only H → SqL (K w.params) H a (ns.map V.int) → sp w [.ref a] H (fun v _ => v = .bl true) fun _ _ _ => False)
  (hCX : ∀ (w : World) (H : Hp) (s : Shared) (e : Value) (s' : Shared),CX w [] H s (fun _ _ _ => False) e s' → False) :
  PySem.W.WalkO q loose XP YP l.row.toRowW d [] (fun f vs => PySem.call f vs) := by
 refine Att.attach_call hn hdf fun w s₀ s₁ mg mb fa o pm cd doc a vs ns G Y ho hd hcd hmg hobj hints hlen hg => ?_
 have KX := hY w _ Y
 obtain ⟨fd,hb,hF⟩ := F w mg fa _ KX G.T.g hmg
 exact Jd7 KX G.T.g G.T.b G.T.builtins G.T.nolimit hg hobj hints (Nat.le_trans hlen hn2) hr hF hb (fun H hO hS => hsp w H a ns hlen hO hS) fun H e s' => hCX w H s₁ e s'
end L2
namespace L2
open PySem PySem.Spec PyProof.Rows
noncomputable def J02 (s : Stmt) (j : Nat) : Stmt := match s with
 | .ClassDef _ _ _ body _ _ _ _ _ _ _ => body.getD j (.Pass ⟨0,0,0,0⟩)
 | _ => .Pass ⟨0,0,0,0⟩
noncomputable def Jm (s : Stmt) : Arguments := match s with
 | .FunctionDef _ a _ _ _ _ _ _ _ _ => a
 | _ => { posonlyargs := [],args := [],vararg := none,kwonlyargs := [],kw_defaults := [],kwarg := none,defaults := [] }
noncomputable def Jk (s : Stmt) : List Stmt := match s with
 | .FunctionDef _ _ b _ _ _ _ _ _ _ => b
 | _ => []
noncomputable def J4 (s : Stmt) : Scope := match s with
 | .FunctionDef _ _ _ _ _ _ sc _ _ _ => sc
 | _ => { kind := .function,names := [],isGenerator := false,isCoroutine := false }
noncomputable abbrev CX0 : CXT := fun _ _ _ _ _ _ => False
noncomputable abbrev E0 : XK := fun _ _ _ => False
theorem Jae {X : Cx} : J74 CX0 X E0 := fun _ _ _ _ _ _ _ h => h.elim
structure Fun (K : PySem.W.Frag) (x qual : Str) (st : Stmt) (f : Addr) (fd : FuncData) : Prop where
 ex : ∃ (oc : Value) (od : Option Addr) (kV doc pm : Value) (an : Option Addr) (cdv ct : Value) (osl : Array (Option Value)),
  fd = PySem.W.fnOf x qual (Jm st) (Jk st) (J4 st) .none kV doc pm an cdv ct ∧ K.lookup f = some ⟨oc,od,.func fd,osl⟩ ∧ PySem.W.codeIn K cdv qual = true
 kp : PySem.W.keepIn K (.ref f) = true
section
variable {P : Program} {w : World} {K : PySem.W.Frag} {mg : Str → Option Value} {base : Heap}
theorem Fun.ok {x qual : Str} {st : Stmt} {f : Addr} {fd : FuncData} {N ps : List Str} {k : Nat} {sp : Sp} (F : Fun K x qual st f fd) (S : Jn N ps (J4 st)) (len : ∀ vs H Q E,sp vs H Q E → vs.length = ps.length)
  (hbody : ∀ (cdv : Value) (A : Around) (outer : List Env) (s : Shared) (H : Hp) (vs : List V) (Q : VK) (E : XK),Room k (A.deeper (envOfC qual (J4 st) s.heap.objs.size f cdv)) → sp vs H Q E →
   ∃ t,PSs (cxOf CX0 P w K mg base N qual (J4 st) f cdv A outer s H E).nox (Jk st) t ∧ t { nx := fun _ H' => Q .non H',rt := Q } (start N vs) H) : FnOk P w K mg base CX0 (k + 1) f fd ps sp := by
 obtain ⟨oc,od,kV,doc,pm,an,cdv,ct,osl,rfl,lk,hcd⟩ := F.ex
 refine Jgi lk hcd S len fun A outer s H vs Q E hr hsp => ?_
 obtain ⟨t,h,q⟩ := hbody cdv A outer s H vs Q E hr hsp
 exact ⟨t,h.nox,q⟩
theorem Fun.binds {x qual : Str} {st : Stmt} {f : Addr} {fd : FuncData} {ps : List Str} (F : Fun K x qual st f fd)
  (h : ∀ (kV doc pm : Value) (an : Option Addr) (cdv ct : Value) (us : List Value),us.length = ps.length → bindArgs (PySem.W.fnOf x qual (Jm st) (Jk st) (J4 st) .none kV doc pm an cdv ct) ⟨us,[]⟩ = pure (ps.zip us)) : J4u K fd ps [] := by
 obtain ⟨oc,od,kV,doc,pm,an,cdv,ct,osl,rfl,lk,hcd⟩ := F.ex
 exact .all (h kV doc pm an cdv ct)
theorem Js {x qual : Str} {st : Stmt} {f : Addr} {oc : Value} {od an : Option Addr} {osl : Array (Option Value)} {kV doc pm cdv ct : Value} (l : K.lookup f = some ⟨oc,od,.func (PySem.W.fnOf x qual (Jm st) (Jk st) (J4 st) .none kV doc pm an cdv ct),osl⟩)
  (c : PySem.W.codeIn K cdv qual = true) (k : PySem.W.keepIn K (.ref f) = true) : Fun K x qual st f (PySem.W.fnOf x qual (Jm st) (Jk st) (J4 st) .none kV doc pm an cdv ct) := ⟨⟨oc,od,kV,doc,pm,an,cdv,ct,osl,rfl,l,c⟩,k⟩
end
theorem J5k {A : Around} {k : Nat} (hr : Room k A) : A.units + 1 < cLine := Nat.lt_of_le_of_lt (Nat.add_le_add_left (by decide : 1 ≤ 64) _) hr.units
section
variable {X : Cx}
theorem pv (i : Nat) {x : Str} {pos : Pos} (hN : X.N[i]? = some x := by rfl) (hv : Vis X.env.scope x := by first | exact Or.inl rfl | exact Or.inr (Or.inl rfl) | exact Or.inr (Or.inr rfl)) (hd : (x == ("__debug__" : Str)) = false := by decide)
  (hcd : (x == ("__classdict__" : Str)) = false := by decide) : PE X (.Name x pos) (tVar i) := JfF hN hv hd hcd
end
theorem iteF {A B : Prop} (h : B) : if false = true then A else B := by
 rw [if_neg Bool.false_ne_true]
 exact h
theorem iteT {A B : Prop} (h : A) : if true = true then A else B := by
 rw [if_pos rfl]
 exact h
theorem ite2 {c A B : Prop} [Decidable c] (h1 : c → A) (h2 : ¬ c → B) : if c then A else B := by
 by_cases h : c
 ·rw [if_pos h]
  exact h1 h
 ·rw [if_neg h]
  exact h2 h
noncomputable def Same (H H' : Hp) : Prop := ∀ b o,H b = some o → H' b = some o
theorem Same.refl (H : Hp) : Same H H := fun _ _ h => h
theorem Same.trans {H H1 H2 : Hp} (a : Same H H1) (b : Same H1 H2) : Same H H2 := fun c o h => b c o (a c o h)
theorem Same.free {H H' : Hp} (e : Same H H') {l : Addr} (h : H' l = Option.none) : H l = Option.none := by
 cases q : H l with
 | none => rfl
 | some o =>
  rw [e l o q] at h
  cases h
theorem Same.seq {K : PySem.W.Frag} {H H' : Hp} {a : Addr} {xs : List V} (e : Same H H') (h : SqL K H a xs) : SqL K H' a xs := by
 rcases h with (h | ⟨o,h⟩) | h
 ·exact .inl (.inl (e _ _ h))
 ·exact .inl (.inr ⟨o,e _ _ h⟩)
 ·exact .inr h
end L2
set_option linter.all false
set_option maxRecDepth 100000
set_option maxHeartbeats 4000000
namespace L2
open PySem PySem.Spec PyProof.Rows
theorem J4t {scope : Scope} {env : Env} (h : ∀ y ∈ scope.names,y.2 = .free → ∃ c,env.cells.lookup y.1 = some c) :
  ∃ cl,closureFor scope env = pure cl ∧ (∀ y ∈ scope.names,y.2 = NameKind.free → cl.lookup y.1 = env.cells.lookup y.1) ∧ (∀ x c,cl.lookup x = some c → env.cells.lookup x = some c) := by
 have key : ∀ (names : List (Str × NameKind)) (acc : List (Str × Addr)) (f : Str × NameKind → List (Str × Addr) → Sem (ForInStep (List (Str × Addr)))),
   (∀ x cs,f x cs = if (x.2 == NameKind.free) = true then (cellOf env x.1 >>= fun a => pure (ForInStep.yield ((x.1,a) :: cs))) else pure (ForInStep.yield cs)) →
   (∀ y ∈ names,y.2 = .free → ∃ c,env.cells.lookup y.1 = some c) → (∀ x c,acc.lookup x = some c → env.cells.lookup x = some c) →
   ∃ cl,forIn names acc f = pure cl ∧ (∀ x c,acc.lookup x = some c → cl.lookup x = env.cells.lookup x) ∧ (∀ y ∈ names,y.2 = NameKind.free → cl.lookup y.1 = env.cells.lookup y.1) ∧ (∀ x c,cl.lookup x = some c → env.cells.lookup x = some c) := by
  intro names
  induction names with
  | nil =>
   intro acc f _ _ ha
   exact ⟨acc,rfl,fun x c e => by rw [e,ha x c e],fun _ h => (nomatch h),ha⟩
  | cons y r ih =>
   intro acc f hf hn ha
   obtain ⟨n,k⟩ := y
   rw [List.forIn_cons,hf]
   by_cases hk : k = .free
   ·subst hk
    obtain ⟨c,hc⟩ := hn (n,.free) List.mem_cons_self rfl
    have hc' : cellOf env n = pure c := by unfold cellOf; rw [hc]
    have ha' : ∀ x d,((n,c) :: acc).lookup x = some d → env.cells.lookup x = some d := fun x d e => by
     rw [List.lookup_cons] at e
     cases hx : x == n with
     | true =>
      rw [hx] at e
      have e' : c = d := Option.some.inj e
      have hx' : x = n := by simpa using hx
      rw [hx',hc,e']
     | false =>
      rw [hx] at e
      exact ha x d e
    obtain ⟨cl,e,h1,h2,h3⟩ := ih ((n,c) :: acc) f hf (fun y hy => hn y (List.mem_cons_of_mem _ hy)) ha'
    refine ⟨cl,?_,fun x d ex => ?_,fun y hy hyf => ?_,h3⟩
    ·rw [if_pos (by rfl)]
     show ((cellOf env n >>= fun a => pure (ForInStep.yield ((n,a) :: acc))) >>= _) = pure cl
     rw [hc',pure_bind,pure_bind]
     exact e
    ·by_cases hxn : x = n
     ·subst hxn
      exact h1 x c (by rw [List.lookup_cons,beq_self_eq_true])
     ·refine h1 x d ?_
      rw [List.lookup_cons,beq_eq_false_iff_ne.mpr hxn]
      exact ex
    ·rcases List.mem_cons.mp hy with rfl | hy
     ·exact h1 _ c (by rw [List.lookup_cons,beq_self_eq_true])
     ·exact h2 y hy hyf
   ·have hb : (k == NameKind.free) = false := by simpa using hk
    obtain ⟨cl,e,h1,h2,h3⟩ := ih acc f hf (fun y hy => hn y (List.mem_cons_of_mem _ hy)) ha
    refine ⟨cl,?_,h1,fun y hy hyf => ?_,h3⟩
    ·show ((if (k == NameKind.free) = true then _ else pure (ForInStep.yield acc)) >>= _) = pure cl
     rw [if_neg (by rw [hb]; exact Bool.false_ne_true),pure_bind]
     exact e
    ·rcases List.mem_cons.mp hy with rfl | hy
     ·exact absurd hyf hk
     ·exact h2 y hy hyf
 have z := key scope.names [] (fun x cs => if (x.2 == NameKind.free) = true then (cellOf env x.1 >>= fun a => pure (ForInStep.yield ((x.1,a) :: cs))) else pure (ForInStep.yield cs)) (fun _ _ => rfl) h (fun _ _ e => (nomatch e))
 obtain ⟨cl,e,_,h2,h3⟩ := z
 refine ⟨cl,?_,h2,h3⟩
 show (forIn scope.names [] _ >>= pure) = pure cl
 exact (congrArg (· >>= pure) e).trans (pure_bind _ _)
noncomputable abbrev J1j (X : Cx) (scope : Scope) (N : List Str) (s₀ : Shared) (H₀ : Hp) (cl : List (Str × Addr)) (C : Addr) (ex : List Addr) : Cx :=
 {prog := X.prog,w := X.w,K := X.K,mg := X.mg,base := X.base,A := X.A,N := N,s₀ := s₀,H₀ := H₀,env := compEnvC scope cl C X.env,
  outer := X.stack,stack := X.stack,ex := ex,fn := fun _ => false,calm := X.calm,pn := [],xe := fun _ _ => False }
theorem J58 {prog : Program} {w : World} {A : Around} {R : Result → Shared → Prop} {s : Shared} {elt target iter : Expr} {ifs : List Expr} {scope : Scope} {pos : Pos} {it acc : Value} {env : Env} (I : Nat → Shared → Prop)
  (turn : ∀ n s,I n s → wpAny (model prog w) A (pyNext it) (fun r s₁ => match r with
   | none => R (.ok .next) s₁
   | some v => wpAny (model prog w) A (letOwnedTupleGo target it v) (fun _ s₁' => wpAny (model prog w) A (assign target env v) (fun _ s₂ =>
     wpAny (model prog w) A (forIn ifs true fun c r => if r = true then do let ok ← isTrue c env (eval c env); pure (ForInStep.yield ok) else pure (ForInStep.yield r)) (fun ok s₃ =>
      if ok = true then wpAny (model prog w) A (eval elt env) (fun x s₄ =>
       wpAny (model prog w) A (call (.builtin "list.append") [acc,x]) (fun _ s₅ => ∃ m,m < n ∧ I m s₅) (fun _ _ => False) s₄) (fun _ _ => False) s₃
      else ∃ m,m < n ∧ I m s₃) (fun _ _ => False) s₂) (fun _ _ => False) s₁') (fun _ _ => False) s₁) (fun _ _ => False) s)
  (n : Nat) (h : I n s) :
  codeAny (model prog w) A (.compLoop (.ListComp elt [⟨target,iter,ifs,0⟩] scope pos) 0 it acc env) R s := by
 refine codeAny_loop rfl I (fun n s hI => ?_) n h
 show wpAny _ A ((compTurn (.ListComp elt [⟨target,iter,ifs,0⟩] scope pos) 0 it acc env).onRaise (fun x => do noteFrame x env; theTreesLotGoes x)) _ _ s
 refine wpAny_noted ?_
 rw [compTurn_list]
 refine wpAny_bind (wpAny_standAt (wpAny_bind (wpAny_mono (turn n s hI) (fun r s₁ h₁ => ?_) fun _ _ z => z.elim)))
 cases r with
 | none => exact wpAny_pure h₁
 | some v =>
  refine wpAny_bind (wpAny_mono h₁ (fun _ s₁' h₁' => ?_) fun _ _ z => z.elim)
  refine wpAny_bind (wpAny_mono h₁' (fun _ s₂ h₂ => wpAny_bind (wpAny_mono h₂ (fun ok s₃ h₃ => ?_) fun _ _ z => z.elim)) fun _ _ z => z.elim)
  cases ok with
  | false => exact wpAny_pure ⟨rfl,h₃⟩
  | true =>
   exact wpAny_bind (wpAny_bind (wpAny_mono h₃ (fun x s₄ h₄ => wpAny_bind (wpAny_mono h₄ (fun _ s₅ h₅ => wpAny_pure (wpAny_pure ⟨rfl,h₅⟩)) fun _ _ z => z.elim)) fun _ _ z => z.elim))
noncomputable def PIfs (X : Cx) (ifs : List Expr) (t : TT) : Prop :=
 ∀ (pins : List (Addr × Obj)) (s : Shared) (σ : St) (H : Hp) (Q : Bool → Hp → Prop),Inv X pins σ H s → t σ H Q →
  wpAny (model X.prog X.w) X.A (forIn ifs true fun c r => if r = true then do let ok ← isTrue c X.env (eval c X.env); pure (ForInStep.yield ok) else pure (ForInStep.yield r)) (TP X pins σ Q) X.xe s
noncomputable def tYes : TT := fun _ H Q => Q true H
theorem J1X {X : Cx} : PIfs X [] tYes := fun _ _ _ H _ I h => wpAny_tests_nil ⟨H,I,h⟩
theorem J06 {X : Cx} {c : Expr} {t : TT} (hc : PT X c t) : PIfs X [c] t := fun pins s σ H Q I h => wpAny_tests_one (hc pins s σ H Q I h)
noncomputable def J5d (J : It) (H1 : Hp) (σ0 : St) (g : TG) (tc : TT) (te : TE) (Q : VK) : Prop := ∀ D,H1 D = none →
  ∃ W : Nat → Nat → St → List V → Hp → Prop,(∃ m,W 0 m σ0 [] (upd H1 D (.lst []))) ∧ ∀ i m σ1 ys H,W i m σ1 ys H →
    (J.stop i H ∧ Q (.ref D) H) ∨ (J.go i H ∧ ∀ x H',J.yld i H x H' → g x σ1 H' fun σ2 H2 => tc σ2 H2 fun b H3 =>
       if b = true then te σ2 H3 fun y H4 => H4 D = some (.lst ys) ∧ ys.length < sizeLine ∧ ∃ m',m' < m ∧ W (i + 1) m' σ2 (ys ++ [y]) (upd H4 D (.lst (ys ++ [y])))
       else ∃ m',m' < m ∧ W (i + 1) m' σ2 ys H3)
noncomputable def JdH (wi : TI) (sub : St → St) (g : TG) (tc : TT) (te : TE) : TE := fun σ H Q => wi σ H fun J H1 => J5d J H1 (sub σ) g tc te Q
noncomputable def subσ (js : List (Option Nat)) (σ : St) : St := js.map fun o => o.bind fun j => (σ[j]?).join
theorem J1R {env : Env} : ∀ {names : List (Str × NameKind)} {x : Str},names.lookup x = some .free →
  (names.map fun (n,k) => if (k == NameKind.free && env.scope.kind == .function && env.kindOf n == some .cell) then (n,NameKind.cell) else (n,k)).lookup x = some .cell ∨
  (names.map fun (n,k) => if (k == NameKind.free && env.scope.kind == .function && env.kindOf n == some .cell) then (n,NameKind.cell) else (n,k)).lookup x = some .free
 | [],_,h => by simp at h
 | (n,k) :: r,x,h => by
  have ih := @J1R env r x
  show List.lookup x ((if (k == NameKind.free && env.scope.kind == .function && env.kindOf n == some .cell) = true then (n,NameKind.cell) else (n,k)) :: _) = _ ∨ List.lookup x ((if (k == NameKind.free && env.scope.kind == .function && env.kindOf n == some .cell) = true then (n,NameKind.cell) else (n,k)) :: _) = _
  cases hx : x == n with
  | true =>
   simp only [List.lookup_cons,hx] at h
   cases h
   by_cases hc : (NameKind.free == NameKind.free && env.scope.kind == .function && env.kindOf n == some .cell) = true
   ·rw [if_pos hc]; left; simp only [List.lookup_cons,hx]
   ·rw [if_neg hc]; right; simp only [List.lookup_cons,hx]
  | false =>
   simp only [List.lookup_cons,hx] at h
   by_cases hc : (k == NameKind.free && env.scope.kind == .function && env.kindOf n == some .cell) = true
   ·rw [if_pos hc]; simp only [List.lookup_cons,hx]; exact ih h
   ·rw [if_neg hc]; simp only [List.lookup_cons,hx]; exact ih h
theorem J3F {env : Env} : ∀ {names : List (Str × NameKind)} {x : Str},(∀ y ∈ names,y.2 ≠ NameKind.cell) →
  ((names.map fun (n,k) => if (k == NameKind.free && env.scope.kind == .function && env.kindOf n == some .cell) then (n,NameKind.cell) else (n,k)).lookup x = some .cell ∨
  (names.map fun (n,k) => if (k == NameKind.free && env.scope.kind == .function && env.kindOf n == some .cell) then (n,NameKind.cell) else (n,k)).lookup x = some .free) → (x,NameKind.free) ∈ names
 | [],_,_,h => by simp at h
 | (n,k) :: r,x,hn,h => by
  have ih := @J3F env r x fun y hy => hn y (List.mem_cons_of_mem _ hy)
  have hk : k ≠ .cell := hn (n,k) List.mem_cons_self
  change List.lookup x ((if (k == NameKind.free && env.scope.kind == .function && env.kindOf n == some .cell) = true then (n,NameKind.cell) else (n,k)) :: _) = _ ∨ List.lookup x ((if (k == NameKind.free && env.scope.kind == .function && env.kindOf n == some .cell) = true then (n,NameKind.cell) else (n,k)) :: _) = _ at h
  cases hx : x == n with
  | true =>
   have hx' : x = n := by simpa using hx
   subst hx'
   by_cases hc : (k == NameKind.free && env.scope.kind == .function && env.kindOf x == some .cell) = true
   ·have : k = .free := by
     have := (Bool.and_eq_true _ _).mp ((Bool.and_eq_true _ _).mp hc).1
     simpa using this.1
    subst this
    exact List.mem_cons_self
   ·rw [if_neg hc] at h
    simp only [List.lookup_cons,beq_self_eq_true] at h
    rcases h with h | h
    ·exact absurd (Option.some.inj h) hk
    ·have := Option.some.inj h
     subst this
     exact List.mem_cons_self
  | false =>
   by_cases hc : (k == NameKind.free && env.scope.kind == .function && env.kindOf n == some .cell) = true
   ·rw [if_pos hc] at h; simp only [List.lookup_cons,hx] at h; exact List.mem_cons_of_mem _ (ih h)
   ·rw [if_neg hc] at h; simp only [List.lookup_cons,hx] at h; exact List.mem_cons_of_mem _ (ih h)
section
variable {X : Cx} {elt tg iter : Expr} {ifs : List Expr} {scope : Scope} {pos : Pos} {N : List Str} {js : List (Option Nat)} {wi : TI} {g : TG} {tc : TT} {te : TE}
structure J4c (osc : Scope) (ON : List Str) (scope : Scope) (N : List Str) (js : List (Option Nat)) : Prop where
 kind : scope.kind = .function
 cell : ∀ y ∈ scope.names,y.2 ≠ .cell
 names : ∀ y ∈ scope.names,y.2 = .local → scope.names.lookup y.1 = some .local
 free : ∀ y ∈ scope.names,y.2 = .free → osc.names.lookup y.1 = some .cell ∨ osc.names.lookup y.1 = some .free
 len : js.length = N.length
 slots : (js.zip N).all (fun p => match p.1 with | none => true | some j => decide (ON[j]? = some p.2) && decide (scope.names.lookup p.2 = some .free)) = true
theorem J4c.sub {osc : Scope} {ON : List Str} {scope : Scope} {N : List Str} {js : List (Option Nat)} (cs : J4c osc ON scope N js) : ∀ (i j : Nat),js[i]? = some (some j) → ∃ x,N[i]? = some x ∧ ON[j]? = some x ∧ scope.names.lookup x = some .free := by
 intro i j h
 have hi : i < js.length := (List.getElem?_eq_some_iff.mp h).1
 have hN : N[i]? = some (N[i]'(by rw [← cs.len]; exact hi)) := List.getElem?_eq_getElem _
 have hz : (js.zip N)[i]? = some (some j,N[i]'(by rw [← cs.len]; exact hi)) := by
  rw [List.getElem?_zip_eq_some]
  exact ⟨h,hN⟩
 have hm := List.all_eq_true.mp cs.slots _ (List.mem_of_getElem? hz)
 have hm2 := (Bool.and_eq_true _ _).mp hm
 exact ⟨_,hN,of_decide_eq_true hm2.1,of_decide_eq_true hm2.2⟩
theorem mem_of_lookup {α : Type} : ∀ {l : List (Str × α)} {x : Str} {k : α},l.lookup x = some k → (x,k) ∈ l
 | [],_,_,h => by simp at h
 | (n,v) :: r,x,k,h => by
  rw [List.lookup_cons] at h
  cases hx : x == n with
  | true =>
   rw [hx] at h
   have hx' : x = n := by simpa using hx
   have : v = k := Option.some.inj h
   subst hx' this
   exact List.mem_cons_self
  | false =>
   rw [hx] at h
   exact List.mem_cons_of_mem _ (mem_of_lookup h)
theorem J05 {osc : Scope} {ON : List Str} (cs : J4c osc ON scope N js) (ho : X.env.scope = osc) (hON : X.N = ON) (hc : X.calm = true) (hi : PI X tg iter wi)
    (hg : ∀ s₀ H₀ cl C ex,PG (J1j X scope N s₀ H₀ cl C ex) tg g) (hif : ∀ s₀ H₀ cl C ex,PIfs (J1j X scope N s₀ H₀ cl C ex) ifs tc) (he : ∀ s₀ H₀ cl C ex,PE (J1j X scope N s₀ H₀ cl C ex) elt te)
    (hs : ∀ x,foldedSetIterable iter X.env x = pure x := by intro _; rfl) : PE X (.ListComp elt [⟨tg,iter,ifs,0⟩] scope pos) (JdH wi (subσ js) g tc te) := by
  intro pins s σ H Q I h
  subst ho hON
  obtain ⟨cl,hcl,cl1,cl2⟩ := J4t (scope := scope) (env := X.env) fun y hy hf => I.ok.has y.1 (cs.free y hy hf)
  rw [eval_ListComp]
  refine wpAny_comprehension_free (use := none) rfl hs hcl cs.kind cs.names ?_
  refine thn (hi pins s σ H _ I h) fun v s1 h1 => thn h1 fun itv s2 h2 => ?_
  obtain ⟨it,fp,tn,J,H2,e,I2,T,st2,f2,hW⟩ := h2
  subst e
  have hD0 : H2 s2.heap.objs.size = none := I2.hok.fresh (Nat.le_refl _)
  obtain ⟨W,⟨m0,w0⟩,turn⟩ := hW s2.heap.objs.size hD0
  have I3 := I2.lnew (t' := s2.toks) (ys := []) (its := []) .nil (Nat.zero_le _)
  refine wpAny_newObj_type (wpAny_newFunctionEnv cs.cell (by intro y hy; simp at hy) (fun h₁ hns₁ hsb₁ => ?_) cs.kind)
  dsimp only at hns₁ hsb₁ ⊢
  obtain ⟨s3,hs3⟩ : ∃ s3 : Shared,s3 = { s2 with heap := s2.heap.push { cls := .type "list",data := .seq ([] : List Value).toArray },toks := s2.toks } := ⟨_,rfl⟩
  rw [← hs3] at I3
  have e3 : s3.heap = s2.heap.push { cls := .type "list",dict := none,data := .seq ([] : List Value).toArray } := by rw [hs3]
  have e3o : s3.os = s2.os := by rw [hs3]
  have e3g : s3.gens = s2.gens := by rw [hs3]
  rw [← e3] at hns₁ hsb₁ ⊢
  obtain ⟨H3,hH3⟩ : ∃ H3 : Hp,H3 = upd H2 s2.heap.objs.size (.lst []) := ⟨_,rfl⟩
  rw [← hH3] at I3 w0
  have up1 : ∀ b o,s2.heap.get? b = some o → s3.heap.get? b = some o := fun b o q => by rw [e3]; exact Heap.get?_push_of_some _ q
  have up2 : ∀ b o,s3.heap.get? b = some o → h₁.get? b = some o := fun b o q => hsb₁.extBut b o (Nat.ne_of_lt (Heap.lt_size q)) (Heap.get?_push_of_some _ q)
  have fpo : ∀ b ∈ fp,∃ o,s3.heap.get? b = some o := fun b hb => by
    obtain ⟨o,ho,_⟩ := T.obj 0 _ st2 b hb
    exact ⟨o,up1 b o ho⟩
  have fr3 : ∀ b ∈ fp,H3 b = none := fun b hb => by
    obtain ⟨o,ho,_⟩ := T.obj 0 _ st2 b hb
    rw [hH3,Ji (Nat.ne_of_lt (Heap.lt_size ho))]
    exact (f2 b hb).1
  have fpC : ∀ b ∈ fp,b ≠ s3.heap.objs.size := fun b hb => by
    obtain ⟨o,ho⟩ := fpo b hb
    exact Nat.ne_of_lt (Heap.lt_size ho)
  have fpS : ∀ b ∈ fp,b ∉ frs X.stack := fun b hb hs' => by
    rcases List.mem_cons.mp (I2.stkSub b hs') with z | z
    · exact (f2 b hb).2.1 z
    · exact (f2 b hb).2.2.1 z
  have ok' : (J1j X scope N s3 H3 cl s3.heap.objs.size fp).Ok := by
    refine ⟨I.ok.mod,cs.kind,I.ok.glob,I.ok.blt,Nat.le_refl _,fun x y c e1 e2 => I.ok.inj x y c (cl2 x c e1) (cl2 y c e2),fun x hx => ?_,fun x c hf => (nomatch hf),I.ok.hd,I.ok.frames,.inl rfl,fun b hb => ⟨fpC b hb,fun x c e => (f2 b hb).2.2.2.2.1 x c (cl2 x c e)⟩,
      I3.bs,Nat.le_trans I.ok.bsz I3.sz,fun b o e hb => ?_,fun b hb => fpS b hb,I3.stack,I3.stkFree⟩
    · have hm : (x,NameKind.free) ∈ scope.names := J3F cs.cell hx
      obtain ⟨c,hc⟩ := I.ok.has x (cs.free _ hm rfl)
      exact ⟨c,(cl1 _ hm rfl).trans hc⟩
    · rcases (f2 b hb).2.2.2.1 with z | z
      · exact I.ok.noex b o e z
      · exact absurd (Nat.lt_of_lt_of_le (Heap.lt_size e) (Nat.le_trans I.ok.bsz z)) (Nat.lt_irrefl _)
  have cellK : ∀ c v,s3.heap.IsCell c v → h₁.IsCell c v := fun c v ⟨o,ho,hd⟩ => ⟨o,up2 c o ho,hd⟩
  have I4 : ∀ t : Nat,Inv (J1j X scope N s3 H3 cl s3.heap.objs.size fp) [] (subσ js σ) H3 { s2 with heap := h₁,toks := t } := fun t => by
    refine ⟨ok',e3o.symm,I2.bare,Un.kept up2,⟨_,hns₁,fun i x v hi hv hx => ?_⟩,fun x c e => ?_,I3.hok.fresh (Nat.le_refl _),fun x c e => I3.freeC x c (cl2 x c e),fun p hp => (nomatch hp),I3.hok.kept up2,?_⟩
    ·
      have hv' : ∃ j,js[i]? = some (some j) ∧ σ[j]? = some (some v) := by
        unfold subσ at hv
        rw [List.getElem?_map] at hv
        cases hj : js[i]? with
        | none => rw [hj] at hv; cases hv
        | some o =>
          rw [hj] at hv
          cases o with
          | none => cases hv
          | some j =>
            refine ⟨j,rfl,?_⟩
            have hv2 : (σ[j]?).join = some v := Option.some.inj hv
            cases hs2 : σ[j]? with
            | none => rw [hs2] at hv2; cases hv2
            | some u => rw [hs2] at hv2; exact congrArg some hv2
      obtain ⟨j,hj,hσ⟩ := hv'
      obtain ⟨x',h1',h2',h3'⟩ := cs.sub i j hj
      have hxx : x = x' := Option.some.inj (hi.symm.trans h1')
      subst hxx
      have hm : (x,NameKind.free) ∈ scope.names := mem_of_lookup h3'
      have hk := cs.free _ hm rfl
      obtain ⟨m,hn,hl⟩ := id I3.loc
      obtain ⟨u,ru,lk⟩ := hl j x v h2' hσ (by rcases hk with z | z; exact .inr (.inl z); exact .inr (.inr z))
      refine ⟨u,ru,?_⟩
      rcases lk with ⟨k1,_⟩ | ⟨k1,c,e1,z⟩
      · rcases hk with z | z <;> (rw [show X.env.kindOf x = _ from z] at k1; cases k1)
      · exact .inr ⟨J1R h3',c,(cl1 _ hm rfl).trans e1,cellK c _ z⟩
    · obtain ⟨v,z⟩ := I3.cell x c (cl2 x c e)
      exact ⟨v,cellK c v z⟩
    · unfold subσ
      rw [List.length_map]
      exact cs.len
  have hst₁ : tn 0 h₁ := T.keep 0 _ _ st2 fun b hb o q => up2 b o (up1 b o q)
  have stat : ∀ {H' : Hp},(∀ b ∈ fp,H' b = none) → ∀ b ∈ fp,FpOk (J1j X scope N s3 H3 cl s3.heap.objs.size fp) [] H' b := fun hn b hb =>
    ⟨hn b hb,fpC b hb,fpS b hb,.inl hb,fun x c e => (f2 b hb).2.2.2.2.1 x c (cl2 x c e),fun p hp => (nomatch hp)⟩
  have loop : ∀ s4 : Shared,(∃ t,s4 = { s2 with heap := h₁,toks := t }) →
      codeAny (model X.prog X.w) X.A (.compLoop (.ListComp elt [⟨tg,iter,ifs,0⟩] scope pos) 0 (.ref it) (.ref s2.heap.objs.size) (compEnvC scope cl s3.heap.objs.size X.env))
        (compPost (model X.prog X.w) X.A X.xe none (EP X pins σ Q) (.ref s2.heap.objs.size) s3.heap.objs.size) s4 := by
    rintro s4 ⟨t,rfl⟩
    refine J58 (fun n s' => ∃ i σ' ys H',Inv (J1j X scope N s3 H3 cl s3.heap.objs.size fp) [] σ' H' s' ∧ tn i s'.heap ∧ (∀ b ∈ fp,H' b = none) ∧ W i n σ' ys H') ?_ m0 ⟨0,_,[],H3,I4 t,hst₁,fr3,w0⟩
    rintro n s5 ⟨i,σ5,ys,H5,I5,st5,fr5,w5⟩
    rcases turn i n σ5 ys H5 w5 with ⟨stop,qn⟩ | ⟨go,step⟩
    · refine thn (T.done (J1j X scope N s3 H3 cl s3.heap.objs.size fp) rfl rfl rfl hc i [] s5 σ5 H5 _ I5 (stat fr5) st5 stop) fun r s6 ⟨hr,I6⟩ => ?_
      subst hr
      obtain ⟨m,hn,_⟩ := id I6.loc
      refine ⟨m,hn,fun h' hs' => ⟨.ref s2.heap.objs.size,H5,?_,rfl,qn⟩⟩
      have neC : ∀ b o,s3.heap.get? b = some o → b ≠ s3.heap.objs.size := fun b o q => Nat.ne_of_lt (Heap.lt_size q)
      have un : Un (frs X.stack) fp H3 H5 s3.heap h' :=
        ⟨fun b o q n1 hb hx => (hs'.2 b (neC b o q)).trans (I6.base.keep b o q n1 hb hx),
         fun b o q n1 hb hx => by
           obtain ⟨sl,e⟩ := I6.base.slot b o q n1 hb hx
           exact ⟨sl,(hs'.2 b (neC b o q)).trans e⟩,
         fun b o q n1 hx => I6.base.free b o q n1 hx,
         fun b o q hx => by
           obtain ⟨o',e⟩ := I6.base.there b o q hx
           exact ⟨o',(hs'.2 b (neC b o q)).trans e⟩,
         I6.base.tups,I6.base.frzs,I6.base.tbls⟩
      refine I3.call' (ch := fp) (s' := { s6 with heap := h' }) I6.os un (fun b ob e => ?_) I6.bare (fun b hb => ⟨(f2 b hb).2.2.2.1,(f2 b hb).2.1,(f2 b hb).2.2.2.2.1,(f2 b hb).2.2.2.2.2⟩)
      refine (I6.hok b ob e).stay (fun c w' hc' q => (hs'.2 c ?_).trans q) (fun _ q => q) fun _ _ q => q
      rintro rfl
      have fC : H5 s3.heap.objs.size = none := I6.free
      rcases hc' with z | z
      · rw [← z,fC] at e; cases e
      · rw [fC] at z; cases z
    · refine thn (T.item (J1j X scope N s3 H3 cl s3.heap.objs.size fp) rfl rfl rfl hc i [] s5 σ5 H5 _ I5 (stat fr5) st5 go) fun r s6 ⟨u,hr,h6⟩ => ?_
      subst hr
      refine thn h6 fun _ s7 ⟨x,H7,I7,r7,y7,st7,fr7⟩ => ?_
      have I7' := I7.pinned (stat fr7) (T.obj _ _ st7)
      refine thn (hg _ _ _ _ _ _ s7 σ5 H7 x u _ I7' r7 (step x H7 y7)) fun _ s8 ⟨σ8,H8,I8,q8⟩ => ?_
      refine thn (hif _ _ _ _ _ _ s8 σ8 H8 _ I8 q8) fun ok s9 ⟨H9,I9,q9⟩ => ?_
      have again : ∀ {σ' : St} {H' : Hp} {s' : Shared},Inv (J1j X scope N s3 H3 cl s3.heap.objs.size fp) ([] ++ J5M fp s7.heap) σ' H' s' →
          Inv (J1j X scope N s3 H3 cl s3.heap.objs.size fp) [] σ' H' s' ∧ tn (i + 1) s'.heap ∧ ∀ b ∈ fp,H' b = none := fun {σ' H' s'} I' => by
        refine ⟨I'.unpinned,T.keep _ _ _ st7 fun b hb o e => (I'.pin (b,o) (List.mem_append_right _ (List.mem_append_right _ (J22 hb e)))).1,fun b hb => ?_⟩
        obtain ⟨o,e,d⟩ := T.obj _ _ st7 b hb
        exact (I'.pin (b,o) (List.mem_append_right _ (List.mem_append_right _ (J22 hb e)))).2.1
      cases ok with
      | false =>
        rw [if_neg Bool.false_ne_true] at q9 ⊢
        obtain ⟨m',hm,w9⟩ := q9
        obtain ⟨a1,a2,a3⟩ := again I9
        exact ⟨m',hm,i + 1,σ8,ys,H9,a1,a2,a3,w9⟩
      | true =>
        rw [if_pos rfl] at q9 ⊢
        refine thn (he _ _ _ _ _ _ s9 σ8 H9 _ I9 q9) fun yv s10 ⟨y,H10,I10,r10,q10⟩ => ?_
        obtain ⟨hD,hz,m',hm,w10⟩ := q10
        refine thn (J09 (X := J1j X scope N s3 H3 cl s3.heap.objs.size fp) _ s10 σ8 H10 (.ref s2.heap.objs.size) [y] (.ref s2.heap.objs.size) [yv] (fun v H' => H' = upd H10 s2.heap.objs.size (.lst (ys ++ [y]))) I10 rfl (.cons r10 .nil)
          ⟨s2.heap.objs.size,ys,y,rfl,rfl,hD,hz,rfl⟩) fun _ s11 ⟨v11,H11,I11,_,e11⟩ => ?_
        have e11' : H11 = upd H10 s2.heap.objs.size (.lst (ys ++ [y])) := e11
        subst e11'
        obtain ⟨a1,a2,a3⟩ := again I11
        exact ⟨m',hm,i + 1,σ8,ys ++ [y],_,a1,a2,a3,w10⟩
  exact codeAny_compStart_list (loop _ ⟨_,rfl⟩) (T.self X.A 0 _ _ _ hst₁ (loop _ ⟨_,rfl⟩))
end
structure J6X (J : It) (H0 : Hp) (xs : List V) : Prop where
 go : ∀ i H,Same H0 H → i < xs.length → J.go i H
 yld : ∀ i H x H',Same H0 H → i < xs.length → J.yld i H x H' → H' = H ∧ xs[i]? = some x
 stop : ∀ H,Same H0 H → J.stop xs.length H
theorem J0n {K : PySem.W.Frag} {a : Addr} {H : Hp} {xs : List V} (h : SqL K H a xs) : J6X (Itl K a) H xs where
 go := fun i H' s hi => ⟨xs,xs[i],s.seq h,by simp [hi]⟩
 yld := fun i H' x H'' s hi y => ⟨y.1,y.2 xs (s.seq h)⟩
 stop := fun H' s => ⟨xs,s.seq h,Nat.le_refl _⟩
theorem J2c {H : Hp} (lo : Int) (n : Nat) : J6X (Itr lo n) H ((List.range n).map fun i => .int (lo + (i : Nat))) where
 go := fun i H' s hi => by rw [List.length_map,List.length_range] at hi; exact hi
 yld := fun i H' x H'' s hi y => by
  rw [List.length_map,List.length_range] at hi
  refine ⟨y.1,?_⟩
  rw [List.getElem?_map,List.getElem?_range hi]
  exact congrArg some y.2.symm
 stop := fun H' s => by rw [List.length_map,List.length_range]; exact Nat.le_refl _
theorem Jr {H : Hp} {p : Addr} (h : H p = none) (o : HO) : Same H (upd H p o) := fun b u q => by rw [Ji (Je q h)]; exact q
theorem Same.upd {H H' : Hp} {p : Addr} {o : HO} (s : Same H H') (h : H p = none) : Same H (upd H' p o) := fun b u q => by rw [Ji (Je q h)]; exact s b u q
theorem J3C {J : It} {H : Hp} {xs : List V} {σ0 : St} {k : Nat} {tc : TT} {te : TE} {Q : VK} (p : V → Bool) (f : V → V) (hJ : J6X J H xs) (hx : xs.length ≤ 1000000)
  (hc : ∀ x ∈ xs,∀ H',Same H H' → ∀ R : Bool → Hp → Prop,(∀ H'',Same H' H'' → R (p x) H'') → tc (σ0.set k (some x)) H' R)
  (he : ∀ x ∈ xs,p x = true → ∀ H',Same H H' → ∀ R : VK,(∀ H'',Same H' H'' → R (f x) H'') → te (σ0.set k (some x)) H' R)
  (hQ : ∀ D H',H D = none → Same H H' → H' D = some (.lst ((xs.filter p).map f)) → Q (.ref D) H') :
  J5d J H σ0 (J3w k) tc te Q := by
 intro D hD
 refine ⟨fun i m σ1 ys H' => m = xs.length - i ∧ i ≤ xs.length ∧ (σ1 = σ0 ∨ ∃ v,σ1 = σ0.set k v) ∧ ys = ((xs.take i).filter p).map f ∧ H' D = some (.lst ys) ∧ Same H H',⟨xs.length,by simp,Nat.zero_le _,.inl rfl,rfl,J9,Jr hD _⟩,?_⟩
 rintro i m σ1 ys H' ⟨rfl,hi,hσ,rfl,hDD,hs⟩
 by_cases hlt : i < xs.length
 ·refine .inr ⟨hJ.go i H' hs hlt,fun x H'' hy => ?_⟩
  obtain ⟨e1,hx1⟩ := hJ.yld i H' x H'' hs hlt hy
  subst e1
  have hm : x ∈ xs := List.mem_of_getElem? hx1
  have hset : σ1.set k (some x) = σ0.set k (some x) := by
   rcases hσ with rfl | ⟨v,rfl⟩
   ·rfl
   ·rw [List.set_set]
  show tc (σ1.set k (some x)) H'' _
  rw [hset]
  have tk : ((xs.take (i + 1)).filter p).map f = ((xs.take i).filter p).map f ++ (if p x = true then [f x] else []) := by
   rw [List.take_add_one,hx1,List.filter_append,List.map_append]
   cases hp : p x <;> simp [hp]
  refine hc x hm H'' hs _ fun H3 s3 => ?_
  have s03 : Same H H3 := hs.trans s3
  have lenk : (((xs.take i).filter p).map f).length < sizeLine := by
   have h1 := List.length_filter_le p (xs.take i)
   rw [List.length_take] at h1
   rw [List.length_map]
   have : (1000001 : Nat) ≤ sizeLine := by decide
   omega
  refine ite2 (fun hp => ?_) (fun hp => ?_)
  ·refine he x hm hp H3 s03 _ fun H4 s4 => ⟨s4 _ _ (s3 _ _ hDD),lenk,xs.length - (i + 1),by omega,rfl,hlt,.inr ⟨_,rfl⟩,?_,?_,?_⟩
   ·rw [tk,if_pos hp]
   ·exact J9
   ·exact (s03.trans s4).upd hD
  ·refine ⟨xs.length - (i + 1),by omega,rfl,hlt,.inr ⟨_,rfl⟩,?_,s3 _ _ hDD,s03⟩
   rw [tk,if_neg hp,List.append_nil]
 ·have e : i = xs.length := by omega
  subst e
  refine .inl ⟨hJ.stop H' hs,hQ D H' hD hs ?_⟩
  rw [hDD,List.take_length]
theorem J7i {J : It} {H : Hp} {xs : List V} {σ0 : St} {k : Nat} {te : TE} {Q : VK} (f : V → V) (hJ : J6X J H xs) (hx : xs.length ≤ 1000000)
  (he : ∀ x ∈ xs,∀ H',Same H H' → ∀ R : VK,(∀ H'',Same H' H'' → R (f x) H'') → te (σ0.set k (some x)) H' R)
  (hQ : ∀ D H',H D = none → Same H H' → H' D = some (.lst (xs.map f)) → Q (.ref D) H') :
  J5d J H σ0 (J3w k) tYes te Q :=
 J3C (fun _ => true) f hJ hx (fun x _ H' _ R hR => hR H' (Same.refl _)) (fun x hm _ => he x hm) (fun D H' h1 h2 h3 => hQ D H' h1 h2 (by rw [h3,List.filter_eq_self.mpr fun _ _ => rfl]))
end L2
set_option linter.all false
set_option maxRecDepth 100000
set_option maxHeartbeats 4000000
namespace L2
open PySem PySem.Spec PyProof.Rows
noncomputable abbrev T (l : List Nat) : V := .str ⟨l.toArray⟩
theorem J2p {a b : List Nat} (h : T a = T b) : a = b := by
 have h1 : (⟨a.toArray⟩ : Str) = ⟨b.toArray⟩ := V.str.inj h
 have h2 : a.toArray = b.toArray := congrArg Str.cps h1
 simpa using h2
theorem J3i (l : List Nat) : (⟨l.toArray⟩ : Str).length = l.length := by simp [Str.length]
theorem Ja2 (a b : List Nat) : (⟨a.toArray⟩ : Str) ++ ⟨b.toArray⟩ = ⟨(a ++ b).toArray⟩ := by
 show (⟨a.toArray ++ b.toArray⟩ : Str) = _
 simp
section
variable {X : Cx}
theorem Jv {x : Str} {l : List Nat} {j pos} (h : x = ⟨l.toArray⟩) : PE X (.Constant (.str x) j pos) (tC (T l)) := by subst h; exact JfR
noncomputable def Jgh : R2 := fun x y H Q => ∃ a b,x = T a ∧ y = T b ∧ a.length + b.length ≤ sizeLine ∧ Q (T (a ++ b)) H
theorem J0F : OpR X (binaryOp .Add) Jgh := by
 intro pins s σ H x y v u Q I rx ry h
 obtain ⟨a,b,rfl,rfl,hz,q⟩ := h
 exact Jbl pins s σ H _ _ v u Q I rx ry ⟨_,_,rfl,rfl,by rw [J3i,J3i]; exact hz,by rw [Ja2]; exact q⟩
noncomputable def Jgg : R2 := fun x y H Q => ∃ l i c,x = T l ∧ y = .int i ∧ l.length ≤ sizeLine ∧ atI l i = some c ∧ Q (T [c]) H
theorem J0V : IxR X Jgg := by
 intro value slice pins s σ H x y v u Q I rx ry h hs
 obtain ⟨l,i,c,rfl,rfl,hz,he,q⟩ := h
 exact JfW value slice pins s σ H _ _ v u Q I rx ry ⟨_,i,c,rfl,rfl,by rw [J3i]; exact hz,by simpa using he,q⟩ hs
theorem JfM : OpR X (compareOp .In) (fun x y H Q => ∃ c m,x = T [c] ∧ y = T m ∧ Q (.bl (decide (c ∈ m))) H) := by
 intro pins s σ H x y v u Q I rx ry h
 obtain ⟨c,m,rfl,rfl,q⟩ := h
 refine Jcc pins s σ H _ _ v u Q I rx ry ⟨_,_,rfl,rfl,?_⟩
 have e := StrLaws.found_one ⟨m.toArray⟩ c
 rw [show (!(Builtin.Str.occurrences ⟨m.toArray⟩ ⟨[c].toArray⟩ 0 (⟨m.toArray⟩ : Str).length 1).isEmpty) = decide (c ∈ m) from by simpa using e]
 exact q
theorem Jcg : OpR X (compareOp .NotIn) (fun x y H Q => ∃ c m,x = T [c] ∧ y = T m ∧ Q (.bl (!decide (c ∈ m))) H) := by
 intro pins s σ H x y v u Q I rx ry h
 obtain ⟨c,m,rfl,rfl,q⟩ := h
 refine J8S pins s σ H _ _ v u Q I rx ry ⟨_,_,rfl,rfl,?_⟩
 have e := StrLaws.found_one ⟨m.toArray⟩ c
 rw [show (!(Builtin.Str.occurrences ⟨m.toArray⟩ ⟨[c].toArray⟩ 0 (⟨m.toArray⟩ : Str).length 1).isEmpty) = decide (c ∈ m) from by simpa using e]
 exact q
theorem J03 : J2R X (.builtin "len") (fun xs H Q => ∃ l,xs = [T l] ∧ l.length ≤ sizeLine ∧ Q (.int l.length) H) := by
 intro pins s σ H xs us Q I r h
 obtain ⟨l,rfl,hz,q⟩ := h
 exact J98 pins s σ H _ us Q I r ⟨_,rfl,by rw [J3i]; exact hz,by rw [J3i]; exact q⟩
end
noncomputable def cutN {α : Type} (xs : List α) (lo hi : Option Int) : List α := (xs.drop (HT.sIx xs.length 0 lo)).take (HT.sIx xs.length xs.length hi - HT.sIx xs.length 0 lo)
noncomputable def Jdp (n : Nat) (d : Int) : Option Int → Int
 | none => d
 | some i => max 0 (min (if i < 0 then i + (n : Int) else i) (n : Int))
theorem Jaq (n d : Nat) (o : Option Int) : Jdp n (d : Int) o = ((HT.sIx n d o : Nat) : Int) := by
 cases o with
 | none => rfl
 | some i =>
  show max 0 (min (if i < 0 then i + (n : Int) else i) (n : Int)) = (((if i < 0 then (i + (n : Int)).toNat else min i.toNat n) : Nat) : Int)
  by_cases hi : i < 0
  ·rw [if_pos hi,if_pos hi]; omega
  ·rw [if_neg hi,if_neg hi]; omega
theorem JfQ (a b : Nat) : sliceRange (a : Int) (b : Int) 1 = (List.range (b - a)).map fun k => a + k := by
 unfold sliceRange
 simp only [show (1 : Int) > 0 by decide,if_true]
 have e1 : (if (a : Int) < (b : Int) then ((b : Int) - (a : Int) + 1 - 1) / 1 else 0).toNat = b - a := by
  split <;> simp <;> omega
 rw [e1]
 refine List.map_congr_left fun k _ => ?_
 omega
theorem J90 (lo hi : Option Int) (n : Nat) : Builtin.Str.strSliceIndices lo hi 1 n = (List.range (HT.sIx n n hi - HT.sIx n 0 lo)).map fun k => HT.sIx n 0 lo + k := by
 have e : Builtin.Str.strSliceIndices lo hi 1 n = sliceRange (Jdp n ((0 : Nat) : Int) lo) (Jdp n ((n : Nat) : Int) hi) 1 := by
  cases lo <;> cases hi <;> rfl
 rw [e,Jaq,Jaq,JfQ]
theorem Jgy (l : List Nat) (i k : Nat) : ((List.range k).map fun m => i + m).filterMap (fun j => l.toArray[j]?) = (l.drop i).take k := by
 induction k generalizing i with
 | zero => simp
 | succ k ih =>
  rw [List.range_succ_eq_map,List.map_cons,List.filterMap_cons,List.map_map]
  have e : ((fun m => i + m) ∘ Nat.succ) = fun m => (i + 1) + m := by funext m; simp; omega
  rw [e,ih (i + 1)]
  by_cases h : i < l.length
  ·have : l.toArray[i + 0]? = some l[i] := by simp [h]
   rw [this,List.drop_eq_getElem_cons h,List.take_succ_cons]
  ·have : l.toArray[i + 0]? = none := by simp; omega
   rw [this,List.drop_eq_nil_of_le (by omega),List.drop_eq_nil_of_le (by omega)]
   simp
theorem Jc3 {α : Type} {l : List α} {lo hi : Option Int} (h : (cutN l lo hi).length = l.length) : cutN l lo hi = l := by
 unfold cutN at h ⊢
 rw [List.length_take,List.length_drop] at h
 have h2 := HT.sIx_le l.length l.length (Nat.le_refl _) hi
 by_cases h0 : l.length = 0
 ·have : l = [] := List.length_eq_zero_iff.mp h0
  subst this; simp
 ·have e0 : HT.sIx l.length 0 lo = 0 := by omega
  rw [e0,List.drop_zero]
  exact List.take_of_length_le (by omega)
theorem Jcm (l : List Nat) (lo hi : Option Int) : Txt.slice ⟨l.toArray⟩ lo hi = ⟨(cutN l lo hi).toArray⟩ := by
 unfold Txt.slice
 rw [J3i,J90]
 have e := Jgy l (HT.sIx l.length 0 lo) (HT.sIx l.length l.length hi - HT.sIx l.length 0 lo)
 have e2 : ((List.range (HT.sIx l.length l.length hi - HT.sIx l.length 0 lo)).map fun k => HT.sIx l.length 0 lo + k).filterMap (fun x => (⟨l.toArray⟩ : Str).cps[x]?) = cutN l lo hi := e
 by_cases h : ((1 : Int) == 1 && ((List.range (HT.sIx l.length l.length hi - HT.sIx l.length 0 lo)).map fun k => HT.sIx l.length 0 lo + k).length == l.length) = true
 ·rw [if_pos h]
  have h' : HT.sIx l.length l.length hi - HT.sIx l.length 0 lo = l.length := by
   have := ((Bool.and_eq_true _ _).mp h).2
   simpa using this
  have : (cutN l lo hi).length = l.length := by
   unfold cutN
   rw [List.length_take,List.length_drop]
   have := HT.sIx_le l.length l.length (Nat.le_refl _) hi
   omega
  rw [Jc3 this]
 ·rw [if_neg h,e2]
section
variable {X : Cx}
noncomputable def rSlS : V → Option Int → Option Int → Hp → VK → Prop := fun x lo hi H Q => ∃ l,x = T l ∧ l.length ≤ sizeLine ∧ Q (T (cutN l lo hi)) H
theorem J2N : SlR X rSlS := by
 intro pins s σ H x v vl vu lo hi sl Q I rx hs pl pu h
 obtain ⟨l,rfl,hz,q⟩ := h
 obtain ⟨t,rfl⟩ := rx
 refine ⟨"str",_,F.slot_str_getitem.lookup,typeIs_str _ _ _,?_⟩
 have fin : ∀ t' k,EP X pins σ Q (.str (Txt.slice ⟨l.toArray⟩ lo hi) t') { s with toks := k } := fun t' k => ⟨T (cutN l lo hi),H,I.tok _,⟨t',by rw [Jcm]⟩,q⟩
 have hlen : (Txt.slice ⟨l.toArray⟩ lo hi).length ≤ sizeLine := Nat.le_trans (Txt.slice_le _ _ _) (by rw [J3i]; exact hz)
 cases pl with
 | none =>
  cases pu with
  | none => exact wpAny_getItem_str_slice (l := none) (u := none) (st := none) hs rfl (post_val_or_str ⟨hlen,fin⟩)
  | int j uj => exact wpAny_getItem_str_slice (l := none) (u := some (j,uj)) (st := none) hs rfl (post_val_or_str ⟨hlen,fin⟩)
 | int i ui =>
  cases pu with
  | none => exact wpAny_getItem_str_slice (l := some (i,ui)) (u := none) (st := none) hs rfl (post_val_or_str ⟨hlen,fin⟩)
  | int j uj => exact wpAny_getItem_str_slice (l := some (i,ui)) (u := some (j,uj)) (st := none) hs rfl (post_val_or_str ⟨hlen,fin⟩)
end
theorem Jey (l : List Nat) (u : Tok) : Txt.sliceBy ⟨l.toArray⟩ none none (-1,u) = ⟨l.reverse.toArray⟩ := by
 have h := step_rev_list ⟨l.toArray⟩ u
 have e : ((List.range (⟨l.toArray⟩ : Str).length).map fun k => (⟨l.toArray⟩ : Str).cps.getD ((⟨l.toArray⟩ : Str).length - 1 - k) 0) = l.reverse := by
  rw [J3i]
  refine List.ext_getElem? fun i => ?_
  rw [List.getElem?_map]
  by_cases hi : i < l.length
  ·rw [List.getElem?_range hi,List.getElem?_reverse hi]
   have hj : l.length - 1 - i < l.length := by omega
   rw [List.getElem?_eq_getElem hj]
   simp [hj]
  ·rw [List.getElem?_eq_none (by simpa using hi),List.getElem?_eq_none (by simpa using hi)]
   rfl
 rw [e] at h
 generalize Txt.sliceBy ⟨l.toArray⟩ none none (-1,u) = z at h
 obtain ⟨⟨zl⟩⟩ := z
 have h' : zl = l.reverse := h
 rw [h']
noncomputable def tRev (te t3 : TE) : TE := fun σ H Q => te σ H fun x H1 => t3 σ H1 fun y H2 => y = .int (-1) ∧ ∃ l,x = T l ∧ l.length ≤ sizeLine ∧ Q (T l.reverse) H2
theorem Jg1 {X : Cx} {e e3 : Expr} {te t3 : TE} {pos p2 : Pos} (he : PE X e te) (h3 : PE X e3 t3) : PE X (.Subscript e (.Slice none none (some e3) p2) pos) (tRev te t3) := by
 intro pins s σ H Q I h
 refine Subscript_ (thn (he pins s σ H _ I h) fun v s1 ⟨x,H1,I1,r1,q1⟩ => ?_)
 refine wpAny_Slice ?_
 rw [evalPart_none]
 refine wpAny_pure ?_
 refine wpAny_pure ?_
 rw [evalPart_some]
 refine thn (h3 pins s1 σ H1 _ I1 q1) fun vs s2 ⟨y,H2,I2,r2,hy,l,hx,hz,q⟩ => ?_
 subst hy hx
 obtain ⟨t,rfl⟩ := r1
 obtain ⟨uk,rfl⟩ := r2
 have I4 : Inv X pins σ H2 { s2 with heap := s2.heap.push { cls := .type "slice",data := .fields #[.none,.none,.int (-1) uk] } } := I2.kept (t' := s2.toks) fun b ob q => Heap.get?_push_of_some _ q
 have fin : ∀ t' k,EP X pins σ Q (.str (Txt.sliceBy ⟨l.toArray⟩ none none (-1,uk)) t') { s2 with heap := s2.heap.push { cls := .type "slice",data := .fields #[.none,.none,.int (-1) uk] },toks := k } := fun t' k => ⟨T l.reverse,H2,I4.tok _,⟨t',by rw [Jey]⟩,q⟩
 have hlen : (Txt.sliceBy ⟨l.toArray⟩ none none (-1,uk)).length ≤ sizeLine := Nat.le_trans (Txt.sliceBy_le _ _ _ _ (show (-1 : Int) ≠ 0 by decide)) (by rw [J3i]; exact hz)
 show wpAny (model X.prog X.w) X.A (subscriptTail e (.Slice none none (some e3) p2) (.str ⟨l.toArray⟩ t) (.ref s2.heap.objs.size)) (EP X pins σ Q) X.xe { s2 with heap := s2.heap.push { cls := .type "slice",data := .fields #[.none,.none,.int (-1) uk] } }
 refine tail_any (ops := [.ref s2.heap.objs.size,.str ⟨l.toArray⟩ t]) (typeIs_str _ _ _) F.slot_str_getitem.lookup ?_ (by with_unfolding_all rfl)
 exact wpAny_getItem_str_slice (l := none) (u := none) (st := some (-1,uk)) ⟨_,Heap.get?_push_size _ rfl,rfl,rfl⟩ (by rfl) (post_val_or_str ⟨hlen,fin⟩)
noncomputable def Its (l : List Nat) : It := ⟨fun i _ => i < l.length,fun i H x H' => H' = H ∧ ∃ c,l[i]? = some c ∧ x = T [c],fun i _ => l.length ≤ i⟩
theorem Jdx {P : Program} {w : World} {K : PySem.W.Frag} {tg : Expr} {it : Addr} {l : List Nat} {t : Tok} {nm : String} (hn : nm = "str_ascii_iterator" ∨ nm = "str_iterator") :
  Turn P w K tg (Its l) [it] it (fun i h => h.IsStrIter it nm ⟨l.toArray⟩ t i) where
 mem := by simp
 obj := fun i h st b hb => by
  have e : b = it := by simpa using hb
  subst e
  obtain ⟨o,e,c,d⟩ := st
  exact ⟨o,e,fun v z => by rw [d] at z; cases z⟩
 keep := fun i h h' st k => by
  obtain ⟨o,e,r⟩ := st
  exact ⟨o,k it (by simp) o e,r⟩
 item := by
  intro X hP hw hK hc i pins s σ H E I hf st hg
  subst hP hw hK
  obtain ⟨f0,f1,f2,f3,f4,f5⟩ := hf it (by simp)
  have hi : i < l.length := hg
  have hx : (⟨l.toArray⟩ : Str).cps[i]? = some l[i] := by simp [hi]
  have fin : ∀ h',h'.IsStrIter it nm ⟨l.toArray⟩ t (i + 1) → Heap.SameBut it s.heap h' → ∃ u,(some (Value.str ⟨#[l[i]]⟩ s.toks) : Option Value) = some u ∧
    wpAny (model X.prog X.w) X.A (letOwnedTupleGo tg (.ref it) u) (fun _ s2 => ∃ x H',Inv X pins σ H' s2 ∧ RelV x u ∧ (Its l).yld i H x H' ∧ s2.heap.IsStrIter it nm ⟨l.toArray⟩ t (i + 1) ∧ ∀ b ∈ [it],H' b = none) E { s with heap := h',toks := s.toks + 1 } := fun h' st' sb => by
   have I1 : Inv X pins σ H { s with heap := h',toks := s.toks + 1 } := I.turned (t' := s.toks + 1) (fun b o hb e => (sb.2 b hb).trans e) f0 f1 f3 f4 f5
   obtain ⟨o,e,c,d⟩ := id st'
   refine ⟨_,rfl,JcW (s := { s with heap := h',toks := s.toks + 1 }) e c d (by rcases hn with rfl | rfl <;> decide) ⟨T [l[i]],H,I1,⟨_,rfl⟩,⟨rfl,l[i],by simp [hi],rfl⟩,st',fun b hb => (hf b hb).1⟩⟩
  rcases hn with rfl | rfl
  ·exact wpAny_pyNext_ascii_item st hx fin
  ·exact wpAny_pyNext_wide_item st hx fin
 done := by
  intro X hP hw hK hc i pins s σ H E I hf st hg
  subst hP hw hK
  obtain ⟨f0,f1,f2,f3,f4,f5⟩ := hf it (by simp)
  have hi : l.length ≤ i := hg
  have hx : (⟨l.toArray⟩ : Str).cps[i]? = none := by simp; exact hi
  have fin : ∀ h',Heap.ExtBut it s.heap h' → (none : Option Value) = none ∧ Inv X pins σ H { s with heap := h' } := fun h' eb => ⟨rfl,I.turned (t' := s.toks) (fun b o hb e => eb b o hb e) f0 f1 f3 f4 f5⟩
  rcases hn with rfl | rfl
  ·exact wpAny_pyNext_ascii_end (I.ok.hd hc) st hx fin
  ·exact wpAny_pyNext_wide_end (I.ok.hd hc) st hx fin
 self := fun _ _ _ _ _ st h => by
  rcases hn with rfl | rfl
  ·exact wpAny_pyIter_striter_ascii st h
  ·exact wpAny_pyIter_striter_wide st h
section
variable {X : Cx} {tg : Expr}
noncomputable def iTxt (tl : TE) : TI := fun σ H R => tl σ H fun x H1 => ∃ l,x = T l ∧ R (Its l) H1
theorem J4H {e : Expr} {tl : TE} (hl : PE X e tl) : PI X tg e (iTxt tl) := by
 intro pins s σ H R I h
 refine thn (hl pins s σ H _ I h) fun v s1 ⟨x,H1,I1,r1,q1⟩ => ?_
 obtain ⟨l,e,q⟩ := q1
 subst e
 obtain ⟨t,rfl⟩ := r1
 have fin : ∀ nm : String,(nm = "str_ascii_iterator" ∨ nm = "str_iterator") → PIE X pins σ tg R (.ref s1.heap.objs.size) { s1 with heap := s1.heap.push { cls := .type nm,data := .fields #[.str ⟨l.toArray⟩ t,.int 0 0] } } := fun nm hn => by
  refine ⟨s1.heap.objs.size,[s1.heap.objs.size],_,_,H1,rfl,I1.kept (t' := s1.toks) fun b o e => Heap.get?_push_of_some _ e,Jdx (t := t) hn,⟨_,Heap.get?_push_size _ rfl,rfl,rfl⟩,fun b hb => ?_,q⟩
  have e : b = s1.heap.objs.size := by simpa using hb
  subst e
  exact I1.fpOk (Nat.le_refl _) (I1.hok.fresh (Nat.le_refl _))
 cases ha : (⟨l.toArray⟩ : Str).cps.all (· < 128) with
 | true => exact wpAny_pyIter_ascii ha (fin _ (.inl rfl))
 | false => exact wpAny_pyIter_wide ha (fin _ (.inr rfl))
end
theorem J2X {H : Hp} (l : List Nat) : J6X (Its l) H (l.map fun c => T [c]) where
 go := fun i H' s hi => by rw [List.length_map] at hi; exact hi
 yld := fun i H' x H'' s hi y => by
  obtain ⟨e,c,hc,rfl⟩ := y
  exact ⟨e,by rw [List.getElem?_map,hc]; rfl⟩
 stop := fun H' s => by rw [List.length_map]; exact Nat.le_refl _
theorem JeM {l : List Nat} {g : TG} {tb : TS} {D : Ends} {σ : St} {H : Hp} (Pv : Nat → St → Hp → Prop) (h0 : Pv 0 σ H)
  (hs : ∀ i c σ H,l[i]? = some c → Pv i σ H → g (T [c]) σ H fun σ2 H2 => tb { D with nx := Pv (i + 1),ct := Pv (i + 1),bk := D.nx } σ2 H2) (hd : ∀ σ H,Pv l.length σ H → D.nx σ H) :
  ∃ W : Nat → Nat → St → Hp → Prop,(∃ m,W 0 m σ H) ∧ ∀ i m σ H,W i m σ H →
   ((Its l).stop i H ∧ D.nx σ H) ∨ ((Its l).go i H ∧ ∃ N : St → Hp → Prop,(∀ σ' H',N σ' H' → ∃ m',m' < m ∧ W (i + 1) m' σ' H') ∧ ∀ x H',(Its l).yld i H x H' → g x σ H' fun σ2 H2 => tb { D with nx := N,ct := N,bk := D.nx } σ2 H2) := by
 refine ⟨fun i m σ H => m = l.length - i ∧ i ≤ l.length ∧ Pv i σ H,⟨l.length,by simp,Nat.zero_le _,h0⟩,?_⟩
 rintro i m σ H ⟨rfl,hi,p⟩
 by_cases hlt : i < l.length
 ·refine .inr ⟨hlt,Pv (i + 1),fun σ' H' p' => ⟨l.length - (i + 1),by omega,rfl,hlt,p'⟩,fun x H' y => ?_⟩
  obtain ⟨e,c,hc,rfl⟩ := y
  subst e
  exact hs i c σ _ hc p
 ·have e : i = l.length := by omega
  subst e
  exact .inl ⟨Nat.le_refl _,hd σ H p⟩
theorem J86 : ∀ {ts : List (List Nat)} {us : List Value},Vals (ts.map T) us → PyProof.Rows.StrsAre us (ts.map fun l => ⟨l.toArray⟩)
 | [],_,h => by cases h; exact .nil
 | l :: r,_,h => by
  cases h with
  | cons r1 r2 =>
   obtain ⟨t,rfl⟩ := r1
   exact .cons _ t (J86 r2)
noncomputable def J70 (sep : List Nat) : List (List Nat) → List Nat
 | [] => []
 | [x] => x
 | x :: y :: r => x ++ sep ++ J70 sep (y :: r)
theorem Ja8 (sep : List Nat) : ∀ ts : List (List Nat),Str.join ⟨sep.toArray⟩ (ts.map fun l => ⟨l.toArray⟩) = ⟨(J70 sep ts).toArray⟩
 | [] => rfl
 | [x] => rfl
 | x :: y :: r => by
  show (⟨x.toArray⟩ : Str) ++ ⟨sep.toArray⟩ ++ Str.join ⟨sep.toArray⟩ ((y :: r).map fun l => ⟨l.toArray⟩) = _
  rw [Ja8 sep (y :: r),Ja2,Ja2]
  rfl
theorem J2V : ∀ ts : List (List Nat),J70 [] ts = ts.flatten
 | [] => rfl
 | [x] => by simp [J70]
 | x :: y :: r => by
  show x ++ [] ++ J70 [] (y :: r) = _
  rw [J2V (y :: r),List.append_nil]
  rfl
theorem J3x : ∀ cs : List Nat,(((cs.map fun c => [c]).map List.length).sum) = cs.length
 | [] => rfl
 | c :: r => by
  rw [List.map_cons,List.map_cons,List.sum_cons,J3x r]
  simp
  omega
theorem J2Y : ∀ cs : List Nat,(cs.map fun c => [c]).flatten = cs
 | [] => rfl
 | c :: r => by
  rw [List.map_cons,List.flatten_cons,J2Y r]
  rfl
section
variable {X : Cx}
noncomputable def Jdj (K : PySem.W.Frag) : V → List V → Hp → VK → Prop := fun x vs H Q => ∃ sep ts D,x = T sep ∧ vs = [.ref D] ∧ SqL K H D (ts.map T) ∧ (ts.map List.length).sum + ts.length * sep.length ≤ 16777216 ∧ Q (T (J70 sep ts)) H
theorem Jeu : MtR X "str.join" (Jdj X.K) := by
 intro pins s σ H x vs v us Q I rx rv h
 obtain ⟨sep,ts,D,rfl,rfl,hq,hz,q⟩ := h
 obtain ⟨t,rfl⟩ := rx
 obtain ⟨u,rfl,ru⟩ := rv.one
 cases ru
 obtain ⟨its,r,pl,_⟩ := I.list hq
 refine join_list (ys := ts.map fun l => ⟨l.toArray⟩) pl.isList (by simpa using J86 r) ?_ fun t' k => ⟨T (J70 sep ts),H,I.tok _,⟨t',?_⟩,q⟩
 ·rw [List.map_map,List.length_map,J3i]
  have e : ((fun x => x.length) ∘ fun l : List Nat => (⟨l.toArray⟩ : Str)) = List.length := by funext l; exact J3i l
  rw [e]
  exact hz
 ·rw [← Ja8]
  show Value.str (Builtin.Str.glued _ _) t' = _
  rw [StrLaws.glued_eq_join]
end
theorem Jez {X : Cx} {o e : Expr} {to : TE} {t : TA} {apos cpos : Pos} (ho : PE X o to) (ha : PA X [e] t)
  (hbase : attributeBase o "join" X.env (eval o X.env) = eval o X.env := by rfl)
  (hfew : ((backTo cpos (starEach [e] X.env)).all (fun x => !x.1) && (backToKw cpos (keywordEach [] X.env)).all (fun x => x.1.isSome)
   && decide ([e].length + ([] : List Keyword).length + (if ([] : List Keyword).isEmpty then 0 else 1) < 30)) = true := by rfl)
  (hline : (apos.endLine == cpos.line) = true := by rfl) (hs : starEach [e] X.env = (false,eval e X.env) :: starEach [] X.env := by rfl) (hplain : (backTo cpos (starEach [] X.env)).any (·.1) = false := by rfl) :
  PE X (.Call (.Attribute o "join" apos) [e] [] cpos) (tBM X.K "str" (Jdj X.K) to t) :=
 J3k F.plainAttrs_str F.slot_str_join F.type_str_join Jeu ho ha hbase hfew hline hs hplain
theorem Jan {bs : List Bool} {us : List Value} (h : Vals (bs.map V.bl) us) : us = bs.map Value.bool := by
 induction bs generalizing us with
 | nil => cases h; rfl
 | cons b r ih =>
  cases h with
  | cons r1 r2 =>
   cases r1
   rw [ih r2]; rfl
theorem Jc7 (bs : List Bool) : (List.range bs.length).all (fun i => bs.getD i false) = bs.all id := by
 rw [Bool.eq_iff_iff,List.all_eq_true,List.all_eq_true]
 constructor
 ·intro h b hb
  obtain ⟨i,hi,rfl⟩ := List.mem_iff_getElem.mp hb
  have := h i (List.mem_range.mpr hi)
  simpa [List.getD_eq_getElem?_getD,hi] using this
 ·intro h i hi
  have hi := List.mem_range.mp hi
  have := h bs[i] (List.getElem_mem hi)
  simpa [List.getD_eq_getElem?_getD,hi] using this
theorem Jcq (bs : List Bool) : (List.range bs.length).any (fun i => bs.getD i false) = bs.any id := by
 rw [Bool.eq_iff_iff,List.any_eq_true,List.any_eq_true]
 constructor
 ·rintro ⟨i,hi,h⟩
  have hi := List.mem_range.mp hi
  refine ⟨bs[i],List.getElem_mem hi,?_⟩
  simpa [List.getD_eq_getElem?_getD,hi] using h
 ·rintro ⟨b,hb,h⟩
  obtain ⟨i,hi,rfl⟩ := List.mem_iff_getElem.mp hb
  refine ⟨i,List.mem_range.mpr hi,?_⟩
  simpa [List.getD_eq_getElem?_getD,hi] using h
section
variable {X : Cx}
theorem J7P (bs : List Bool) {A : Around} : TruthOf X.prog X.w A (fun i v => (bs.map Value.bool).toArray[i]? = some v) (fun i => bs.getD i false) := fun i v s Q E hP hQ => by
 have : ∃ b,bs[i]? = some b ∧ v = .bool b := by
  have hP' : (bs.map Value.bool).toArray[i]? = some v := hP
  rw [List.getElem?_toArray,List.getElem?_map] at hP'
  cases hb : bs[i]? with
  | none => rw [hb] at hP'; cases hP'
  | some b => rw [hb] at hP'; exact ⟨b,rfl,(Option.some.inj hP').symm⟩
 obtain ⟨b,hb,rfl⟩ := this
 refine wpAny_truthy_bool ?_
 simpa [List.getD_eq_getElem?_getD,hb] using hQ
theorem Jce (hc : X.calm = true) : J2R X (.builtin "all") (fun xs H Q => ∃ (D : Addr) (bs : List Bool),xs = [.ref D] ∧ SqL X.K H D (bs.map V.bl) ∧ Q (.bl (bs.all id)) H) := by
 intro pins s σ H xs us Q I r h
 obtain ⟨D,bs,rfl,hq,q⟩ := h
 obtain ⟨u,rfl,ru⟩ := r.one
 cases ru
 obtain ⟨its,rv,pl,_⟩ := I.list hq
 obtain rfl := Jan rv
 have hD : D < s.heap.objs.size := by obtain ⟨o,n,e,_⟩ := pl; exact Heap.lt_size e
 refine call_all_walk (wpAny_pyIter_list pl.isList ⟨s.heap.objs.size,_,_,_,_,_,fun i => bs.getD i false,rfl,Walks.list (A := X.A.in1) (I.ok.hd hc) _ D (Nat.ne_of_lt hD) (bs.map Value.bool).toArray,
  ⟨⟨_,Heap.get?_push_size _ rfl,rfl,rfl⟩,pl.isList.push _⟩,J7P bs,fun h' tk hk => ?_⟩)
 rw [List.size_toArray,List.length_map,Jc7]
 exact ⟨.bl (bs.all id),H,I.kept fun b o e => hk b o (by simpa using Nat.ne_of_lt (Heap.lt_size e)) (Heap.get?_push_of_some _ e),rfl,q⟩
theorem Jco (hc : X.calm = true) : J2R X (.builtin "any") (fun xs H Q => ∃ (D : Addr) (bs : List Bool),xs = [.ref D] ∧ SqL X.K H D (bs.map V.bl) ∧ Q (.bl (bs.any id)) H) := by
 intro pins s σ H xs us Q I r h
 obtain ⟨D,bs,rfl,hq,q⟩ := h
 obtain ⟨u,rfl,ru⟩ := r.one
 cases ru
 obtain ⟨its,rv,pl,_⟩ := I.list hq
 obtain rfl := Jan rv
 have hD : D < s.heap.objs.size := by obtain ⟨o,n,e,_⟩ := pl; exact Heap.lt_size e
 refine call_any_walk (wpAny_pyIter_list pl.isList ⟨s.heap.objs.size,_,_,_,_,_,fun i => bs.getD i false,rfl,Walks.list (A := X.A.in1) (I.ok.hd hc) _ D (Nat.ne_of_lt hD) (bs.map Value.bool).toArray,
  ⟨⟨_,Heap.get?_push_size _ rfl,rfl,rfl⟩,pl.isList.push _⟩,J7P bs,fun h' tk hk => ?_⟩)
 rw [List.size_toArray,List.length_map,Jcq]
 exact ⟨.bl (bs.any id),H,I.kept fun b o e => hk b o (by simpa using Nat.ne_of_lt (Heap.lt_size e)) (Heap.get?_push_of_some _ e),rfl,q⟩
end
end L2
set_option linter.all false
set_option maxRecDepth 100000
set_option maxHeartbeats 4000000
namespace L2
open PySem PySem.Spec PyProof.Rows
open Builtin Builtin.Str
section
variable {prog : Program} {w : World} {A : Around} {E : Value → Shared → Prop} {s : Shared}
structure J3W (z TI TO i1 i2 : Addr) : Prop where
 TIz : TI ≠ z
 TOz : TO ≠ z
 i1z : i1 ≠ z
 i2z : i2 ≠ z
 TITO : TI ≠ TO
 TIi1 : TI ≠ i1
 TIi2 : TI ≠ i2
 TOi1 : TO ≠ i1
 TOi2 : TO ≠ i2
 i12 : i1 ≠ i2
theorem J79 (n : Nat) : J3W (n + 4) (n + 2) (n + 3) n (n + 1) :=
 ⟨Nat.ne_of_lt (by omega),Nat.ne_of_lt (by omega),Nat.ne_of_lt (by omega),Nat.ne_of_lt (by omega),Nat.ne_of_lt (by omega),Nat.ne_of_gt (by omega),Nat.ne_of_gt (by omega),Nat.ne_of_gt (by omega),Nat.ne_of_gt (by omega),Nat.ne_of_lt (by omega)⟩
theorem Jc4 {z TI TO i1 i2 : Addr} {k n1 n2 : Nat} {P1 P2 : Nat → Value → Prop} {St1 St2 : Nat → Heap → Prop} {a b : Value} {Q : Value → Shared → Prop} (F : J3W z TI TO i1 i2)
  (D1 : Draws prog w A i1 [i1] n1 P1 St1) (D2 : Draws prog w A i2 [i2] n2 P2 St2)
  (hz : IsZip s.heap z TI TO .none) (hTI : IsPair s.heap TI (.ref i1) (.ref i2)) (hTO : IsPair s.heap TO a b)
  (h1 : St1 k s.heap) (h2 : St2 k s.heap) (hk1 : k < n1) (hk2 : k < n2)
  (hQ : ∀ x y h' tk,P1 k x → P2 k y → IsZip h' z TI TO (rawInt s.heap.objs.size) → IsPair h' TO x y → St1 (k + 1) h' → St2 (k + 1) h' → IsPair h' s.heap.objs.size x y → h'.objs.size = s.heap.objs.size + 1 →
   (∀ c o,c ≠ z → c ≠ TO → c ≠ i1 → c ≠ i2 → s.heap.get? c = some o → h'.get? c = some o) → Q (.ref s.heap.objs.size) { s with heap := h',toks := tk }) :
  wpAny (model prog w) A (Builtin.«zip.__next__» ⟨[.ref z],[]⟩) (fun fin s' => ∃ v,fin = .done (.ret v) ∧ Q v s') E s := by
 have fr1 : ∀ i h h',St1 i h → (∀ o,h.get? i1 = some o → h'.get? i1 = some o) → St1 i h' := fun i h h' st hk => D1.frame i h h' st fun b hb o e => by
  have : b = i1 := by simpa using hb
  subst this; exact hk o e
 have fr2 : ∀ i h h',St2 i h → (∀ o,h.get? i2 = some o → h'.get? i2 = some o) → St2 i h' := fun i h h' st hk => D2.frame i h h' st fun b hb o e => by
  have : b = i2 := by simpa using hb
  subst this; exact hk o e
 show wpAny _ _ (field (.ref z) 2 >>= _) _ _ _
 refine wpAny_bind (wpAny_field hz rfl (x := .bool false) rfl ?_)
 show wpAny _ _ (field (.ref z) 3 >>= _) _ _ _
 refine wpAny_bind (wpAny_field hz rfl (x := .ref TI) rfl ?_)
 refine wpAny_bind (wpAny_seqItems hTI rfl ?_)
 show wpAny _ _ (Builtin.SmallTypes.ownedTupleIsFree (.ref z) >>= _) _ _ _
 refine wpAny_bind ?_
 unfold Builtin.SmallTypes.ownedTupleIsFree
 refine wpAny_bind (wpAny_field hz rfl (x := .none) rfl (wpAny_pure ?_))
 simp only [if_true]
 refine wpAny_bind (wpAny_rule ?_)
 refine wpAny_bind (wpAny_field hz rfl (x := .ref TO) rfl ?_)
 refine wpAny_bind (wpAny_setField_rec hz (by simp) fun h₁ hz₁ hs₁ => ?_)
 replace hz₁ : IsZip h₁ z TI TO .ellipsis := hz₁
 refine wpAny_bind ?_
 simp only [List.zipIdx_cons,List.zipIdx_nil,List.forIn_cons,List.forIn_nil]
 refine wpAny_bind (wpAny_bind (wpAny_onRaise ?_))
 show wpAny _ _ (Builtin.SmallTypes.nextOf (.ref i1) >>= _) _ _ _
 refine wpAny_bind (D1.item k _ _ _ hk1 (fr1 _ _ _ h1 fun o e => hs₁.extBut _ _ F.i1z e) fun x h₂ tk₂ hx h1₂ hs₂ => wpAny_pure ?_)
 replace hs₂ : Heap.SameBut i1 h₁ h₂ := hs₂
 have hTO₂ : IsPair h₂ TO a b := hs₂.extBut _ _ F.TOi1 (hs₁.extBut _ _ F.TOz hTO)
 refine wpAny_bind (wpAny_seqItems hTO₂ rfl ?_)
 refine wpAny_bind (wpAny_updateSeq_pair hTO₂ fun h₃ hTO₃ hs₃ => ?_)
 replace hTO₃ : IsPair h₃ TO x b := hTO₃
 replace hs₃ : Heap.SameBut TO h₂ h₃ := hs₃
 refine wpAny_bind (wpAny_letGo (wpAny_pure ?_))
 refine wpAny_bind (wpAny_bind (wpAny_onRaise ?_))
 show wpAny _ _ (Builtin.SmallTypes.nextOf (.ref i2) >>= _) _ _ _
 refine wpAny_bind (D2.item k _ _ _ hk2 (fr2 _ _ _ h2 fun o e => hs₃.extBut _ _ F.TOi2.symm (hs₂.extBut _ _ F.i12.symm (hs₁.extBut _ _ F.i2z e))) fun y h₄ tk₄ hy h2₄ hs₄ => wpAny_pure ?_)
 replace hs₄ : Heap.SameBut i2 h₃ h₄ := hs₄
 have hTO₄ : IsPair h₄ TO x b := hs₄.extBut _ _ F.TOi2 hTO₃
 refine wpAny_bind (wpAny_seqItems hTO₄ rfl ?_)
 refine wpAny_bind (wpAny_updateSeq_pair hTO₄ fun h₅ hTO₅ hs₅ => ?_)
 replace hTO₅ : IsPair h₅ TO x y := hTO₅
 replace hs₅ : Heap.SameBut TO h₄ h₅ := hs₅
 refine wpAny_bind (wpAny_letGo (wpAny_pure (wpAny_pure ?_)))
 refine wpAny_bind (wpAny_seqItems hTO₅ rfl ?_)
 refine wpAny_bind (wpAny_newTuple ?_)
 have hsz : h₅.objs.size = s.heap.objs.size := by rw [hs₅.1,hs₄.1,hs₃.1,hs₂.1,hs₁.1]
 have hz₅ : IsZip h₅ z TI TO .ellipsis := hs₅.extBut _ _ F.TOz.symm (hs₄.extBut _ _ F.i2z.symm (hs₃.extBut _ _ F.TOz.symm (hs₂.extBut _ _ F.i1z.symm hz₁)))
 have hk₅ : ∀ c o,c ≠ z → c ≠ TO → c ≠ i1 → c ≠ i2 → s.heap.get? c = some o → h₅.get? c = some o := fun c o c1 c2 c3 c4 e =>
  hs₅.extBut _ _ c2 (hs₄.extBut _ _ c4 (hs₃.extBut _ _ c2 (hs₂.extBut _ _ c3 (hs₁.extBut _ _ c1 e))))
 have h1₅ : St1 (k + 1) h₅ := fr1 _ _ _ h1₂ fun o e => hs₅.extBut _ _ F.TOi1.symm (hs₄.extBut _ _ F.i12 (hs₃.extBut _ _ F.TOi1.symm e))
 have h2₅ : St2 (k + 1) h₅ := fr2 _ _ _ h2₄ fun o e => hs₅.extBut _ _ F.TOi2.symm e
 have hzlt : z < h₅.objs.size := Heap.lt_size hz₅
 show wpAny _ _ (Builtin.SmallTypes.ownedTupleHandOut (.ref z) (.ref h₅.objs.size) >>= _) _ _ _
 refine wpAny_bind ?_
 unfold Builtin.SmallTypes.ownedTupleHandOut
 have hz₆ : IsZip (h₅.push { cls := .type "tuple",data := .seq #[x,y] }) z TI TO .ellipsis := Heap.get?_push_of_some _ hz₅
 refine wpAny_bind (wpAny_setField_rec hz₆ (by simp) fun h₇ hz₇ hs₇ => ?_)
 replace hz₇ : IsZip h₇ z TI TO (rawInt h₅.objs.size) := hz₇
 replace hs₇ : Heap.SameBut z (h₅.push { cls := .type "tuple",data := .seq #[x,y] }) h₇ := hs₇
 refine wpAny_setField_rec hz₇ (by simp) fun h₈ hz₈ hs₈ => ?_
 replace hz₈ : IsZip h₈ z TI TO (rawInt h₅.objs.size) := hz₈
 replace hs₈ : Heap.SameBut z h₇ h₈ := hs₈
 have up : ∀ c o,c ≠ z → h₅.get? c = some o → h₈.get? c = some o := fun c o c1 e => hs₈.extBut _ _ c1 (hs₇.extBut _ _ c1 (Heap.get?_push_of_some _ e))
 have hT₈ : IsPair h₈ h₅.objs.size x y := hs₈.extBut _ _ (Nat.ne_of_gt hzlt) (hs₇.extBut _ _ (Nat.ne_of_gt hzlt) (Heap.get?_push_size _ rfl))
 have hz8 : h₈.objs.size = h₅.objs.size + 1 := by rw [hs₈.1,hs₇.1,Heap.size_push]
 rw [hsz] at hz₈ hT₈ hz8
 refine wpAny_pure ⟨_,rfl,?_⟩
 show Q (.ref h₅.objs.size) _
 rw [hsz]
 exact hQ x y h₈ tk₄ hx hy hz₈ (up _ _ F.TOz hTO₅) (fr1 _ _ _ h1₅ fun o e => up _ o F.i1z e) (fr2 _ _ _ h2₅ fun o e => up _ o F.i2z e) hT₈ hz8 fun c o c1 c2 c3 c4 e => up c o c1 (hk₅ c o c1 c2 c3 c4 e)
theorem JdR {z TI TO i1 i2 : Addr} {k n1 n2 : Nat} {P1 P2 : Nat → Value → Prop} {St1 St2 : Nat → Heap → Prop} {a b : Value} {Q : Fin → Shared → Prop} (F : J3W z TI TO i1 i2)
  (D1 : Draws prog w A i1 [i1] n1 P1 St1) (D2 : Draws prog w A i2 [i2] n2 P2 St2)
  (hz : IsZip s.heap z TI TO .none) (hTI : IsPair s.heap TI (.ref i1) (.ref i2)) (hTO : IsPair s.heap TO a b)
  (h1 : St1 k s.heap) (h2 : St2 k s.heap) (hend : k = n1 ∨ (k < n1 ∧ k = n2))
  (hE : ∀ h' tk e,(∀ c o,c ≠ z → c ≠ TO → c ≠ i1 → c ≠ i2 → s.heap.get? c = some o → h'.get? c = some o) → (∃ o,h'.get? e = some o ∧ o.cls = .type "StopIteration") → E (.ref e) { s with heap := h',toks := tk }) :
  wpAny (model prog w) A (Builtin.«zip.__next__» ⟨[.ref z],[]⟩) Q E s := by
 have fr1 : ∀ i h h',St1 i h → (∀ o,h.get? i1 = some o → h'.get? i1 = some o) → St1 i h' := fun i h h' st hk => D1.frame i h h' st fun b hb o e => by
  have : b = i1 := by simpa using hb
  subst this; exact hk o e
 have fr2 : ∀ i h h',St2 i h → (∀ o,h.get? i2 = some o → h'.get? i2 = some o) → St2 i h' := fun i h h' st hk => D2.frame i h h' st fun b hb o e => by
  have : b = i2 := by simpa using hb
  subst this; exact hk o e
 show wpAny _ _ (field (.ref z) 2 >>= _) _ _ _
 refine wpAny_bind (wpAny_field hz rfl (x := .bool false) rfl ?_)
 show wpAny _ _ (field (.ref z) 3 >>= _) _ _ _
 refine wpAny_bind (wpAny_field hz rfl (x := .ref TI) rfl ?_)
 refine wpAny_bind (wpAny_seqItems hTI rfl ?_)
 show wpAny _ _ (Builtin.SmallTypes.ownedTupleIsFree (.ref z) >>= _) _ _ _
 refine wpAny_bind ?_
 unfold Builtin.SmallTypes.ownedTupleIsFree
 refine wpAny_bind (wpAny_field hz rfl (x := .none) rfl (wpAny_pure ?_))
 simp only [if_true]
 refine wpAny_bind (wpAny_rule ?_)
 refine wpAny_bind (wpAny_field hz rfl (x := .ref TO) rfl ?_)
 refine wpAny_bind (wpAny_setField_rec hz (by simp) fun h₁ hz₁ hs₁ => ?_)
 replace hz₁ : IsZip h₁ z TI TO .ellipsis := hz₁
 refine wpAny_bind ?_
 simp only [List.zipIdx_cons,List.zipIdx_nil,List.forIn_cons,List.forIn_nil]
 refine wpAny_bind (wpAny_bind (wpAny_onRaise ?_))
 show wpAny _ _ (Builtin.SmallTypes.nextOf (.ref i1) >>= _) _ _ _
 rcases hend with hk | ⟨hk1,hk⟩
 ·subst hk
  refine wpAny_bind (D1.done _ _ _ (fr1 _ _ _ h1 fun o e => hs₁.extBut _ _ F.i1z e) fun h₂ e hs₂ he => ?_)
  obtain ⟨oe,hoe,hce⟩ := he
  replace hs₂ : Heap.ExtBut i1 h₁ h₂ := hs₂
  have hz₂ : IsZip h₂ z TI TO .ellipsis := hs₂ _ _ F.i1z.symm hz₁
  have hez : e ≠ z := fun x => by subst x; rw [hz₂] at hoe; cases hoe; simp at hce
  exact wpAny_setField_rec hz₂ (by simp) fun h₃ _ hs₃ => hE h₃ _ e (fun c o c1 _ c3 _ x => hs₃.extBut _ _ c1 (hs₂ _ _ c3 (hs₁.extBut _ _ c1 x))) ⟨oe,hs₃.extBut _ _ hez hoe,hce⟩
 ·subst hk
  refine wpAny_bind (D1.item k _ _ _ hk1 (fr1 _ _ _ h1 fun o e => hs₁.extBut _ _ F.i1z e) fun x h₂ tk₂ hx h1₂ hs₂ => wpAny_pure ?_)
  replace hs₂ : Heap.SameBut i1 h₁ h₂ := hs₂
  have hTO₂ : IsPair h₂ TO a b := hs₂.extBut _ _ F.TOi1 (hs₁.extBut _ _ F.TOz hTO)
  refine wpAny_bind (wpAny_seqItems hTO₂ rfl ?_)
  refine wpAny_bind (wpAny_updateSeq_pair hTO₂ fun h₃ hTO₃ hs₃ => ?_)
  replace hs₃ : Heap.SameBut TO h₂ h₃ := hs₃
  refine wpAny_bind (wpAny_letGo (wpAny_pure ?_))
  refine wpAny_bind (wpAny_bind (wpAny_onRaise ?_))
  show wpAny _ _ (Builtin.SmallTypes.nextOf (.ref i2) >>= _) _ _ _
  refine wpAny_bind (D2.done _ _ _ (fr2 _ _ _ h2 fun o e => hs₃.extBut _ _ F.TOi2.symm (hs₂.extBut _ _ F.i12.symm (hs₁.extBut _ _ F.i2z e))) fun h₄ e hs₄ he => ?_)
  obtain ⟨oe,hoe,hce⟩ := he
  replace hs₄ : Heap.ExtBut i2 h₃ h₄ := hs₄
  have hz₄ : IsZip h₄ z TI TO .ellipsis := hs₄ _ _ F.i2z.symm (hs₃.extBut _ _ F.TOz.symm (hs₂.extBut _ _ F.i1z.symm hz₁))
  have hez : e ≠ z := fun x => by subst x; rw [hz₄] at hoe; cases hoe; simp at hce
  exact wpAny_setField_rec hz₄ (by simp) fun h₅ _ hs₅ => hE h₅ _ e (fun c o c1 c2 c3 c4 x => hs₅.extBut _ _ c1 (hs₄ _ _ c4 (hs₃.extBut _ _ c2 (hs₂.extBut _ _ c3 (hs₁.extBut _ _ c1 x))))) ⟨oe,hs₅.extBut _ _ hez hoe,hce⟩
theorem J5e {it : Addr} {l : List Nat} {t : Tok} {nm : String} (hh : A.handled = none) (hn : nm = "str_ascii_iterator" ∨ nm = "str_iterator") :
  Draws prog w A it [it] l.length (fun i v => ∃ c u,l[i]? = some c ∧ v = .str ⟨#[c]⟩ u) (fun i h => h.IsStrIter it nm ⟨l.toArray⟩ t i) := by
 rcases hn with rfl | rfl
 ·have D := Draws.strAscii (prog := prog) (w := w) hh it ⟨l.toArray⟩ t
  simpa using D
 ·have D := Draws.strWide (prog := prog) (w := w) hh it ⟨l.toArray⟩ t
  simpa using D
end
theorem Inv.turnedN {X : Cx} {pins : List (Addr × Obj)} {σ : St} {H : Hp} {s : Shared} {h' : Heap} {t' : Nat} {ch : List Addr} (I : Inv X pins σ H s) (k : ∀ b o,b ∉ ch → s.heap.get? b = some o → h'.get? b = some o) (hf : ∀ b ∈ ch,FpOk X pins H b) :
  Inv X pins σ H { s with heap := h',toks := t' } := by
 have nch : ∀ b u,H b = some u → b ∉ ch := fun b u e z => by rw [(hf b z).1] at e; cases e
 refine I.step (g' := s.gens) (d' := s.drawn) (ch := ch) (fun b hb => ?_) (fun b o _ _ hc e _ => k b o hc e) (fun b o _ _ hc e _ => ⟨o.slots,k b o hc e⟩) (fun _ _ _ _ n => n)
  (fun b o hc e => ⟨o,k b o hc e⟩) (fun _ _ e => e) (fun _ _ _ e => e) (fun b ps e => ⟨#[],by rw [e]; simp⟩) (fun m hm => ?_) (fun b u e => ?_) I.bare
 ·obtain ⟨f0,f1,f2,f3,f4,f5⟩ := hf b hb
  exact ⟨f3,f1,f4,f5⟩
 ·obtain ⟨o,es,ep,ho,r⟩ := hm
  exact ⟨o,es,ep,k _ o (fun z => (hf _ z).2.1 rfl) ho,r⟩
 ·refine (I.hok b u e).stay (fun c v hc q => k c v ?_ q) (fun _ q => q) fun _ _ q => q
  rcases hc with z | z
  ·rw [z]; exact nch b u e
  ·exact nch c _ z
noncomputable def Itz (l1 l2 : List Nat) : It :=
 ⟨fun i _ => i < l1.length ∧ i < l2.length,fun i H x H' => ∃ p c d,H p = none ∧ l1[i]? = some c ∧ l2[i]? = some d ∧ x = .ref p ∧ H' = upd H p (.tup [T [c],T [d]]),fun i _ => i = l1.length ∨ (i < l1.length ∧ i = l2.length)⟩
theorem Jcb {P : Program} {w : World} {K : PySem.W.Frag} {es : List Expr} {k : Nat} {pos : Pos} {z TI TO i1 i2 : Addr} {l1 l2 : List Nat} {t1 t2 : Tok} {n1 n2 : String} (F : J3W z TI TO i1 i2)
  (hn1 : n1 = "str_ascii_iterator" ∨ n1 = "str_iterator") (hn2 : n2 = "str_ascii_iterator" ∨ n2 = "str_iterator") :
  Turn P w K (.Tuple es k pos) (Itz l1 l2) [z,TI,TO,i1,i2] z (fun i h => IsZip h z TI TO .none ∧ IsPair h TI (.ref i1) (.ref i2) ∧ (∃ a b,IsPair h TO a b) ∧ h.IsStrIter i1 n1 ⟨l1.toArray⟩ t1 i ∧ h.IsStrIter i2 n2 ⟨l2.toArray⟩ t2 i) where
 mem := by simp
 obj := fun i h st b hb => by
  obtain ⟨hz,hTI,⟨a,b',hTO⟩,⟨o1,e1,c1,d1⟩,o2,e2,c2,d2⟩ := st
  simp only [List.mem_cons,List.not_mem_nil,or_false] at hb
  rcases hb with rfl | rfl | rfl | rfl | rfl
  ·exact ⟨_,hz,fun v q => by cases q⟩
  ·exact ⟨_,hTI,fun v q => by cases q⟩
  ·exact ⟨_,hTO,fun v q => by cases q⟩
  ·exact ⟨o1,e1,fun v q => by rw [d1] at q; cases q⟩
  ·exact ⟨o2,e2,fun v q => by rw [d2] at q; cases q⟩
 keep := fun i h h' st kk => by
  obtain ⟨hz,hTI,⟨a,b',hTO⟩,⟨o1,e1,r1⟩,o2,e2,r2⟩ := st
  exact ⟨kk z (by simp) _ hz,kk TI (by simp) _ hTI,⟨a,b',kk TO (by simp) _ hTO⟩,⟨o1,kk i1 (by simp) _ e1,r1⟩,o2,kk i2 (by simp) _ e2,r2⟩
 item := by
  intro X hP hw hK hc i pins s σ H E I hf st hg
  subst hP hw hK
  obtain ⟨hz,hTI,⟨a,b,hTO⟩,h1,h2⟩ := st
  have hh : X.A.in1.handled = none := I.ok.hd hc
  have hT : s.TypeIs (.ref z) "zip" := ⟨_,hz,rfl⟩
  have D1 := J5e (prog := X.prog) (w := X.w) (it := i1) (l := l1) (t := t1) hh hn1
  have D2 := J5e (prog := X.prog) (w := X.w) (it := i2) (l := l2) (t := t2) hh hn2
  unfold pyNext
  refine wpAny_bind (wpAny_attempt (wpAny_callSpecial?_slot (name := Str.ofString "__next__") hT PySem.F.slot_zip_next (wpAny_call_entry PySem.F.slot_zip_next hT PySem.F.entry_zip_next
   (Jc4 F D1 D2 hz hTI hTO h1 h2 hg.1 hg.2 fun x y h' tk hx hy a1 a2 a3 a4 a5 a6 kp => wpAny_pure ?_) (PySem.F.args_zip_next_1 _))))
  obtain ⟨c,u,hc1,rfl⟩ := hx
  obtain ⟨d,v,hd1,rfl⟩ := hy
  refine ⟨_,rfl,?_⟩
  refine wpAny_letOwnedTupleGo_zip (s := { s with heap := h',toks := tk }) a1 fun h2' hz' hs' => ?_
  replace hs' : Heap.SameBut z h' h2' := hs'
  have zlt : z < s.heap.objs.size := Heap.lt_size hz
  have far : ∀ q ∈ [z,TI,TO,i1,i2],q < s.heap.objs.size := by
   intro q hq
   obtain ⟨o1,e1,_⟩ := h1
   obtain ⟨o2,e2,_⟩ := h2
   simp only [List.mem_cons,List.not_mem_nil,or_false] at hq
   rcases hq with rfl | rfl | rfl | rfl | rfl
   ·exact zlt
   ·exact Heap.lt_size hTI
   ·exact Heap.lt_size hTO
   ·exact Heap.lt_size e1
   ·exact Heap.lt_size e2
  have fz := hf z (by simp)
  have fTO := hf TO (by simp)
  have f1 := hf i1 (by simp)
  have f2 := hf i2 (by simp)
  have I1 : Inv X pins σ H { s with heap := s.heap.push { cls := .type "tuple",data := .seq #[.str ⟨#[c]⟩ u,.str ⟨#[d]⟩ v] },toks := tk } := I.kept fun b o e => Heap.get?_push_of_some _ e
  have keepAll : ∀ b o,b ≠ z → b ≠ TO → b ≠ i1 → b ≠ i2 → s.heap.get? b = some o → h2'.get? b = some o := fun b o b1 b2 b3 b4 e => hs'.extBut _ _ b1 (kp b o b1 b2 b3 b4 e)
  have hnew : H s.heap.objs.size = none := I.hok.fresh (Nat.le_refl _)
  have Tz : s.heap.objs.size ≠ z := Nat.ne_of_gt zlt
  have ht2 : h2'.get? s.heap.objs.size = some { cls := .type "tuple",data := .seq #[.str ⟨#[c]⟩ u,.str ⟨#[d]⟩ v] } := hs'.extBut _ _ Tz a5
  have I2 : Inv X pins σ (upd H s.heap.objs.size (.tup [T [c],T [d]])) { s with heap := h2',toks := tk } := by
   have there : ∀ q ∈ [z,TO,i1,i2],∃ o',h2'.get? q = some o' := by
    intro q hq
    obtain ⟨o1,e1,_⟩ := a3
    obtain ⟨o2,e2,_⟩ := a4
    simp only [List.mem_cons,List.not_mem_nil,or_false] at hq
    rcases hq with rfl | rfl | rfl | rfl
    ·exact ⟨_,hz'⟩
    ·exact ⟨_,hs'.extBut _ _ F.TOz a2⟩
    ·exact ⟨_,hs'.extBut _ _ F.i1z e1⟩
    ·exact ⟨_,hs'.extBut _ _ F.i2z e2⟩
   have nch : ∀ b,b ∉ [z,TO,i1,i2] → b ≠ z ∧ b ≠ TO ∧ b ≠ i1 ∧ b ≠ i2 := fun b hb => by
    simp only [List.mem_cons,List.not_mem_nil,or_false,not_or] at hb
    exact hb
   have trk : ∀ b u',H b = some u' → b ≠ z ∧ b ≠ TO ∧ b ≠ i1 ∧ b ≠ i2 := fun b u' e =>
    ⟨fun q => (by rw [q,fz.1] at e; cases e),fun q => (by rw [q,fTO.1] at e; cases e),fun q => (by rw [q,f1.1] at e; cases e),fun q => (by rw [q,f2.1] at e; cases e)⟩
   have okH : HOk X.prog X.w (upd H s.heap.objs.size (.tup [T [c],T [d]])) h2' := fun b u' e => by
    by_cases hb : b = s.heap.objs.size
    ·subst hb
     rw [J9] at e
     cases e
     exact ⟨(show 2 ≤ sizeLine by decide),[.str ⟨#[c]⟩ u,.str ⟨#[d]⟩ v],.cons ⟨u,rfl⟩ (.cons ⟨v,rfl⟩ .nil),⟨_,ht2,rfl,_,rfl⟩⟩
    ·rw [Ji hb] at e
     have hx := I.hok b u' e
     refine hx.stay (fun q o hq e2 => ?_) (fun q e2 => ?_) (fun q xs e2 => ?_)
     ·rcases hq with rfl | hq
      ·obtain ⟨b1,b2,b3,b4⟩ := trk q _ e
       exact keepAll q o b1 b2 b3 b4 e2
      ·obtain ⟨b1,b2,b3,b4⟩ := trk q _ hq
       exact keepAll q o b1 b2 b3 b4 e2
     ·rw [Ji (Je e2 hnew)]; exact e2
     ·rw [Ji (Je e2 hnew)]; exact e2
   refine I.step (g' := s.gens) (d' := s.drawn) (ch := [z,TO,i1,i2]) (fun b hb => ?_) (fun b o _ _ hcb e n => ?_) (fun b o _ _ hcb e n => ?_) (fun b o hcb e n => ?_) (fun b o hcb e => ?_) (fun b xs e => ?_) (fun b o u' e => ?_) (fun b ps e => ?_) (fun m hm => ?_) okH I.bare
   ·simp only [List.mem_cons,List.not_mem_nil,or_false] at hb
    rcases hb with rfl | rfl | rfl | rfl
    ·exact ⟨fz.2.2.2.1,fz.2.1,fz.2.2.2.2.1,fz.2.2.2.2.2⟩
    ·exact ⟨fTO.2.2.2.1,fTO.2.1,fTO.2.2.2.2.1,fTO.2.2.2.2.2⟩
    ·exact ⟨f1.2.2.2.1,f1.2.1,f1.2.2.2.2.1,f1.2.2.2.2.2⟩
    ·exact ⟨f2.2.2.2.1,f2.2.1,f2.2.2.2.2.1,f2.2.2.2.2.2⟩
   ·obtain ⟨b1,b2,b3,b4⟩ := nch b hcb
    exact keepAll b o b1 b2 b3 b4 e
   ·obtain ⟨b1,b2,b3,b4⟩ := nch b hcb
    exact ⟨o.slots,keepAll b o b1 b2 b3 b4 e⟩
   ·rw [Ji (Nat.ne_of_lt (Heap.lt_size e))]; exact n
   ·obtain ⟨b1,b2,b3,b4⟩ := nch b hcb
    exact ⟨o,keepAll b o b1 b2 b3 b4 e⟩
   ·rw [Ji (Je e hnew)]; exact e
   ·rw [Ji (Je e hnew)]; exact e
   ·exact ⟨#[],by rw [Ji (Je e hnew),e]; simp⟩
   ·obtain ⟨o,es',ep,ho,r⟩ := hm
    exact ⟨o,es',ep,keepAll _ o fz.2.1.symm fTO.2.1.symm f1.2.1.symm f2.2.1.symm ho,r⟩
  refine ⟨.ref s.heap.objs.size,_,I2,rfl,⟨_,c,d,hnew,hc1,hd1,rfl,rfl⟩,⟨hz',hs'.extBut _ _ F.TIz (kp _ _ F.TIz F.TITO F.TIi1 F.TIi2 hTI),⟨_,_,hs'.extBut _ _ F.TOz a2⟩,?_,?_⟩,fun b hb => ?_⟩
  ·obtain ⟨o,e,r⟩ := a3; exact ⟨o,hs'.extBut _ _ F.i1z e,r⟩
  ·obtain ⟨o,e,r⟩ := a4; exact ⟨o,hs'.extBut _ _ F.i2z e,r⟩
  ·rw [Ji (Nat.ne_of_lt (far b hb))]; exact (hf b hb).1
 done := by
  intro X hP hw hK hc i pins s σ H E I hf st hg
  subst hP hw hK
  obtain ⟨hz,hTI,⟨a,b,hTO⟩,h1,h2⟩ := st
  have hh : X.A.in1.handled = none := I.ok.hd hc
  have hT : s.TypeIs (.ref z) "zip" := ⟨_,hz,rfl⟩
  have D1 := J5e (prog := X.prog) (w := X.w) (it := i1) (l := l1) (t := t1) hh hn1
  have D2 := J5e (prog := X.prog) (w := X.w) (it := i2) (l := l2) (t := t2) hh hn2
  unfold pyNext
  refine wpAny_bind (wpAny_attempt (wpAny_callSpecial?_slot (name := Str.ofString "__next__") hT PySem.F.slot_zip_next (wpAny_call_entry PySem.F.slot_zip_next hT PySem.F.entry_zip_next
   (JdR F D1 D2 hz hTI hTO h1 h2 hg fun h' tk e kp he => ?_) (PySem.F.args_zip_next_1 _))))
  obtain ⟨o,ho,hc'⟩ := he
  refine wpAny_bind (wpAny_isInstance (T := "StopIteration") (b := true) ⟨o,ho,hc'⟩ isSubtype_stop ?_)
  refine wpAny_pure ⟨rfl,?_⟩
  refine I.turnedN (ch := [z,TO,i1,i2]) (fun b o hb q => ?_) fun b hb => hf b ?_
  ·simp only [List.mem_cons,List.not_mem_nil,or_false,not_or] at hb
   exact kp b o hb.1 hb.2.1 hb.2.2.1 hb.2.2.2 q
  ·simp only [List.mem_cons,List.not_mem_nil,or_false] at hb ⊢
   rcases hb with q | q | q | q
   ·exact .inl q
   ·exact .inr (.inr (.inl q))
   ·exact .inr (.inr (.inr (.inl q)))
   ·exact .inr (.inr (.inr (.inr q)))
 self := fun _ _ _ _ _ st h => wpAny_pyIter_zip st.1 h
noncomputable def J2O (l : List Nat) : String := if (⟨l.toArray⟩ : Str).cps.all (· < 128) = true then "str_ascii_iterator" else "str_iterator"
theorem J88 (l : List Nat) : J2O l = "str_ascii_iterator" ∨ J2O l = "str_iterator" := by
 unfold J2O; split
 ·exact .inl rfl
 ·exact .inr rfl
theorem Jao {prog : Program} {w : World} {A : Around} {E : Value → Shared → Prop} {hp : Heap} {g : Array GenState} {d : Drawn} {tk : Nat} {os : OsState} {l : List Nat} {t : Tok} {Q : Value → Shared → Prop}
  (h : Q (.ref hp.objs.size) ⟨hp.push { cls := .type (J2O l),data := .fields #[.str ⟨l.toArray⟩ t,.int 0 0] },g,d,tk,os⟩) : wpAny (model prog w) A (pyIter (.str ⟨l.toArray⟩ t)) Q E ⟨hp,g,d,tk,os⟩ := by
 cases ha : (⟨l.toArray⟩ : Str).cps.all (· < 128) with
 | true =>
  have e : J2O l = "str_ascii_iterator" := by unfold J2O; rw [if_pos ha]
  rw [e] at h
  exact wpAny_pyIter_ascii (s := ⟨hp,g,d,tk,os⟩) ha h
 | false =>
  have e : J2O l = "str_iterator" := by unfold J2O; rw [if_neg (by rw [ha]; exact Bool.false_ne_true)]
  rw [e] at h
  exact wpAny_pyIter_wide (s := ⟨hp,g,d,tk,os⟩) ha h
noncomputable abbrev JbA (h : Heap) (l1 : List Nat) (t1 : Tok) : Heap := h.push { cls := .type (J2O l1),data := .fields #[.str ⟨l1.toArray⟩ t1,.int 0 0] }
noncomputable abbrev JbC (h : Heap) (l1 l2 : List Nat) (t1 t2 : Tok) : Heap := (JbA h l1 t1).push { cls := .type (J2O l2),data := .fields #[.str ⟨l2.toArray⟩ t2,.int 0 0] }
noncomputable abbrev Jbt (h : Heap) (l1 l2 : List Nat) (t1 t2 : Tok) : Heap := (JbC h l1 l2 t1 t2).push { cls := .type "tuple",data := .seq #[.ref h.objs.size,.ref (JbA h l1 t1).objs.size] }
noncomputable abbrev JbT (h : Heap) (l1 l2 : List Nat) (t1 t2 : Tok) : Heap := (Jbt h l1 l2 t1 t2).push { cls := .type "tuple",data := .seq #[.none,.none] }
noncomputable abbrev J7W (h : Heap) (l1 l2 : List Nat) (t1 t2 : Tok) : Heap := (JbT h l1 l2 t1 t2).push { cls := .type "zip",data := .fields #[.none,.bool false,.bool false,.ref (JbC h l1 l2 t1 t2).objs.size,.ref (Jbt h l1 l2 t1 t2).objs.size] }
theorem Jbi (l1 l2 : List Nat) (t1 t2 : Tok) :
  Meets (Builtin.«zip.__new__» ⟨[.type "zip",.str ⟨l1.toArray⟩ t1,.str ⟨l2.toArray⟩ t2],[]⟩) (fun _ R s => R (.ok (.ret (.ref (JbT s.heap l1 l2 t1 t2).objs.size))) { s with heap := J7W s.heap l1 l2 t1 t2 }) :=
 .of_wp fun prog w A R s h => by
  obtain ⟨hp,g,d,tk,os⟩ := s
  have hsub := sub_zip
  wp_walk using Jao (l := l1) (t := t1),Jao (l := l2) (t := t2)
  exact ⟨_,rfl,h⟩
theorem Jcs {prog : Program} {w : World} {A : Around} {E : Value → Shared → Prop} {s : Shared} {l1 l2 : List Nat} {t1 t2 : Tok} {Q : Value → Shared → Prop}
  (h : ∀ h',IsZip h' (s.heap.objs.size + 4) (s.heap.objs.size + 2) (s.heap.objs.size + 3) .none → IsPair h' (s.heap.objs.size + 2) (.ref s.heap.objs.size) (.ref (s.heap.objs.size + 1)) →
   IsPair h' (s.heap.objs.size + 3) .none .none → h'.IsStrIter s.heap.objs.size (J2O l1) ⟨l1.toArray⟩ t1 0 → h'.IsStrIter (s.heap.objs.size + 1) (J2O l2) ⟨l2.toArray⟩ t2 0 →
   (∀ c o,s.heap.get? c = some o → h'.get? c = some o) → Q (.ref (s.heap.objs.size + 4)) { s with heap := h' }) :
  wpAny (model prog w) A (call (.type "zip") [.str ⟨l1.toArray⟩ t1,.str ⟨l2.toArray⟩ t2]) Q E s := by
 refine callType_new F.called_zip (by decide) (F.typeCall_zip_2 _ _) (F.newCall_zip_2 _ _) (fun obj => F.args_object_init_3 obj _ _) F.entry_zip_new (Jbi l1 l2 t1 t2) ?_
 have z1 : (JbA s.heap l1 t1).objs.size = s.heap.objs.size + 1 := Heap.size_push ..
 have z2 : (JbC s.heap l1 l2 t1 t2).objs.size = s.heap.objs.size + 2 := by rw [Heap.size_push,z1]
 have z3 : (Jbt s.heap l1 l2 t1 t2).objs.size = s.heap.objs.size + 3 := by rw [Heap.size_push,z2]
 have z4 : (JbT s.heap l1 l2 t1 t2).objs.size = s.heap.objs.size + 4 := by rw [Heap.size_push,z3]
 have g5 : (J7W s.heap l1 l2 t1 t2).get? (JbT s.heap l1 l2 t1 t2).objs.size = some _ := Heap.get?_push_size _ rfl
 have g4 : (J7W s.heap l1 l2 t1 t2).get? (Jbt s.heap l1 l2 t1 t2).objs.size = some _ := Heap.get?_push_of_some _ (Heap.get?_push_size _ rfl)
 have g3 : (J7W s.heap l1 l2 t1 t2).get? (JbC s.heap l1 l2 t1 t2).objs.size = some _ := Heap.get?_push_of_some _ (Heap.get?_push_of_some _ (Heap.get?_push_size _ rfl))
 have g2 : (J7W s.heap l1 l2 t1 t2).get? (JbA s.heap l1 t1).objs.size = some _ := Heap.get?_push_of_some _ (Heap.get?_push_of_some _ (Heap.get?_push_of_some _ (Heap.get?_push_size _ rfl)))
 have g1 : (J7W s.heap l1 l2 t1 t2).get? s.heap.objs.size = some _ := Heap.get?_push_of_some _ (Heap.get?_push_of_some _ (Heap.get?_push_of_some _ (Heap.get?_push_of_some _ (Heap.get?_push_size _ rfl))))
 show _ ∧ _
 rw [z2,z3,z4] at g5
 rw [z1,z2] at g3
 rw [z3] at g4
 rw [z1] at g2
 rw [z4]
 exact ⟨⟨_,g5,rfl⟩,h _ g5 g3 g4 ⟨_,g1,rfl,rfl⟩ ⟨_,g2,rfl,rfl⟩ fun c o x =>
  Heap.get?_push_of_some _ (Heap.get?_push_of_some _ (Heap.get?_push_of_some _ (Heap.get?_push_of_some _ (Heap.get?_push_of_some _ x))))⟩
section
variable {X : Cx} {es : List Expr} {k : Nat} {tpos : Pos}
noncomputable def Jgv (ta : TA) : TI := fun σ H R => ta σ H fun vs H1 => ∃ l1 l2,vs = [T l1,T l2] ∧ R (Itz l1 l2) H1
theorem JbB {a b : Expr} {ta : TA} {p pos : Pos} (hg : Gl X "zip") (hm : X.mg "zip" = none) (ha : PA X [a,b] ta) (hv : bootBuiltins "zip" = some (.type "zip") := by decide +kernel) (hs : starEach [a,b] X.env = [(false,eval a X.env),(false,eval b X.env)] := by rfl) (hs2 : starEach [b] X.env = [(false,eval b X.env)] := by rfl) :
  PI X (.Tuple es k tpos) (.Call (.Name "zip" p) [a,b] [] pos) (Jgv ta) := by
 intro pins s σ H R I h
 refine Call_ (J4B I hg hm hv (PyProof.Rows.callWith_type1 (thn (ha pos pins s σ H _ I h) fun us s1 ⟨vs,H1,I1,r1,q1⟩ => ?_) (by rw [hs,hs2]) (by rw [hs2]; rfl)))
 obtain ⟨l1,l2,e,q⟩ := q1
 subst e
 obtain ⟨u,v,rfl,ru,rv⟩ := r1.two
 obtain ⟨t1,rfl⟩ := ru
 obtain ⟨t2,rfl⟩ := rv
 refine Jcs fun h' a1 a2 a3 a4 a5 kp => ?_
 have far : J3W (s1.heap.objs.size + 4) (s1.heap.objs.size + 2) (s1.heap.objs.size + 3) s1.heap.objs.size (s1.heap.objs.size + 1) := J79 _
 have I2 : Inv X pins σ H1 { s1 with heap := h' } := I1.kept (t' := s1.toks) kp
 refine wpAny_pyIter_zip a1 ⟨s1.heap.objs.size + 4,[s1.heap.objs.size + 4,s1.heap.objs.size + 2,s1.heap.objs.size + 3,s1.heap.objs.size,s1.heap.objs.size + 1],_,_,H1,rfl,I2,Jcb (t1 := t1) (t2 := t2) far (J88 l1) (J88 l2),⟨a1,a2,⟨_,_,a3⟩,a4,a5⟩,fun b hb => ?_,q⟩
 have hb' : s1.heap.objs.size ≤ b := by
  simp only [List.mem_cons,List.not_mem_nil,or_false] at hb
  rcases hb with rfl | rfl | rfl | rfl | rfl
  ·exact Nat.le_add_right _ _
  ·exact Nat.le_add_right _ _
  ·exact Nat.le_add_right _ _
  ·exact Nat.le_refl _
  ·exact Nat.le_add_right _ _
 exact I1.fpOk hb' (I1.hok.fresh hb')
end
end L2
set_option linter.all false
set_option maxRecDepth 100000
set_option maxHeartbeats 4000000
namespace L2
open PySem PySem.Spec PyProof.Rows
theorem Jcl {K : PySem.W.Frag} {H : Hp} {l1 l2 : List Nat} {rest : St} {te : TE} {Q : VK} (f : Nat → Nat → V) (hx : l1.length ≤ 1000000)
  (he : ∀ c d H',Same H H' → ∀ R : VK,(∀ H'',Same H' H'' → R (f c d) H'') → te (some (T [c]) :: some (T [d]) :: rest) H' R)
  (hQ : ∀ D H',H D = none → Same H H' → H' D = some (.lst ((l1.zip l2).map fun p => f p.1 p.2)) → Q (.ref D) H') :
  J5d (Itz l1 l2) H (none :: none :: rest) (gTup K 2 (Jaa (J3w 0) (Jaa (J3w 1) gNil))) tYes te Q := by
 intro D hD
 refine ⟨fun i m σ1 ys H' => m = l1.length - i ∧ i ≤ l1.length ∧ i ≤ l2.length ∧ (∃ a b,σ1 = a :: b :: rest) ∧ ys = ((l1.zip l2).take i).map (fun p => f p.1 p.2) ∧ H' D = some (.lst ys) ∧ Same H H',⟨l1.length,by simp,Nat.zero_le _,Nat.zero_le _,⟨_,_,rfl⟩,rfl,J9,Jr hD _⟩,?_⟩
 rintro i m σ1 ys H' ⟨rfl,hi1,hi2,⟨a,b,rfl⟩,rfl,hDD,hs⟩
 by_cases hlt : i < l1.length ∧ i < l2.length
 ·refine .inr ⟨hlt,fun x H'' hy => ?_⟩
  obtain ⟨p,c,d,hp,hc,hd,rfl,rfl⟩ := hy
  refine ⟨p,[T [c],T [d]],rfl,SqT.of J9,rfl,T [c],[T [d]],rfl,T [d],[],rfl,rfl,?_⟩
  unfold tYes
  dsimp only
  refine iteT ?_
  have pD : D ≠ p := fun z => by subst z; rw [hp] at hDD; cases hDD
  have s1 : Same H (upd H' p (.tup [T [c],T [d]])) := hs.trans (Jr hp _)
  have hz : (l1.zip l2)[i]? = some (c,d) := by rw [List.getElem?_zip_eq_some]; exact ⟨hc,hd⟩
  refine he c d _ s1 _ fun H4 s4 => ⟨s4 _ _ (by rw [Ji pD]; exact hDD),?_,l1.length - (i + 1),by omega,rfl,hlt.1,hlt.2,⟨_,_,rfl⟩,?_,J9,(s1.trans s4).upd hD⟩
  ·rw [List.length_map,List.length_take]
   have : (1000001 : Nat) ≤ sizeLine := by decide
   omega
  ·rw [List.take_add_one,hz,List.map_append]
   rfl
 ·have e : i = l1.length ∨ (i < l1.length ∧ i = l2.length) := by omega
  refine .inl ⟨e,hQ D H' hD hs ?_⟩
  rw [hDD,List.take_of_length_le]
  rw [List.length_zip]
  omega
end L2
set_option linter.all false
set_option maxRecDepth 100000
set_option maxHeartbeats 4000000
namespace L2
open PySem PySem.Spec PyProof.Rows
noncomputable def GF (K : PySem.W.Frag) (mg : Str → Option Value) (x : Str) (st : Stmt) : Prop := ∃ f fd,Fun K x x st f fd ∧ mg x = some (.ref f)
noncomputable def FnG (P : Program) (w : World) (K : PySem.W.Frag) (mg : Str → Option Value) (base : Heap) (x : Str) (k : Nat) (ps : List Str) (sp : Sp) : Prop :=
 ∃ f fd,FnOk P w K mg base CX0 k f fd ps sp ∧ mg x = some (.ref f) ∧ PySem.W.keepIn K (.ref f) = true ∧ J4u K fd ps []
noncomputable def MF (K : PySem.W.Frag) (C : Addr) (m qual : Str) (st : Stmt) : Prop := ∃ f fd,Fun K m qual st f fd ∧ Meth K C m f
noncomputable def MtG (P : Program) (w : World) (K : PySem.W.Frag) (mg : Str → Option Value) (base : Heap) (C : Addr) (m : Str) (k : Nat) (ps : List Str) (sp : Sp) : Prop :=
 ∃ f fd,FnOk P w K mg base CX0 k f fd ps sp ∧ Cls K C ∧ Meth K C m f ∧ J4u K fd ps []
structure CF (K : PySem.W.Frag) (mg : Str → Option Value) (x : Str) (C : Addr) : Prop where
 cl : Cls K C
 mg : mg x = some (.ref C)
 makes : PySem.W.makesIn K C = true
 kp : PySem.W.keepIn K (.ref C) = true
noncomputable def MkG (P : Program) (w : World) (K : PySem.W.Frag) (mg : Str → Option Value) (base : Heap) (C : Addr) (x : Str) (k : Nat) (ps : List Str) (sp : Sp) : Prop :=
 ∃ f fd,FnOk P w K mg base CX0 k f fd ps sp ∧ Mk K C f ∧ mg x = some (.ref C) ∧ J4u K fd ps []
section
variable {P : Program} {w : World} {K : PySem.W.Frag} {mg : Str → Option Value} {base : Heap}
theorem FnG.mono {x : Str} {j k : Nat} {ps : List Str} {sp : Sp} (G : FnG P w K mg base x j ps sp) (h : j ≤ k) : FnG P w K mg base x k ps sp := by
 obtain ⟨f,fd,a,b⟩ := G
 exact ⟨f,fd,a.mono h,b⟩
theorem MtG.mono {C : Addr} {m : Str} {j k : Nat} {ps : List Str} {sp : Sp} (G : MtG P w K mg base C m j ps sp) (h : j ≤ k) : MtG P w K mg base C m k ps sp := by
 obtain ⟨f,fd,a,b⟩ := G
 exact ⟨f,fd,a.mono h,b⟩
theorem MtG.imp {C : Addr} {m : Str} {k : Nat} {ps : List Str} {sp sp' : Sp} (G : MtG P w K mg base C m k ps sp) (h : ∀ vs H Q E,sp' vs H Q E → sp vs H Q E) : MtG P w K mg base C m k ps sp' := by
 obtain ⟨f,fd,a,b⟩ := G
 exact ⟨f,fd,a.imp h,b⟩
theorem GF.g {x : Str} {st : Stmt} {N ps : List Str} {k : Nat} {sp : Sp} (F : GF K mg x st) (S : Jn N ps (J4 st))
  (bnd : ∀ (kV doc pm : Value) (an : Option Addr) (cdv ct : Value) (us : List Value),us.length = ps.length → bindArgs (PySem.W.fnOf x x (Jm st) (Jk st) (J4 st) .none kV doc pm an cdv ct) ⟨us,[]⟩ = pure (ps.zip us))
  (len : ∀ vs H Q E,sp vs H Q E → vs.length = ps.length)
  (hbody : ∀ (f : Addr) (cdv : Value) (A : Around) (outer : List Env) (s : Shared) (H : Hp) (vs : List V) (Q : VK) (E : XK),Room k (A.deeper (envOfC x (J4 st) s.heap.objs.size f cdv)) → sp vs H Q E →
   ∃ t,PSs (cxOf CX0 P w K mg base N x (J4 st) f cdv A outer s H E).nox (Jk st) t ∧ t { nx := fun _ H' => Q .non H',rt := Q } (start N vs) H) : FnG P w K mg base x (k + 1) ps sp := by
 obtain ⟨f,fd,F,m⟩ := F
 exact ⟨f,fd,F.ok S len fun cdv A outer s H vs Q E hr h => hbody f cdv A outer s H vs Q E hr h,m,F.kp,F.binds bnd⟩
theorem MF.g {C : Addr} {m qual : Str} {st : Stmt} {N ps : List Str} {k : Nat} {sp : Sp} (F : MF K C m qual st) (cl : Cls K C) (S : Jn N ps (J4 st))
  (bnd : ∀ (kV doc pm : Value) (an : Option Addr) (cdv ct : Value) (us : List Value),us.length = ps.length → bindArgs (PySem.W.fnOf m qual (Jm st) (Jk st) (J4 st) .none kV doc pm an cdv ct) ⟨us,[]⟩ = pure (ps.zip us))
  (len : ∀ vs H Q E,sp vs H Q E → vs.length = ps.length)
  (hbody : ∀ (f : Addr) (cdv : Value) (A : Around) (outer : List Env) (s : Shared) (H : Hp) (vs : List V) (Q : VK) (E : XK),Room k (A.deeper (envOfC qual (J4 st) s.heap.objs.size f cdv)) → sp vs H Q E →
   ∃ t,PSs (cxOf CX0 P w K mg base N qual (J4 st) f cdv A outer s H E).nox (Jk st) t ∧ t { nx := fun _ H' => Q .non H',rt := Q } (start N vs) H) : MtG P w K mg base C m (k + 1) ps sp := by
 obtain ⟨f,fd,F,m⟩ := F
 exact ⟨f,fd,F.ok S len fun cdv A outer s H vs Q E hr h => hbody f cdv A outer s H vs Q E hr h,cl,m,F.binds bnd⟩
theorem CF.g {C : Addr} {x : Str} {k : Nat} {ps : List Str} {sp : Sp} (c : CF K mg x C) (G : MtG P w K mg base C "__init__" k ps sp) : MkG P w K mg base C x k ps sp := by
 obtain ⟨f,fd,a,_,m,b⟩ := G
 exact ⟨f,fd,a,⟨c.makes,m.at_,m.fn,c.kp⟩,c.mg,b⟩
end
section
variable {X : Cx} {x m : Str} {k : Nat} {ps : List Str} {sp : Sp} {C : Addr} {p pos apos : Pos} {e o : Expr} {es : List Expr} {t : TA} {to : TE}
theorem Jw (G : FnG X.prog X.w X.K X.mg X.base x k ps sp) (hr : Room k X.A) (ha : PA X (e :: es) t) (hg : Gl X x := by rfl) (hdb : (x == ("__debug__" : Str)) = false := by decide)
  (he : starEach (e :: es) X.env = (false,eval e X.env) :: starEach es X.env := by rfl) (hpl : (backTo pos (starEach es X.env)).any (·.1) = false := by rfl) : PE X (.Call (.Name x p) (e :: es) [] pos) (JeX sp [] E0 t) := by
 obtain ⟨f,fd,a,b,c,d⟩ := G
 exact Jel a hr hg b c d .nil Jae ha hdb he hpl
theorem JbI {pl : Sem Bool} (G : MtG X.prog X.w X.K X.mg X.base C m k ps sp) (hr : Room k X.A) (ho : PE X o to) (ha : PA X (e :: es) t)
  (hst : starEach (e :: es) X.env = (false,eval e X.env) :: starEach es X.env := by rfl) (hpl : (backTo pos (starEach es X.env)).any (·.1) = false := by rfl)
  (ht : eval (.Call (.Attribute o m apos) (e :: es) [] pos) X.env = (do
   let ov ← eval o X.env
   standAt apos.atName
   let (f,first) ← holding [ov] (getMethod ov m pl)
   callWith pos f first (backTo pos (starEach (e :: es) X.env)) (backToKw pos (keywordEach [] X.env))) := by rfl) :
  PE X (.Call (.Attribute o m apos) (e :: es) [] pos) (JeT C m sp [] E0 to t) := by
 obtain ⟨f,fd,a,b,c,d⟩ := G
 exact JeN (pl := pl) ho b c a hr d .nil Jae ha hst hpl ht
noncomputable def Jdz (P : Program) (w : World) (K : PySem.W.Frag) (mg : Str → Option Value) (base : Heap) (n : Nat) (m : Str) (ta : TE) (t : TA) : TE := fun σ H Q => ta σ H fun x H1 => ∃ a C dx fs k ps sp,x = .ref a ∧ H1 a = some (.ins C dx fs) ∧ fs.lookup m = none ∧
 MtG P w K mg base C m k ps sp ∧ k ≤ n ∧ t σ H1 fun vs H2 => sp (x :: vs) H2 Q E0
theorem J4A {P : Program} {w : World} {K : PySem.W.Frag} {mg : Str → Option Value} {base : Heap} {n : Nat} {pl : Sem Bool} (hr : Room n X.A) (ho : PE X o to) (ha : PA X (e :: es) t) (hP : X.prog = P) (hw : X.w = w) (hK : X.K = K) (hmg : X.mg = mg) (hbs : X.base = base)
  (hst : starEach (e :: es) X.env = (false,eval e X.env) :: starEach es X.env := by rfl) (hpl : (backTo pos (starEach es X.env)).any (·.1) = false := by rfl)
  (ht : eval (.Call (.Attribute o m apos) (e :: es) [] pos) X.env = (do
   let ov ← eval o X.env
   standAt apos.atName
   let (f,first) ← holding [ov] (getMethod ov m pl)
   callWith pos f first (backTo pos (starEach (e :: es) X.env)) (backToKw pos (keywordEach [] X.env))) := by rfl) :
  PE X (.Call (.Attribute o m apos) (e :: es) [] pos) (Jdz P w K mg base n m to t) := by
 subst hP hw hK hmg hbs
 intro pins s σ H Q I h
 refine PySem.W.methodCall_KW (pl := pl) (thn (ho pins s σ H _ I h) fun u s1 ⟨x,H1,I1,rx,a,C,dx,fs,k,ps,sp,ex,ea,l,G,hk,q⟩ => ?_) ht
 have hr := hr.mono hk
 obtain ⟨f,fd,F,c,hm,hb⟩ := G
 subst ex
 obtain rfl : u = Value.ref a := rx
 refine J4y I1 ea c hm l ?_
 refine PySem.W.callWith_K (first := [.ref a]) (h₀ := X.base) I.ok.mod.kin hm.kp (thn (ha pos pins s1 σ H1 _ I1 q) fun us s2 ⟨vs,H2,I2,r,q2⟩ => ⟨I2.kIn,?_⟩) hst hpl
 exact J9d (us := .ref a :: us) (vs := .ref a :: vs) (E := E0) F hr hb .nil Jae I2 (.cons rfl r) (by rw [List.append_nil]; exact q2)
theorem J6g {P : Program} {w : World} {K : PySem.W.Frag} {mg : Str → Option Value} {base : Heap} {n : Nat} {pl : Sem Bool} (hr : Room n X.A) (ho : PE X o to) (hP : X.prog = P) (hw : X.w = w) (hK : X.K = K) (hmg : X.mg = mg) (hbs : X.base = base)
  (ht : eval (.Call (.Attribute o m apos) [] [] pos) X.env = (do
   let ov ← eval o X.env
   standAt apos.atName
   let (f,first) ← holding [ov] (getMethod ov m pl)
   callWith pos f first (backTo pos (starEach [] X.env)) (backToKw pos (keywordEach [] X.env))) := by rfl) :
  PE X (.Call (.Attribute o m apos) [] [] pos) (Jdz P w K mg base n m to tNil) := by
 subst hP hw hK hmg hbs
 intro pins s σ H Q I h
 refine PySem.W.methodCall_KW (pl := pl) (thn (ho pins s σ H _ I h) fun u s1 ⟨x,H1,I1,rx,a,C,dx,fs,k,ps,sp,ex,ea,l,G,hk,q⟩ => ?_) ht
 have hr := hr.mono hk
 obtain ⟨f,fd,F,c,hm,hb⟩ := G
 subst ex
 obtain rfl : u = Value.ref a := rx
 refine J4y I1 ea c hm l ?_
 exact PySem.W.callWith_K0 (first := [.ref a]) I1.kIn hm.kp (J9d (us := [.ref a]) (vs := [.ref a]) (E := E0) F hr hb .nil Jae I1 (.cons rfl .nil) (by rw [List.append_nil]; exact q))
end
section
variable {X : Cx} {K : PySem.W.Frag}
theorem JG (h : X.K = K) : IxR X (rIxL K) := h ▸ Jep
theorem J2D (h : X.K = K) : IxR X (rIxT K) := h ▸ JfO
theorem J6W (h : X.K = K) : SlR X (rSlL K) := h ▸ Jeo
theorem JC (h : X.K = K) : J2R X (.builtin "len") (fun xs H Q => ∃ p ys,xs = [.ref p] ∧ (SqL K H p ys ∨ SqT K H p ys) ∧ Q (.int ys.length) H) := h ▸ J8Q
theorem Jb7 (hc : X.calm = true) (h : X.K = K) : J2R X (.builtin "all") (fun xs H Q => ∃ (D : Addr) (bs : List Bool),xs = [.ref D] ∧ SqL K H D (bs.map V.bl) ∧ Q (.bl (bs.all id)) H) := h ▸ Jce hc
theorem Jbf (hc : X.calm = true) (h : X.K = K) : J2R X (.builtin "any") (fun xs H Q => ∃ (D : Addr) (bs : List Bool),xs = [.ref D] ∧ SqL K H D (bs.map V.bl) ∧ Q (.bl (bs.any id)) H) := h ▸ Jco hc
theorem Jg {e : Expr} {f : Str} {ta : TE} {pos : Pos} (h : X.K = K) (he : PE X e ta) (hb : attributeBase e f X.env (eval e X.env) = eval e X.env) : PE X (.Attribute e f pos) (tFld K ta f) := h ▸ Jfs he hb
theorem J43 {o e : Expr} {to : TE} {t : TA} {apos cpos : Pos} (h : X.K = K) (ho : PE X o to) (ha : PA X [e] t)
  (hbase : attributeBase o "join" X.env (eval o X.env) = eval o X.env := by rfl)
  (hfew : ((backTo cpos (starEach [e] X.env)).all (fun x => !x.1) && (backToKw cpos (keywordEach [] X.env)).all (fun x => x.1.isSome)
   && decide ([e].length + ([] : List Keyword).length + (if ([] : List Keyword).isEmpty then 0 else 1) < 30)) = true := by rfl)
  (hline : (apos.endLine == cpos.line) = true := by rfl) (hs : starEach [e] X.env = (false,eval e X.env) :: starEach [] X.env := by rfl) (hplain : (backTo cpos (starEach [] X.env)).any (·.1) = false := by rfl) :
  PE X (.Call (.Attribute o "join" apos) [e] [] cpos) (tBM K "str" (Jdj K) to t) := h ▸ Jez ho ha hbase hfew hline hs hplain
theorem J07 {tg l : Expr} {tl : TE} (h : X.K = K) (hl : PE X l tl) : PI X tg l (JeV K tl) := h ▸ JeB hl
theorem J3q {i j : Nat} {x y : Str} {px py pos : Pos} {k : Nat} (h : X.K = K) (hc : X.calm = true) (hN : X.N.Nodup) (hi : X.N[i]? = some x) (hj : X.N[j]? = some y) (hx : Loc X.env.scope x) (hy : Loc X.env.scope y)
  (hfx : X.fn x = true ∨ X.env.scope.names.lookup x = some .local := by first | exact .inl rfl | exact .inr rfl | assumption) (hfy : X.fn y = true ∨ X.env.scope.names.lookup y = some .local := by first | exact .inl rfl | exact .inr rfl | assumption) :
  PG X (.Tuple [.Name x px,.Name y py] k pos) (gTup K 2 (Jaa (J3w i) (Jaa (J3w j) gNil))) := h ▸ J2P hc (Jz (Jo hN hi hx hfx) (Jz (Jo hN hj hy hfy) J1P))
end
theorem J1z : bootBuiltins "list" = some (.type "list") := by decide +kernel
theorem Jft : bootBuiltins "max" = some (.builtin "max") := by decide +kernel
theorem Jfu : bootBuiltins "min" = some (.builtin "min") := by decide +kernel
theorem JfG : bootBuiltins "all" = some (.builtin "all") := by decide +kernel
theorem Jfw : bootBuiltins "any" = some (.builtin "any") := by decide +kernel
theorem J2C : bootBuiltins "isinstance" = some (.builtin "isinstance") := by decide +kernel
theorem Jaf {J : It} {H : Hp} {xs : List V} {σ0 : St} {k : Nat} {te : TE} {Q : VK} (Pe : V → V → Prop) (hJ : J6X J H xs) (hx : xs.length ≤ 1000000)
  (he : ∀ x ∈ xs,∀ H',Same H H' → ∀ R : VK,(∀ y H'',Pe x y → Same H' H'' → R y H'') → te (σ0.set k (some x)) H' R)
  (hQ : ∀ D H' ys,H D = none → Same H H' → ys.length = xs.length → (∀ (i : Nat) (x y : V),xs[i]? = some x → ys[i]? = some y → Pe x y) → H' D = some (.lst ys) → Q (.ref D) H') :
  J5d J H σ0 (J3w k) tYes te Q := by
 intro D hD
 refine ⟨fun i m σ1 ys H' => m = xs.length - i ∧ i ≤ xs.length ∧ (σ1 = σ0 ∨ ∃ v,σ1 = σ0.set k v) ∧ ys.length = i ∧ (∀ (j : Nat) (x y : V),xs[j]? = some x → ys[j]? = some y → Pe x y) ∧ H' D = some (.lst ys) ∧ Same H H',
  ⟨xs.length,by simp,Nat.zero_le _,.inl rfl,rfl,fun j x y _ h => by simp at h,J9,Jr hD _⟩,?_⟩
 rintro i m σ1 ys H' ⟨rfl,hi,hσ,hlen,hP,hDD,hs⟩
 by_cases hlt : i < xs.length
 ·refine .inr ⟨hJ.go i H' hs hlt,fun x H'' hy => ?_⟩
  obtain ⟨e1,hx1⟩ := hJ.yld i H' x H'' hs hlt hy
  subst e1
  have hm : x ∈ xs := List.mem_of_getElem? hx1
  have hset : σ1.set k (some x) = σ0.set k (some x) := by
   rcases hσ with rfl | ⟨v,rfl⟩
   ·rfl
   ·rw [List.set_set]
  unfold J3w tYes
  dsimp only
  rw [hset]
  refine iteT ?_
  refine he x hm H'' hs _ fun y H4 hPy s4 => ⟨s4 _ _ hDD,?_,xs.length - (i + 1),by omega,rfl,hlt,.inr ⟨_,rfl⟩,?_,?_,J9,(hs.trans s4).upd hD⟩
  ·have : (1000001 : Nat) ≤ sizeLine := by decide
   omega
  ·rw [List.length_append,List.length_singleton,hlen]
  ·intro j x' y' h1 h2
   by_cases hj : j < i
   ·rw [List.getElem?_append_left (by omega)] at h2
    exact hP j x' y' h1 h2
   ·have hji : j = i := by
     have := (List.getElem?_eq_some_iff.mp h2).1
     rw [List.length_append,List.length_singleton,hlen] at this
     omega
    subst hji
    rw [List.getElem?_append_right (by omega),hlen,Nat.sub_self] at h2
    rw [hx1] at h1
    cases h1
    have : y = y' := by simpa using h2
    subst this
    exact hPy
 ·have e : i = xs.length := by omega
  subst e
  exact .inl ⟨hJ.stop H' hs,hQ D H' ys hD hs hlen hP hDD⟩
end L2
set_option linter.all false
set_option maxRecDepth 100000
set_option maxHeartbeats 4000000
namespace L2
open PySem PySem.Spec PyProof.Rows
theorem Vals.rel {xs : List V} {us : List Value} (r : Vals xs us) : ∀ (j : Nat) (h1 : j < xs.length) (h2 : j < us.length),RelV xs[j] us[j] := by
 induction r with
 | nil => intro j h1; simp at h1
 | cons a t ih =>
  intro j h1 h2
  cases j with
  | zero => exact a
  | succ j => exact ih j (by simpa using h1) (by simpa using h2)
noncomputable def eqVs : List V → List V → Bool
 | [],[] => true
 | x :: xs,y :: ys => eqV x y && eqVs xs ys
 | _,_ => false
theorem J75 : ∀ {xs ys : List V},xs.length ≠ ys.length → eqVs xs ys = false
 | [],[],h => absurd rfl h
 | [],_ :: _,_ => rfl
 | _ :: _,[],_ => rfl
 | x :: xs,y :: ys,h => by
  have : xs.length ≠ ys.length := fun e => h (by simp [e])
  rw [eqVs,J75 this,Bool.and_false]
theorem J4z : ∀ {xs ys : List V},xs.length = ys.length → (List.range xs.length).all (fun j => eqV (xs.getD j .non) (ys.getD j .non)) = eqVs xs ys
 | [],[],_ => rfl
 | [],_ :: _,h => by simp at h
 | _ :: _,[],h => by simp at h
 | x :: xs,y :: ys,h => by
  have h' : xs.length = ys.length := by simpa using h
  rw [List.length_cons,List.range_succ_eq_map,List.all_cons,List.all_map,eqVs,← J4z h']
  rfl
section
variable {X : Cx} {K : PySem.W.Frag}
theorem Jac {A : Around} {s : Shared} {xs ys : List V} {ia ib : List Value} (ra : Vals xs ia) (rb : Vals ys ib) (fx : xs.all J0j = true) (fy : ys.all J0j = true) :
  ∀ j (h1 : j < ia.toArray.size) (h2 : j < ib.toArray.size),SeqAt.EqAt A s ia.toArray[j] ib.toArray[j] (eqV (xs.getD j .non) (ys.getD j .non)) := by
 intro j h1 h2
 have la := ra.length
 have lb := rb.length
 have g1 : j < ia.length := by simpa using h1
 have g2 : j < ib.length := by simpa using h2
 have e1 : xs.getD j .non = xs[j]'(by omega) := by rw [List.getD_eq_getElem?_getD,List.getElem?_eq_getElem (by omega)]; rfl
 have e2 : ys.getD j .non = ys[j]'(by omega) := by rw [List.getD_eq_getElem?_getD,List.getElem?_eq_getElem (by omega)]; rfl
 rw [e1,e2]
 have k1 := ra.rel j (by omega) g1
 have k2 := rb.rel j (by omega) g2
 have q := Jdk (A := A) (s := s) k1 k2 (List.all_eq_true.mp fx _ (List.getElem_mem _)) (List.all_eq_true.mp fy _ (List.getElem_mem _))
 simpa using q
noncomputable def rEqL (K : PySem.W.Frag) (neg : Bool) : R2 := fun x y H Q => ∃ p r xs ys,x = .ref p ∧ y = .ref r ∧ SqL K H p xs ∧ SqL K H r ys ∧ xs.all J0j = true ∧ ys.all J0j = true ∧ Q (.bl (if neg then !eqVs xs ys else eqVs xs ys)) H
theorem JfN (h : X.K = K) (hu : X.A.units < cLine) : OpR X (compareOp .NotEq) (rEqL K true) := by
 subst h
 intro pins s σ H x y v u Q I rx ry h
 obtain ⟨p,r,xs,ys,rfl,rfl,hp,hr,fx,fy,q⟩ := h
 cases rx; cases ry
 obtain ⟨ia,ra,pa,za⟩ := I.list hp
 obtain ⟨ib,rb,pb,zb⟩ := I.list hr
 have la := ra.length
 have lb := rb.length
 have q' : Q (.bl (!eqVs xs ys)) H := q
 by_cases hsz : xs.length = ys.length
 ·refine SeqAt.RcNeAt.lists (e := fun j => eqV (xs.getD j .non) (ys.getD j .non)) pa.isList pb.isList (by simp; omega) hu (Jac ra rb fx fy) _ _ _ _ ⟨.bl _,H,I,rfl,?_⟩
  rw [List.size_toArray,← la,J4z hsz]
  exact q'
 ·refine SeqAt.RcNeAt.lists_lengths pa.isList pb.isList (by simp; omega) hu _ _ _ _ ⟨.bl true,H,I,rfl,?_⟩
  rw [J75 hsz] at q'
  exact q'
end
end L2
set_option linter.all false
set_option maxRecDepth 100000
set_option maxHeartbeats 4000000
namespace L2
open PySem PySem.Spec PyProof.Rows
structure J5Y (K : PySem.W.Frag) (C : Addr) : Prop where
 cl : Cls K C
 ha : PySem.W.findIn K (.ref C) "__class__" = some (some (.builtin "object.__class__"))
 hn : PySem.W.specialIn K (.builtin "object.__class__") "__get__" = some (some (.builtin "getset_descriptor.__get__"))
 htk : PySem.W.takesIn K (.builtin "object.__class__") = some true
 hm : PySem.W.mroIn K C (.type "object") = some true
section
variable {X : Cx} {K : PySem.W.Frag}
theorem J3J (h : X.K = K) : J2R X (.builtin "isinstance") (fun xs H Q => ∃ p D C dx fs b,xs = [.ref p,.ref D] ∧ H p = some (.ins C dx fs) ∧ J5Y K C ∧ PySem.W.kitOne K (.ref C) (.ref D) = some b ∧ Q (.bl b) H) := by
 subst h
 intro pins s σ H xs us Q I r h
 obtain ⟨p,D,C,dx,fs,b,rfl,hp,ty,hk,q⟩ := h
 obtain ⟨u,v,rfl,r1,r2⟩ := r.two
 cases r2
 exact Jcv I r1 (.ins hp ty.cl ty.ha ty.hn ty.htk ty.hm) hk fun tk => ⟨.bl b,H,I.tok _,rfl,q⟩
end
section
variable {prog : Program} {w : World} {A : Around} {E : Value → Shared → Prop} {s : Shared}
end
section
variable {X : Cx} {K : PySem.W.Frag} {pos : Pos}
end
end L2
set_option linter.all false
set_option maxRecDepth 100000
set_option maxHeartbeats 4000000
namespace L2
open PySem PySem.Spec PyProof.Rows
theorem J3X {h : Heap} {a b : Addr} {o p : Obj} (ha : h.get? a = some o) (hb : h.get? b = some p) (hc : o.cls ≠ p.cls) : a ≠ b := by
 rintro rfl
 rw [ha] at hb
 cases hb
 exact hc rfl
theorem J5W {h : Heap} {z TI TO i1 i2 l1 l2 : Addr} {f0 a b : Value} {k1 k2 : Nat} {xs ys : Array Value} (F : J3W z TI TO i1 i2) (hz : IsZip h z TI TO f0) (hTI : IsPair h TI (.ref i1) (.ref i2)) (hTO : IsPair h TO a b)
  (h1 : h.IsListIter i1 l1 k1) (h2 : h.IsListIter i2 l2 k2) (hl1 : h.IsList l1 xs) (hl2 : h.IsList l2 ys) : ZipApart z TI TO i1 i2 l1 l2 := by
 obtain ⟨o1,e1,c1,_⟩ := h1
 obtain ⟨o2,e2,c2,_⟩ := h2
 obtain ⟨p1,q1,d1,_⟩ := hl1
 obtain ⟨p2,q2,d2,_⟩ := hl2
 have n1 : (Value.type "list") ≠ .type "zip" := by intro z; injection z with z; revert z; decide
 have n2 : (Value.type "list") ≠ .type "tuple" := by intro z; injection z with z; revert z; decide
 have n3 : (Value.type "list") ≠ .type "list_iterator" := by intro z; injection z with z; revert z; decide
 exact ⟨F.TIz,F.TOz,F.i1z,F.i2z,F.TITO,F.TIi1,F.TIi2,F.TOi1,F.TOi2,F.i12,
  J3X q1 hz (by rw [d1]; exact n1),J3X q1 hTO (by rw [d1]; exact n2),J3X q1 e1 (by rw [d1,c1]; exact n3),J3X q1 e2 (by rw [d1,c2]; exact n3),
  J3X q2 hz (by rw [d2]; exact n1),J3X q2 hTO (by rw [d2]; exact n2),J3X q2 e1 (by rw [d2,c1]; exact n3),J3X q2 e2 (by rw [d2,c2]; exact n3)⟩
noncomputable def Izl (K : PySem.W.Frag) (a b : Addr) : It :=
  ⟨fun i H => ∃ xs ys x y,SqL K H a xs ∧ SqL K H b ys ∧ xs[i]? = some x ∧ ys[i]? = some y,
   fun i H v H' => ∃ p x y,H p = none ∧ (∀ xs,SqL K H a xs → xs[i]? = some x) ∧ (∀ ys,SqL K H b ys → ys[i]? = some y) ∧ v = .ref p ∧ H' = upd H p (.tup [x,y]),
   fun i H => ∃ xs ys,SqL K H a xs ∧ SqL K H b ys ∧ (xs.length ≤ i ∨ ys.length ≤ i)⟩
theorem Jc8 {P : Program} {w : World} {K : PySem.W.Frag} {es : List Expr} {k : Nat} {pos : Pos} {z TI TO i1 i2 l1 l2 : Addr} (F : J3W z TI TO i1 i2) :
  Turn P w K (.Tuple es k pos) (Izl K l1 l2) [z,TI,TO,i1,i2] z (fun i h => IsZip h z TI TO .none ∧ IsPair h TI (.ref i1) (.ref i2) ∧ (∃ a b,IsPair h TO a b) ∧ h.IsListIter i1 l1 i ∧ h.IsListIter i2 l2 i) where
 mem := by simp
 obj := fun i h st b hb => by
  obtain ⟨hz,hTI,⟨a,b',hTO⟩,⟨o1,e1,c1,d1⟩,o2,e2,c2,d2⟩ := st
  simp only [List.mem_cons,List.not_mem_nil,or_false] at hb
  rcases hb with rfl | rfl | rfl | rfl | rfl
  ·exact ⟨_,hz,fun v q => by cases q⟩
  ·exact ⟨_,hTI,fun v q => by cases q⟩
  ·exact ⟨_,hTO,fun v q => by cases q⟩
  ·exact ⟨o1,e1,fun v q => by rw [d1] at q; cases q⟩
  ·exact ⟨o2,e2,fun v q => by rw [d2] at q; cases q⟩
 keep := fun i h h' st kk => by
  obtain ⟨hz,hTI,⟨a,b',hTO⟩,⟨o1,e1,r1⟩,o2,e2,r2⟩ := st
  exact ⟨kk z (by simp) _ hz,kk TI (by simp) _ hTI,⟨a,b',kk TO (by simp) _ hTO⟩,⟨o1,kk i1 (by simp) _ e1,r1⟩,o2,kk i2 (by simp) _ e2,r2⟩
 item := by
  intro X hP hw hK hc i pins s σ H E I hf st hg
  subst hP hw hK
  obtain ⟨hz,hTI,⟨a,b,hTO⟩,h1,h2⟩ := st
  obtain ⟨xs,ys,x,y,hq1,hq2,hx,hy⟩ := hg
  obtain ⟨ia,ra,pa,_⟩ := I.list hq1
  obtain ⟨ib,rb,pb,_⟩ := I.list hq2
  obtain ⟨u,hu,ru⟩ := ra.get hx
  obtain ⟨v,hv,rv⟩ := rb.get hy
  have D := J5W F hz hTI hTO h1 h2 pa.isList pb.isList
  obtain ⟨tk,htk⟩ : ∃ tk,tk = s.toks := ⟨_,rfl⟩
  refine wpAny_pyNext_zip_item D hz hTI hTO h1 h2 pa.isList pb.isList (x := u) (y := v) (by simpa using hu) (by simpa using hv) fun h' a1 a2 a3 a4 a5 a6 kp => ?_
  refine ⟨_,rfl,?_⟩
  refine wpAny_letOwnedTupleGo_zip (s := { s with heap := h',toks := s.toks }) a1 fun h2' hz' hs' => ?_
  replace hs' : Heap.SameBut z h' h2' := hs'
  have zlt : z < s.heap.objs.size := Heap.lt_size hz
  have far : ∀ q ∈ [z,TI,TO,i1,i2],q < s.heap.objs.size := by
   intro q hq
   obtain ⟨o1,e1,_⟩ := h1
   obtain ⟨o2,e2,_⟩ := h2
   simp only [List.mem_cons,List.not_mem_nil,or_false] at hq
   rcases hq with rfl | rfl | rfl | rfl | rfl
   ·exact zlt
   ·exact Heap.lt_size hTI
   ·exact Heap.lt_size hTO
   ·exact Heap.lt_size e1
   ·exact Heap.lt_size e2
  have fz := hf z (by simp)
  have fTO := hf TO (by simp)
  have f1 := hf i1 (by simp)
  have f2 := hf i2 (by simp)
  have I1 : Inv X pins σ H { s with heap := s.heap.push { cls := .type "tuple",data := .seq #[u,v] },toks := s.toks } := I.kept fun b o e => Heap.get?_push_of_some _ e
  have keepAll : ∀ b o,b ≠ z → b ≠ TO → b ≠ i1 → b ≠ i2 → s.heap.get? b = some o → h2'.get? b = some o := fun b o b1 b2 b3 b4 e => hs'.extBut _ _ b1 (kp b o b1 b2 b3 b4 e)
  have hnew : H s.heap.objs.size = none := I.hok.fresh (Nat.le_refl _)
  have Tz : s.heap.objs.size ≠ z := Nat.ne_of_gt zlt
  have ht2 : h2'.get? s.heap.objs.size = some { cls := .type "tuple",data := .seq #[u,v] } := hs'.extBut _ _ Tz a5
  have I2 : Inv X pins σ (upd H s.heap.objs.size (.tup [x,y])) { s with heap := h2',toks := s.toks } := by
   have there : ∀ q ∈ [z,TO,i1,i2],∃ o',h2'.get? q = some o' := by
    intro q hq
    obtain ⟨o1,e1,_⟩ := a3
    obtain ⟨o2,e2,_⟩ := a4
    simp only [List.mem_cons,List.not_mem_nil,or_false] at hq
    rcases hq with rfl | rfl | rfl | rfl
    ·exact ⟨_,hz'⟩
    ·exact ⟨_,hs'.extBut _ _ F.TOz a2⟩
    ·exact ⟨_,hs'.extBut _ _ F.i1z e1⟩
    ·exact ⟨_,hs'.extBut _ _ F.i2z e2⟩
   have nch : ∀ b,b ∉ [z,TO,i1,i2] → b ≠ z ∧ b ≠ TO ∧ b ≠ i1 ∧ b ≠ i2 := fun b hb => by
    simp only [List.mem_cons,List.not_mem_nil,or_false,not_or] at hb
    exact hb
   have trk : ∀ b u',H b = some u' → b ≠ z ∧ b ≠ TO ∧ b ≠ i1 ∧ b ≠ i2 := fun b u' e =>
    ⟨fun q => (by rw [q,fz.1] at e; cases e),fun q => (by rw [q,fTO.1] at e; cases e),fun q => (by rw [q,f1.1] at e; cases e),fun q => (by rw [q,f2.1] at e; cases e)⟩
   have okH : HOk X.prog X.w (upd H s.heap.objs.size (.tup [x,y])) h2' := fun b u' e => by
    by_cases hb : b = s.heap.objs.size
    ·subst hb
     rw [J9] at e
     cases e
     exact ⟨(show 2 ≤ sizeLine by decide),[u,v],.cons ru (.cons rv .nil),⟨_,ht2,rfl,_,rfl⟩⟩
    ·rw [Ji hb] at e
     have hx := I.hok b u' e
     refine hx.stay (fun q o hq e2 => ?_) (fun q e2 => ?_) (fun q xs e2 => ?_)
     ·rcases hq with rfl | hq
      ·obtain ⟨b1,b2,b3,b4⟩ := trk q _ e
       exact keepAll q o b1 b2 b3 b4 e2
      ·obtain ⟨b1,b2,b3,b4⟩ := trk q _ hq
       exact keepAll q o b1 b2 b3 b4 e2
     ·rw [Ji (Je e2 hnew)]; exact e2
     ·rw [Ji (Je e2 hnew)]; exact e2
   refine I.step (g' := s.gens) (d' := s.drawn) (ch := [z,TO,i1,i2]) (fun b hb => ?_) (fun b o _ _ hcb e n => ?_) (fun b o _ _ hcb e n => ?_) (fun b o hcb e n => ?_) (fun b o hcb e => ?_) (fun b xs e => ?_) (fun b o u' e => ?_) (fun b ps e => ?_) (fun m hm => ?_) okH I.bare
   ·simp only [List.mem_cons,List.not_mem_nil,or_false] at hb
    rcases hb with rfl | rfl | rfl | rfl
    ·exact ⟨fz.2.2.2.1,fz.2.1,fz.2.2.2.2.1,fz.2.2.2.2.2⟩
    ·exact ⟨fTO.2.2.2.1,fTO.2.1,fTO.2.2.2.2.1,fTO.2.2.2.2.2⟩
    ·exact ⟨f1.2.2.2.1,f1.2.1,f1.2.2.2.2.1,f1.2.2.2.2.2⟩
    ·exact ⟨f2.2.2.2.1,f2.2.1,f2.2.2.2.2.1,f2.2.2.2.2.2⟩
   ·obtain ⟨b1,b2,b3,b4⟩ := nch b hcb
    exact keepAll b o b1 b2 b3 b4 e
   ·obtain ⟨b1,b2,b3,b4⟩ := nch b hcb
    exact ⟨o.slots,keepAll b o b1 b2 b3 b4 e⟩
   ·rw [Ji (Nat.ne_of_lt (Heap.lt_size e))]; exact n
   ·obtain ⟨b1,b2,b3,b4⟩ := nch b hcb
    exact ⟨o,keepAll b o b1 b2 b3 b4 e⟩
   ·rw [Ji (Je e hnew)]; exact e
   ·rw [Ji (Je e hnew)]; exact e
   ·exact ⟨#[],by rw [Ji (Je e hnew),e]; simp⟩
   ·obtain ⟨o,es',ep,ho,r⟩ := hm
    exact ⟨o,es',ep,keepAll _ o fz.2.1.symm fTO.2.1.symm f1.2.1.symm f2.2.1.symm ho,r⟩
  refine ⟨.ref s.heap.objs.size,_,I2,rfl,⟨_,x,y,hnew,fun zs hz => by rw [I.list_inj hz hq1]; exact hx,fun zs hz => by rw [I.list_inj hz hq2]; exact hy,rfl,rfl⟩,⟨hz',hs'.extBut _ _ F.TIz (kp _ _ F.TIz F.TITO F.TIi1 F.TIi2 hTI),⟨_,_,hs'.extBut _ _ F.TOz a2⟩,?_,?_⟩,fun b hb => ?_⟩
  ·obtain ⟨o,e,r⟩ := a3; exact ⟨o,hs'.extBut _ _ F.i1z e,r⟩
  ·obtain ⟨o,e,r⟩ := a4; exact ⟨o,hs'.extBut _ _ F.i2z e,r⟩
  ·rw [Ji (Nat.ne_of_lt (far b hb))]; exact (hf b hb).1
 done := by
  intro X hP hw hK hc i pins s σ H E I hf st hg
  subst hP hw hK
  obtain ⟨hz,hTI,⟨a,b,hTO⟩,h1,h2⟩ := st
  obtain ⟨xs,ys,hq1,hq2,hg⟩ := hg
  obtain ⟨ia,ra,pa,_⟩ := I.list hq1
  obtain ⟨ib,rb,pb,_⟩ := I.list hq2
  have la := ra.length
  have lb := rb.length
  have D := J5W F hz hTI hTO h1 h2 pa.isList pb.isList
  refine wpAny_pyNext_zip_end (I.ok.hd hc) D hz hTI hTO h1 h2 pa.isList pb.isList (by rcases hg with q | q; exact .inl (by simp; omega); exact .inr (by simp; omega)) fun h' kp => ⟨rfl,?_⟩
  refine I.turnedN (t' := s.toks) (ch := [z,TO,i1,i2]) (fun b o hb q => ?_) fun b hb => hf b ?_
  ·simp only [List.mem_cons,List.not_mem_nil,or_false,not_or] at hb
   exact kp b o hb.1 hb.2.1 hb.2.2.1 hb.2.2.2 q
  ·simp only [List.mem_cons,List.not_mem_nil,or_false] at hb ⊢
   rcases hb with q | q | q | q
   ·exact .inl q
   ·exact .inr (.inr (.inl q))
   ·exact .inr (.inr (.inr (.inl q)))
   ·exact .inr (.inr (.inr (.inr q)))
 self := fun _ _ _ _ _ st h => wpAny_pyIter_zip st.1 h
section
variable {X : Cx} {es : List Expr} {k : Nat} {tpos : Pos}
noncomputable def JeW (K : PySem.W.Frag) (ta : TA) : TI := fun σ H R => ta σ H fun vs H1 => ∃ a b,vs = [.ref a,.ref b] ∧ (∃ xs,SqL K H1 a xs) ∧ (∃ ys,SqL K H1 b ys) ∧ R (Izl K a b) H1
theorem Jev {a b : Expr} {ta : TA} {p pos : Pos} (hg : Gl X "zip") (hm : X.mg "zip" = none) (ha : PA X [a,b] ta) (hv : bootBuiltins "zip" = some (.type "zip") := by decide +kernel) (hs : starEach [a,b] X.env = [(false,eval a X.env),(false,eval b X.env)] := by rfl) (hs2 : starEach [b] X.env = [(false,eval b X.env)] := by rfl) :
  PI X (.Tuple es k tpos) (.Call (.Name "zip" p) [a,b] [] pos) (JeW X.K ta) := by
 intro pins s σ H R I h
 refine Call_ (J4B I hg hm hv (PyProof.Rows.callWith_type1 (thn (ha pos pins s σ H _ I h) fun us s1 ⟨vs,H1,I1,r1,q1⟩ => ?_) (by rw [hs,hs2]) (by rw [hs2]; rfl)))
 obtain ⟨l1,l2,e,⟨xs,hq1⟩,⟨ys,hq2⟩,q⟩ := q1
 subst e
 obtain ⟨u,v,rfl,ru,rv⟩ := r1.two
 cases ru; cases rv
 obtain ⟨ia,ra,pa,_⟩ := I1.list hq1
 obtain ⟨ib,rb,pb,_⟩ := I1.list hq2
 refine call_zip_2 pa.isList pb.isList fun h' a1 a2 a3 a4 a5 a6 kp => ?_
 have far : J3W (s1.heap.objs.size + 4) (s1.heap.objs.size + 2) (s1.heap.objs.size + 3) s1.heap.objs.size (s1.heap.objs.size + 1) := J79 _
 have I2 : Inv X pins σ H1 { s1 with heap := h' } := I1.kept (t' := s1.toks) kp
 refine wpAny_pyIter_zip a1 ⟨s1.heap.objs.size + 4,[s1.heap.objs.size + 4,s1.heap.objs.size + 2,s1.heap.objs.size + 3,s1.heap.objs.size,s1.heap.objs.size + 1],_,_,H1,rfl,I2,Jc8 far,⟨a1,a2,⟨_,_,a3⟩,a4,a5⟩,fun b hb => ?_,q⟩
 have hb' : s1.heap.objs.size ≤ b := by
  simp only [List.mem_cons,List.not_mem_nil,or_false] at hb
  rcases hb with rfl | rfl | rfl | rfl | rfl
  ·exact Nat.le_add_right _ _
  ·exact Nat.le_add_right _ _
  ·exact Nat.le_add_right _ _
  ·exact Nat.le_refl _
  ·exact Nat.le_add_right _ _
 exact I1.fpOk hb' (I1.hok.fresh hb')
end
theorem J5h {X : Cx} {es : List Expr} {k : Nat} {tpos : Pos} {K : PySem.W.Frag} {a b : Expr} {ta : TA} {p pos : Pos} (h : X.K = K) (hg : Gl X "zip") (hm : X.mg "zip" = none) (ha : PA X [a,b] ta) (hv : bootBuiltins "zip" = some (.type "zip") := by decide +kernel) (hs : starEach [a,b] X.env = [(false,eval a X.env),(false,eval b X.env)] := by rfl) (hs2 : starEach [b] X.env = [(false,eval b X.env)] := by rfl) :
  PI X (.Tuple es k tpos) (.Call (.Name "zip" p) [a,b] [] pos) (JeW K ta) := h ▸ Jev hg hm ha hv hs hs2
theorem Jax {K : PySem.W.Frag} {a b : Addr} {xs ys : List V} {g : TG} {tb : TS} {D : Ends} {σ : St} {H : Hp} (Pv : Nat → St → Hp → Prop) (h0 : Pv 0 σ H) (hl : ∀ i σ H,i ≤ xs.length → i ≤ ys.length → Pv i σ H → SqL K H a xs ∧ SqL K H b ys)
  (hs : ∀ i x y p σ H,xs[i]? = some x → ys[i]? = some y → H p = none → Pv i σ H → g (.ref p) σ (upd H p (.tup [x,y])) fun σ2 H2 => tb { D with nx := Pv (i + 1),ct := Pv (i + 1),bk := D.nx } σ2 H2) (hd : ∀ i σ H,i = xs.length ∨ i = ys.length → Pv i σ H → D.nx σ H) :
  ∃ W : Nat → Nat → St → Hp → Prop,(∃ m,W 0 m σ H) ∧ ∀ i m σ H,W i m σ H →
   ((Izl K a b).stop i H ∧ D.nx σ H) ∨ ((Izl K a b).go i H ∧ ∃ N : St → Hp → Prop,(∀ σ' H',N σ' H' → ∃ m',m' < m ∧ W (i + 1) m' σ' H') ∧ ∀ x H',(Izl K a b).yld i H x H' → g x σ H' fun σ2 H2 => tb { D with nx := N,ct := N,bk := D.nx } σ2 H2) := by
 refine ⟨fun i m σ H => m = xs.length - i ∧ i ≤ xs.length ∧ i ≤ ys.length ∧ Pv i σ H,⟨xs.length,by simp,Nat.zero_le _,Nat.zero_le _,h0⟩,?_⟩
 rintro i m σ H ⟨rfl,hi,hj,p⟩
 obtain ⟨q1,q2⟩ := hl i σ H hi hj p
 by_cases hlt : i < xs.length ∧ i < ys.length
 ·refine .inr ⟨⟨xs,ys,xs[i],ys[i],q1,q2,by simp [hlt.1],by simp [hlt.2]⟩,Pv (i + 1),fun σ' H' p' => ⟨xs.length - (i + 1),by omega,rfl,hlt.1,hlt.2,p'⟩,fun x H' y => ?_⟩
  obtain ⟨r,u,v,hr,e1,e2,rfl,rfl⟩ := y
  exact hs i u v r σ H (e1 xs q1) (e2 ys q2) hr p
 ·have e : i = xs.length ∨ i = ys.length := by omega
  exact .inl ⟨⟨xs,ys,q1,q2,by omega⟩,hd i σ H e p⟩
end L2
set_option linter.all false
set_option maxRecDepth 100000
set_option maxHeartbeats 4000000
namespace L2
open PySem PySem.Spec PyProof.Rows
section
variable {X : Cx} {elt tg iter : Expr} {ifs : List Expr} {scope : Scope} {pos : Pos} {N : List Str} {js : List (Option Nat)} {wi : TI} {g : TG} {tc : TT} {te : TE}
theorem J4f {osc : Scope} {ON : List Str} {k : Nat} {y : Str} {py spos : Pos} (hN : X.N.Nodup) (hk : X.N[k]? = some y) (hky : Loc X.env.scope y) (cs : J4c osc ON scope N js) (ho : X.env.scope = osc) (hON : X.N = ON) (hc : X.calm = true) (hi : PI X tg iter wi)
    (hg : ∀ s₀ H₀ cl C ex,PG (J1j X scope N s₀ H₀ cl C ex) tg g) (hif : ∀ s₀ H₀ cl C ex,PIfs (J1j X scope N s₀ H₀ cl C ex) ifs tc) (he : ∀ s₀ H₀ cl C ex,PE (J1j X scope N s₀ H₀ cl C ex) elt te)
    (hsw : swapsWith (.ListComp elt [⟨tg,iter,ifs,0⟩] scope pos) (some (.Name y py)) spos.line X.env = pure true := by rfl)
    (hs : ∀ x,foldedSetIterable iter X.env x = pure x := by intro _; rfl) (hf : X.fn y = true ∨ X.env.scope.names.lookup y = some .local := by first | exact .inl rfl | exact .inr rfl | assumption) :
    PS X (.Assign [.Name y py] (.ListComp elt [⟨tg,iter,ifs,0⟩] scope pos) spos) (tAsg (JdH wi (subσ js) g tc te) (J3w k)) := by
  intro pins s σ H Dn I h0
  have h : JdH wi (subσ js) g tc te σ H (fun v H' => Dn.nx (σ.set k (some v)) H') := h0
  subst ho hON
  obtain ⟨cl,hcl,cl1,cl2⟩ := J4t (scope := scope) (env := X.env) fun y hy hf => I.ok.has y.1 (cs.free y hy hf)
  rw [exec_Assign_Name_used _ _ _ _ hsw]
  refine wpAny_bind (wpAny_standAt (wpAny_bind ?_))
  show wpAny _ X.A (do let _ ← comprehension (.ListComp elt [⟨tg,iter,ifs,0⟩] scope pos) scope X.env _ (newList []) false (eval iter X.env) (some (assign (.Name y py) X.env))) _ _ s
  refine wpAny_bind (wpAny_mono (wpAny_comprehension_free (use := some (assign (.Name y py) X.env)) (Q := fun _ s' => SP X pins Dn .next s') rfl hs hcl cs.kind cs.names ?_) (fun _ s' hq => wpAny_pure (wpAny_pure hq)) fun _ _ e => e)
  refine thn (hi pins s σ H _ I h) fun v s1 h1 => thn h1 fun itv s2 h2 => ?_
  obtain ⟨it,fp,tn,J,H2,e,I2,T,st2,f2,hW⟩ := h2
  subst e
  have hD0 : H2 s2.heap.objs.size = none := I2.hok.fresh (Nat.le_refl _)
  obtain ⟨W,⟨m0,w0⟩,turn⟩ := hW s2.heap.objs.size hD0
  have I3 := I2.lnew (t' := s2.toks) (ys := []) (its := []) .nil (Nat.zero_le _)
  refine wpAny_newObj_type (wpAny_newFunctionEnv cs.cell (by intro y hy; simp at hy) (fun h₁ hns₁ hsb₁ => ?_) cs.kind)
  dsimp only at hns₁ hsb₁ ⊢
  obtain ⟨s3,hs3⟩ : ∃ s3 : Shared,s3 = { s2 with heap := s2.heap.push { cls := .type "list",data := .seq ([] : List Value).toArray },toks := s2.toks } := ⟨_,rfl⟩
  rw [← hs3] at I3
  have e3 : s3.heap = s2.heap.push { cls := .type "list",dict := none,data := .seq ([] : List Value).toArray } := by rw [hs3]
  have e3o : s3.os = s2.os := by rw [hs3]
  have e3g : s3.gens = s2.gens := by rw [hs3]
  rw [← e3] at hns₁ hsb₁ ⊢
  obtain ⟨H3,hH3⟩ : ∃ H3 : Hp,H3 = upd H2 s2.heap.objs.size (.lst []) := ⟨_,rfl⟩
  rw [← hH3] at I3 w0
  have up1 : ∀ b o,s2.heap.get? b = some o → s3.heap.get? b = some o := fun b o q => by rw [e3]; exact Heap.get?_push_of_some _ q
  have up2 : ∀ b o,s3.heap.get? b = some o → h₁.get? b = some o := fun b o q => hsb₁.extBut b o (Nat.ne_of_lt (Heap.lt_size q)) (Heap.get?_push_of_some _ q)
  have fpo : ∀ b ∈ fp,∃ o,s3.heap.get? b = some o := fun b hb => by
    obtain ⟨o,ho,_⟩ := T.obj 0 _ st2 b hb
    exact ⟨o,up1 b o ho⟩
  have fr3 : ∀ b ∈ fp,H3 b = none := fun b hb => by
    obtain ⟨o,ho,_⟩ := T.obj 0 _ st2 b hb
    rw [hH3,Ji (Nat.ne_of_lt (Heap.lt_size ho))]
    exact (f2 b hb).1
  have fpC : ∀ b ∈ fp,b ≠ s3.heap.objs.size := fun b hb => by
    obtain ⟨o,ho⟩ := fpo b hb
    exact Nat.ne_of_lt (Heap.lt_size ho)
  have fpS : ∀ b ∈ fp,b ∉ frs X.stack := fun b hb hs' => by
    rcases List.mem_cons.mp (I2.stkSub b hs') with z | z
    · exact (f2 b hb).2.1 z
    · exact (f2 b hb).2.2.1 z
  have ok' : (J1j X scope N s3 H3 cl s3.heap.objs.size fp).Ok := by
    refine ⟨I.ok.mod,cs.kind,I.ok.glob,I.ok.blt,Nat.le_refl _,fun x y c e1 e2 => I.ok.inj x y c (cl2 x c e1) (cl2 y c e2),fun x hx => ?_,fun x c hf => (nomatch hf),I.ok.hd,I.ok.frames,.inl rfl,fun b hb => ⟨fpC b hb,fun x c e => (f2 b hb).2.2.2.2.1 x c (cl2 x c e)⟩,
      I3.bs,Nat.le_trans I.ok.bsz I3.sz,fun b o e hb => ?_,fun b hb => fpS b hb,I3.stack,I3.stkFree⟩
    · have hm : (x,NameKind.free) ∈ scope.names := J3F cs.cell hx
      obtain ⟨c,hc⟩ := I.ok.has x (cs.free _ hm rfl)
      exact ⟨c,(cl1 _ hm rfl).trans hc⟩
    · rcases (f2 b hb).2.2.2.1 with z | z
      · exact I.ok.noex b o e z
      · exact absurd (Nat.lt_of_lt_of_le (Heap.lt_size e) (Nat.le_trans I.ok.bsz z)) (Nat.lt_irrefl _)
  have cellK : ∀ c v,s3.heap.IsCell c v → h₁.IsCell c v := fun c v ⟨o,ho,hd⟩ => ⟨o,up2 c o ho,hd⟩
  have I4 : ∀ t : Nat,Inv (J1j X scope N s3 H3 cl s3.heap.objs.size fp) [] (subσ js σ) H3 { s2 with heap := h₁,toks := t } := fun t => by
    refine ⟨ok',e3o.symm,I2.bare,Un.kept up2,⟨_,hns₁,fun i x v hi hv hx => ?_⟩,fun x c e => ?_,I3.hok.fresh (Nat.le_refl _),fun x c e => I3.freeC x c (cl2 x c e),fun p hp => (nomatch hp),I3.hok.kept up2,?_⟩
    ·
      have hv' : ∃ j,js[i]? = some (some j) ∧ σ[j]? = some (some v) := by
        unfold subσ at hv
        rw [List.getElem?_map] at hv
        cases hj : js[i]? with
        | none => rw [hj] at hv; cases hv
        | some o =>
          rw [hj] at hv
          cases o with
          | none => cases hv
          | some j =>
            refine ⟨j,rfl,?_⟩
            have hv2 : (σ[j]?).join = some v := Option.some.inj hv
            cases hs2 : σ[j]? with
            | none => rw [hs2] at hv2; cases hv2
            | some u => rw [hs2] at hv2; exact congrArg some hv2
      obtain ⟨j,hj,hσ⟩ := hv'
      obtain ⟨x',h1',h2',h3'⟩ := cs.sub i j hj
      have hxx : x = x' := Option.some.inj (hi.symm.trans h1')
      subst hxx
      have hm : (x,NameKind.free) ∈ scope.names := mem_of_lookup h3'
      have hk := cs.free _ hm rfl
      obtain ⟨m,hn,hl⟩ := id I3.loc
      obtain ⟨u,ru,lk⟩ := hl j x v h2' hσ (by rcases hk with z | z; exact .inr (.inl z); exact .inr (.inr z))
      refine ⟨u,ru,?_⟩
      rcases lk with ⟨k1,_⟩ | ⟨k1,c,e1,z⟩
      · rcases hk with z | z <;> (rw [show X.env.kindOf x = _ from z] at k1; cases k1)
      · exact .inr ⟨J1R h3',c,(cl1 _ hm rfl).trans e1,cellK c _ z⟩
    · obtain ⟨v,z⟩ := I3.cell x c (cl2 x c e)
      exact ⟨v,cellK c v z⟩
    · unfold subσ
      rw [List.length_map]
      exact cs.len
  have hst₁ : tn 0 h₁ := T.keep 0 _ _ st2 fun b hb o q => up2 b o (up1 b o q)
  have stat : ∀ {H' : Hp},(∀ b ∈ fp,H' b = none) → ∀ b ∈ fp,FpOk (J1j X scope N s3 H3 cl s3.heap.objs.size fp) [] H' b := fun hn b hb =>
    ⟨hn b hb,fpC b hb,fpS b hb,.inl hb,fun x c e => (f2 b hb).2.2.2.2.1 x c (cl2 x c e),fun p hp => (nomatch hp)⟩
  have loop : ∀ s4 : Shared,(∃ t,s4 = { s2 with heap := h₁,toks := t }) →
      codeAny (model X.prog X.w) X.A (.compLoop (.ListComp elt [⟨tg,iter,ifs,0⟩] scope pos) 0 (.ref it) (.ref s2.heap.objs.size) (compEnvC scope cl s3.heap.objs.size X.env))
        (compPost (model X.prog X.w) X.A X.xe (some (assign (.Name y py) X.env)) (fun _ s' => SP X pins Dn .next s') (.ref s2.heap.objs.size) s3.heap.objs.size) s4 := by
    rintro s4 ⟨t,rfl⟩
    refine J58 (fun n s' => ∃ i σ' ys H',Inv (J1j X scope N s3 H3 cl s3.heap.objs.size fp) [] σ' H' s' ∧ tn i s'.heap ∧ (∀ b ∈ fp,H' b = none) ∧ W i n σ' ys H') ?_ m0 ⟨0,_,[],H3,I4 t,hst₁,fr3,w0⟩
    rintro n s5 ⟨i,σ5,ys,H5,I5,st5,fr5,w5⟩
    rcases turn i n σ5 ys H5 w5 with ⟨stop,qn⟩ | ⟨go,step⟩
    · refine thn (T.done (J1j X scope N s3 H3 cl s3.heap.objs.size fp) rfl rfl rfl hc i [] s5 σ5 H5 _ I5 (stat fr5) st5 stop) fun r s6 ⟨hr,I6⟩ => ?_
      subst hr
      obtain ⟨m,hn,_⟩ := id I6.loc
      have IX : ∀ h',Heap.SameBut s3.heap.objs.size s6.heap h' → Inv X pins σ H5 { s6 with heap := h' } := fun h' hs' => by
        have neC : ∀ b o,s3.heap.get? b = some o → b ≠ s3.heap.objs.size := fun b o q => Nat.ne_of_lt (Heap.lt_size q)
        have un : Un (frs X.stack) fp H3 H5 s3.heap h' :=
          ⟨fun b o q n1 hb hx => (hs'.2 b (neC b o q)).trans (I6.base.keep b o q n1 hb hx),
           fun b o q n1 hb hx => by
             obtain ⟨sl,e⟩ := I6.base.slot b o q n1 hb hx
             exact ⟨sl,(hs'.2 b (neC b o q)).trans e⟩,
           fun b o q n1 hx => I6.base.free b o q n1 hx,
           fun b o q hx => by
             obtain ⟨o',e⟩ := I6.base.there b o q hx
             exact ⟨o',(hs'.2 b (neC b o q)).trans e⟩,
           I6.base.tups,I6.base.frzs,I6.base.tbls⟩
        refine I3.call' (ch := fp) (s' := { s6 with heap := h' }) I6.os un (fun b ob e => ?_) I6.bare (fun b hb => ⟨(f2 b hb).2.2.2.1,(f2 b hb).2.1,(f2 b hb).2.2.2.2.1,(f2 b hb).2.2.2.2.2⟩)
        refine (I6.hok b ob e).stay (fun c w' hc' q => (hs'.2 c ?_).trans q) (fun _ q => q) fun _ _ q => q
        rintro rfl
        have fC : H5 s3.heap.objs.size = none := I6.free
        rcases hc' with z | z
        · rw [← z,fC] at e; cases e
        · rw [fC] at z; cases z
      have fC : H5 s3.heap.objs.size = none := I6.free
      have IY : Inv X pins σ H5 s6 := IX s6.heap (Heap.SameBut.refl ..)
      have fo : FpOk X pins H5 s3.heap.objs.size := I3.fpOk (Nat.le_refl _) fC
      obtain ⟨oC,es,ep,ho1,hd1,hrest⟩ := id hn
      have IZ := IY.pinned (fp := [s3.heap.objs.size]) (fun b hb => by obtain rfl : b = _ := (by simpa using hb); exact fo) (fun b hb => by obtain rfl : b = _ := (by simpa using hb); exact ⟨oC,ho1,fun v z => by rw [hd1] at z; cases z⟩)
      show wpAny _ X.A (assign (.Name y py) X.env (.ref s2.heap.objs.size)) _ _ s6
      refine wpAny_assign_Name (J5c IZ hN hk hky (show RelV (.ref s2.heap.objs.size) (.ref s2.heap.objs.size) from rfl) (fun s7 I7 => ?_) hf)
      have hC7 : s7.heap.get? s3.heap.objs.size = some oC := (I7.pin (s3.heap.objs.size,oC) (List.mem_append_right _ (List.mem_append_right _ (J22 (by simp) ho1)))).1
      refine ⟨m,hn.at' fun o e => ?_,fun h' hs' => ⟨_,H5,?_,qn⟩⟩
      · rw [ho1] at e; cases e; exact hC7
      · have I8 := I7.unpinned
        exact I8.turned (t' := s7.toks) (fun b o hb e => (hs'.2 b hb).trans e) fo.1 fo.2.1 fo.2.2.2.1 fo.2.2.2.2.1 fo.2.2.2.2.2
    · refine thn (T.item (J1j X scope N s3 H3 cl s3.heap.objs.size fp) rfl rfl rfl hc i [] s5 σ5 H5 _ I5 (stat fr5) st5 go) fun r s6 ⟨u,hr,h6⟩ => ?_
      subst hr
      refine thn h6 fun _ s7 ⟨x,H7,I7,r7,y7,st7,fr7⟩ => ?_
      have I7' := I7.pinned (stat fr7) (T.obj _ _ st7)
      refine thn (hg _ _ _ _ _ _ s7 σ5 H7 x u _ I7' r7 (step x H7 y7)) fun _ s8 ⟨σ8,H8,I8,q8⟩ => ?_
      refine thn (hif _ _ _ _ _ _ s8 σ8 H8 _ I8 q8) fun ok s9 ⟨H9,I9,q9⟩ => ?_
      have again : ∀ {σ' : St} {H' : Hp} {s' : Shared},Inv (J1j X scope N s3 H3 cl s3.heap.objs.size fp) ([] ++ J5M fp s7.heap) σ' H' s' →
          Inv (J1j X scope N s3 H3 cl s3.heap.objs.size fp) [] σ' H' s' ∧ tn (i + 1) s'.heap ∧ ∀ b ∈ fp,H' b = none := fun {σ' H' s'} I' => by
        refine ⟨I'.unpinned,T.keep _ _ _ st7 fun b hb o e => (I'.pin (b,o) (List.mem_append_right _ (List.mem_append_right _ (J22 hb e)))).1,fun b hb => ?_⟩
        obtain ⟨o,e,d⟩ := T.obj _ _ st7 b hb
        exact (I'.pin (b,o) (List.mem_append_right _ (List.mem_append_right _ (J22 hb e)))).2.1
      cases ok with
      | false =>
        rw [if_neg Bool.false_ne_true] at q9 ⊢
        obtain ⟨m',hm,w9⟩ := q9
        obtain ⟨a1,a2,a3⟩ := again I9
        exact ⟨m',hm,i + 1,σ8,ys,H9,a1,a2,a3,w9⟩
      | true =>
        rw [if_pos rfl] at q9 ⊢
        refine thn (he _ _ _ _ _ _ s9 σ8 H9 _ I9 q9) fun yv s10 ⟨y,H10,I10,r10,q10⟩ => ?_
        obtain ⟨hD,hz,m',hm,w10⟩ := q10
        refine thn (J09 (X := J1j X scope N s3 H3 cl s3.heap.objs.size fp) _ s10 σ8 H10 (.ref s2.heap.objs.size) [y] (.ref s2.heap.objs.size) [yv] (fun v H' => H' = upd H10 s2.heap.objs.size (.lst (ys ++ [y]))) I10 rfl (.cons r10 .nil)
          ⟨s2.heap.objs.size,ys,y,rfl,rfl,hD,hz,rfl⟩) fun _ s11 ⟨v11,H11,I11,_,e11⟩ => ?_
        have e11' : H11 = upd H10 s2.heap.objs.size (.lst (ys ++ [y])) := e11
        subst e11'
        obtain ⟨a1,a2,a3⟩ := again I11
        exact ⟨m',hm,i + 1,σ8,ys ++ [y],_,a1,a2,a3,w10⟩
  exact codeAny_compStart_list (loop _ ⟨_,rfl⟩) (T.self X.A 0 _ _ _ hst₁ (loop _ ⟨_,rfl⟩))
end
end L2
set_option linter.all false
namespace L2
open PySem PySem.StrLaws Builtin Builtin.Str
noncomputable def JN (c : Nat) : List Nat → List (List Nat)
 | [] => [[]]
 | x :: r => if x = c then [] :: JN c r else match JN c r with
  | h :: t => (x :: h) :: t
  | [] => [[x]]
theorem J81 (c : Nat) : ∀ l,∃ h t,JN c l = h :: t
 | [] => ⟨_,_,rfl⟩
 | x :: r => by
  obtain ⟨h,t,e⟩ := J81 c r
  unfold JN
  split
  ·exact ⟨_,_,rfl⟩
  ·rw [e]; exact ⟨_,_,rfl⟩
end L2
set_option linter.all false
set_option maxRecDepth 100000
set_option maxHeartbeats 4000000
namespace L2
open PySem PySem.Spec PyProof.Rows
noncomputable abbrev TF := List Nat → St → Hp → VK → Prop
noncomputable def PF (X : Cx) (es : List Expr) (t : TF) : Prop := ∀ (pins : List (Addr × Obj)) (s : Shared) (σ : St) (H : Hp) (out : List Nat) (Q : VK),Inv X pins σ H s → t out σ H Q →
 wpAny (model X.prog X.w) X.A (joinParts ⟨out.toArray⟩ (evalEach es X.env)) (EP X pins σ Q) X.xe s
noncomputable def Jgm : TF := fun out _ H Q => out.length ≤ sizeLine ∧ Q (T out) H
noncomputable def JfD (te : TE) (tr : TF) : TF := fun out σ H Q => te σ H fun x H1 => ∃ y,x = T y ∧ (out ++ y).length ≤ sizeLine ∧ tr (out ++ y) σ H1 Q
section
variable {X : Cx} {e : Expr} {es : List Expr} {te : TE} {tr : TF} {pos : Pos}
theorem J6h : PF X [] Jgm := by
 intro pins s σ H out Q I h
 exact joinParts_nil ⟨T out,H,I.tok _,⟨_,rfl⟩,h.2⟩ (by rw [J3i]; exact h.1)
theorem J0o (he : PE X e te) (hr : PF X es tr) (hs : evalEach (e :: es) X.env = eval e X.env :: evalEach es X.env := by rfl) : PF X (e :: es) (JfD te tr) := by
 intro pins s σ H out Q I h
 rw [hs]
 refine joinParts_cons (thn (he pins s σ H _ I h) fun v s1 ⟨x,H1,I1,r1,y,e1,hz,q⟩ => ?_)
 subst e1
 obtain ⟨t,rfl⟩ := r1
 refine ⟨by rw [Ja2,J3i]; exact hz,?_⟩
 rw [Ja2]
 exact hr pins s1 σ H1 _ Q I1 q
theorem J4G {x : Str} {l : List Nat} {j} (h : x = ⟨l.toArray⟩) : PE X (.Constant (.str x) j pos) (tC (T l)) := Jv h
noncomputable def tFs (te : TE) : TE := fun σ H Q => te σ H fun x H1 => ∃ y,x = T y ∧ y.length ≤ sizeLine ∧ Q (T y) H1
theorem J4E (he : PE X e te) : PE X (.FormattedValue e (-1) none pos) (tFs te) := by
 intro pins s σ H Q I h
 refine FormattedValue_plain (thn (he pins s σ H _ I h) fun v s1 ⟨x,H1,I1,r1,y,e1,hz,q⟩ => ?_)
 subst e1
 obtain ⟨t,rfl⟩ := r1
 exact formatField_str (fun t' tk => ⟨T y,H1,I1.tok _,⟨t',rfl⟩,q⟩) (by rw [J3i]; exact hz)
noncomputable def tFd (te : TE) : TE := fun σ H Q => te σ H fun x H1 => ∃ n : Nat,x = .int n ∧ n ≤ 9 ∧ Q (T [48 + n]) H1
theorem Jdg : ∀ n : Nat,n ≤ 9 → toString ((n : Nat) : Int) = (⟨[48 + n].toArray⟩ : Str) := by
 intro n hn
 have : n = 0 ∨ n = 1 ∨ n = 2 ∨ n = 3 ∨ n = 4 ∨ n = 5 ∨ n = 6 ∨ n = 7 ∨ n = 8 ∨ n = 9 := by omega
 rcases this with rfl | rfl | rfl | rfl | rfl | rfl | rfl | rfl | rfl | rfl <;> decide +kernel
theorem JeP {n : Nat} (h : n ≤ 9) : ((n : Int).natAbs).log2 < 1920 := by
 have : n = 0 ∨ n = 1 ∨ n = 2 ∨ n = 3 ∨ n = 4 ∨ n = 5 ∨ n = 6 ∨ n = 7 ∨ n = 8 ∨ n = 9 := by omega
 rcases this with rfl | rfl | rfl | rfl | rfl | rfl | rfl | rfl | rfl | rfl <;> decide +kernel
theorem Jdh (he : PE X e te) : PE X (.FormattedValue e (-1) none pos) (tFd te) := by
 intro pins s σ H Q I h
 refine FormattedValue_plain (thn (he pins s σ H _ I h) fun v s1 ⟨x,H1,I1,r1,n,e1,hn,q⟩ => ?_)
 subst e1
 obtain ⟨t,rfl⟩ := r1
 exact formatField_int_small (JeP hn) ⟨T [48 + n],H1,I1.tok _,⟨_,by rw [Jdg n hn]⟩,q⟩
theorem J6j {e1 e2 : Expr} (h : PF X (e1 :: e2 :: es) tr) : PE X (.JoinedStr (e1 :: e2 :: es) pos) (tr []) := by
 intro pins s σ H Q I hw
 exact JoinedStr_many (h pins s σ H [] Q I hw)
end
end L2
set_option linter.all false
set_option maxRecDepth 100000
set_option maxHeartbeats 4000000
namespace L2
open PySem PySem.Spec PyProof.Rows
section
variable {X : Cx} {x m : Str} {k : Nat} {ps : List Str} {sp : Sp} {C : Addr} {p pos apos : Pos} {e o : Expr} {es : List Expr} {t : TA} {to : TE}
theorem J1y {r : List V → Hp → VK → Prop} (G : MkG X.prog X.w X.K X.mg X.base C x k ps sp) (hr : Room (k + 1) X.A)
  (imp : ∀ vs H Q,r vs H Q → ∀ x dx,H x = none → H dx = none → dx ≠ x → sp (.ref x :: (vs ++ [])) (upd (upd H dx (.own x)) x (.ins C dx [])) (fun v H2 => v = .non ∧ Q (.ref x) H2) E0)
  (ha : PA X (e :: es) t) (hg : Gl X x := by rfl) (hdb : (x == ("__debug__" : Str)) = false := by decide)
  (he : starEach (e :: es) X.env = (false,eval e X.env) :: starEach es X.env := by rfl) (hpl : (backTo pos (starEach es X.env)).any (·.1) = false := by rfl) : PE X (.Call (.Name x p) (e :: es) [] pos) (tCB r t) := by
 obtain ⟨f,fd,a,M,hm,hb⟩ := G
 intro pins s σ H Q I h
 refine wpAny_Call_Name_kw (J91 I hg hm ?_ hdb)
 refine PySem.W.callWith_K (h₀ := X.base) I.ok.mod.kin M.kp (thn (ha pos pins s σ H _ I h) fun us s1 ⟨vs,H1,I1,rv,q⟩ => ⟨I1.kIn,?_⟩) he hpl
 exact JdS M a hr hb .nil Jae I1 rv (imp vs H1 Q q)
end
end L2
set_option linter.all false
set_option maxRecDepth 100000
set_option maxHeartbeats 4000000
namespace L2
open PySem PySem.Spec PyProof.Rows
noncomputable def All2 {α : Type} (P : α → V → Hp → Prop) (H : Hp) : List α → List V → Prop
 | [],[] => True
 | a :: as,y :: ys => P a y H ∧ All2 P H as ys
 | _,_ => False
section
variable {α : Type} {P : α → V → Hp → Prop} {H H' : Hp}
theorem All2.len : ∀ {as : List α} {ys : List V},All2 P H as ys → ys.length = as.length
 | [],[],_ => rfl
 | _ :: _,_ :: _,h => by rw [List.length_cons,List.length_cons,All2.len h.2]
 | [],_ :: _,h => h.elim
 | _ :: _,[],h => h.elim
theorem All2.snoc : ∀ {as : List α} {ys : List V} {a : α} {y : V},All2 P H as ys → P a y H → All2 P H (as ++ [a]) (ys ++ [y])
 | [],[],_,_,_,p => ⟨p,trivial⟩
 | _ :: _,_ :: _,_,_,h,p => ⟨h.1,All2.snoc h.2 p⟩
 | [],_ :: _,_,_,h,_ => h.elim
 | _ :: _,[],_,_,h,_ => h.elim
theorem All2.imp {P' : α → V → Hp → Prop} : ∀ {as : List α} {ys : List V},All2 P H as ys → (∀ a y,P a y H → P' a y H') → All2 P' H' as ys
 | [],[],_,_ => trivial
 | _ :: _,_ :: _,h,f => ⟨f _ _ h.1,All2.imp h.2 f⟩
 | [],_ :: _,h,_ => h.elim
 | _ :: _,[],h,_ => h.elim
theorem All2.get : ∀ {as : List α} {ys : List V} {i : Nat} {a : α},All2 P H as ys → as[i]? = some a → ∃ y,ys[i]? = some y ∧ P a y H
 | [],[],_,_,_,e => by simp at e
 | b :: _,y :: _,0,a,h,e => ⟨y,rfl,by rw [← (Option.some.inj e : b = a)]; exact h.1⟩
 | _ :: as,_ :: ys,i + 1,a,h,e => All2.get (as := as) (ys := ys) (i := i) h.2 (by simpa using e)
 | [],_ :: _,_,_,h,_ => h.elim
 | _ :: _,[],_,_,h,_ => h.elim
theorem All2.back : ∀ {as : List α} {ys : List V} {i : Nat} {y : V},All2 P H as ys → ys[i]? = some y → ∃ a,as[i]? = some a ∧ P a y H
 | [],[],_,_,_,e => by simp at e
 | b :: _,z :: _,0,y,h,e => ⟨b,rfl,by rw [← (Option.some.inj e : z = y)]; exact h.1⟩
 | _ :: as,_ :: ys,i + 1,y,h,e => All2.back (as := as) (ys := ys) (i := i) h.2 (by simpa using e)
 | [],_ :: _,_,_,h,_ => h.elim
 | _ :: _,[],_,_,h,_ => h.elim
theorem All2.eqmap {f : α → V} : ∀ {as : List α} {ys : List V},All2 P H as ys → (∀ a y,P a y H → y = f a) → ys = as.map f
 | [],[],_,_ => rfl
 | _ :: _,_ :: _,h,g => by rw [List.map_cons,← g _ _ h.1,← All2.eqmap h.2 g]
 | [],_ :: _,h,_ => h.elim
 | _ :: _,[],h,_ => h.elim
end
noncomputable def JO (Ha Hb : Hp) : Prop := ∀ a ob,Ha a = some ob → (∀ zs,ob ≠ .lst zs) → Hb a = some ob
theorem Same.keeps {Ha Hb : Hp} (h : Same Ha Hb) : JO Ha Hb := fun a ob e _ => h a ob e
theorem JO.trans {Ha Hb Hc : Hp} (h : JO Ha Hb) (h' : JO Hb Hc) : JO Ha Hc := fun a ob e n => h' a ob (h a ob e n) n
theorem JR {Ha : Hp} {D : Addr} {zs ys : List V} (h : Ha D = some (.lst zs)) : JO Ha (upd Ha D (.lst ys)) := fun a ob e hn => by
 by_cases c : a = D
 ·subst c; rw [h] at e; cases e; exact absurd rfl (hn zs)
 ·rw [Ji c]; exact e
theorem J7j {α : Type} {J : It} {H : Hp} {σ0 : St} {g : TG} {tc : TT} {te : TE} {Q : VK} (xs : List α) (p : α → Bool) (P : α → V → Hp → Prop) (sh : St → Prop) (hx : xs.length ≤ 1000000) (h0 : sh σ0)
  (hgo : ∀ i H',Same H H' → i < xs.length → J.go i H') (hstop : ∀ H',Same H H' → J.stop xs.length H')
  (hk : ∀ a y Ha Hb,JO Ha Hb → P a y Ha → P a y Hb)
  (step : ∀ (i : Nat) a σ x H' H'',xs[i]? = some a → sh σ → Same H H' → J.yld i H' x H'' → ∀ (Rf : St → Hp → Prop) (Rt : St → V → Hp → Prop),
   (∀ σ2 H3,p a = false → sh σ2 → Same H' H3 → Rf σ2 H3) → (∀ σ2 y H4,p a = true → sh σ2 → Same H' H4 → P a y H4 → Rt σ2 y H4) →
   g x σ H'' fun σ2 H2 => tc σ2 H2 fun b H3 => if b = true then te σ2 H3 (fun y H4 => Rt σ2 y H4) else Rf σ2 H3)
  (hQ : ∀ D H' ys,H D = none → Same H H' → All2 P H' (xs.filter p) ys → H' D = some (.lst ys) → Q (.ref D) H') : J5d J H σ0 g tc te Q := by
 intro D hD
 refine ⟨fun i m σ1 ys H' => m = xs.length - i ∧ i ≤ xs.length ∧ sh σ1 ∧ All2 P H' ((xs.take i).filter p) ys ∧ H' D = some (.lst ys) ∧ Same H H',⟨xs.length,by simp,Nat.zero_le _,h0,trivial,J9,Jr hD _⟩,?_⟩
 rintro i m σ1 ys H' ⟨rfl,hi,hσ,hP,hDD,hs⟩
 by_cases hlt : i < xs.length
 ·refine .inr ⟨hgo i H' hs hlt,fun x H'' hy => ?_⟩
  have ha : xs[i]? = some xs[i] := List.getElem?_eq_getElem hlt
  have ht : xs.take (i + 1) = xs.take i ++ [xs[i]] := by rw [List.take_add_one,ha]; rfl
  refine step i xs[i] σ1 x H' H'' ha hσ hs hy _ _ (fun σ2 H3 hf sh2 s3 => ?_) (fun σ2 y H4 hf sh2 s4 py => ?_)
  ·refine ⟨xs.length - (i + 1),by omega,rfl,hlt,sh2,?_,s3 _ _ hDD,hs.trans s3⟩
   rw [ht,List.filter_append,List.filter_cons,hf]
   show All2 P H3 (List.filter p (xs.take i) ++ []) ys
   rw [List.append_nil]
   exact hP.imp fun a y => hk a y _ _ s3.keeps
  ·have hl := hP.len
   refine ⟨s4 _ _ hDD,?_,xs.length - (i + 1),by omega,rfl,hlt,sh2,?_,J9,(hs.trans s4).upd hD⟩
   ·have h1 := List.length_filter_le p (xs.take i)
    rw [List.length_take] at h1
    have : (1000001 : Nat) ≤ sizeLine := by decide
    omega
   ·rw [ht,List.filter_append,List.filter_cons,hf]
    have kk : JO H4 (upd H4 D (.lst (ys ++ [y]))) := JR (s4 _ _ hDD)
    exact All2.snoc (hP.imp fun a y => hk a y _ _ (s4.keeps.trans kk)) (hk _ _ _ _ kk py)
 ·have e : i = xs.length := by omega
  subst e
  refine .inl ⟨hstop H' hs,hQ D H' ys hD hs ?_ hDD⟩
  rw [List.take_of_length_le (Nat.le_refl _)] at hP
  exact hP
theorem J0b {α : Type} {J : It} {H : Hp} {σ0 : St} {g : TG} {tc : TT} {te : TE} {Q : VK} {vs : List V} (xs : List α) (p : α → Bool) (P : α → V → Hp → Prop) (sh : St → Prop) (hJ : J6X J H vs) (hv : vs.length = xs.length) (hx : xs.length ≤ 1000000) (h0 : sh σ0)
  (hk : ∀ a y Ha Hb,JO Ha Hb → P a y Ha → P a y Hb)
  (step : ∀ (i : Nat) a v σ H',xs[i]? = some a → vs[i]? = some v → sh σ → Same H H' → ∀ (Rf : St → Hp → Prop) (Rt : St → V → Hp → Prop),
   (∀ σ2 H3,p a = false → sh σ2 → Same H' H3 → Rf σ2 H3) → (∀ σ2 y H4,p a = true → sh σ2 → Same H' H4 → P a y H4 → Rt σ2 y H4) →
   g v σ H' fun σ2 H2 => tc σ2 H2 fun b H3 => if b = true then te σ2 H3 (fun y H4 => Rt σ2 y H4) else Rf σ2 H3)
  (hQ : ∀ D H' ys,H D = none → Same H H' → All2 P H' (xs.filter p) ys → H' D = some (.lst ys) → Q (.ref D) H') : J5d J H σ0 g tc te Q := by
 refine J7j xs p P sh hx h0 (fun i H' s hi => hJ.go i H' s (by omega)) (fun H' s => by rw [← hv]; exact hJ.stop H' s) hk (fun i a σ x H' H'' ha hσ s hy => ?_) hQ
 have hi : i < xs.length := (List.getElem?_eq_some_iff.mp ha).1
 obtain ⟨e,hx⟩ := hJ.yld i H' x H'' s (by omega) hy
 subst e
 exact step i a x σ H'' ha hx hσ s
theorem J7d {α : Type} {K : PySem.W.Frag} {l1 l2 : Addr} {H : Hp} {σ0 : St} {g : TG} {tc : TT} {te : TE} {Q : VK} {us vs : List V} (xs : List α) (p : α → Bool) (P : α → V → Hp → Prop) (sh : St → Prop) (hu : SqL K H l1 us) (hv : SqL K H l2 vs) (lu : us.length = xs.length) (lv : vs.length = xs.length) (hx : xs.length ≤ 1000000) (h0 : sh σ0)
  (hk : ∀ a y Ha Hb,JO Ha Hb → P a y Ha → P a y Hb)
  (step : ∀ (i : Nat) a u v q σ H',xs[i]? = some a → us[i]? = some u → vs[i]? = some v → sh σ → Same H H' → H' q = none → ∀ (Rf : St → Hp → Prop) (Rt : St → V → Hp → Prop),
   (∀ σ2 H3,p a = false → sh σ2 → Same H' H3 → Rf σ2 H3) → (∀ σ2 y H4,p a = true → sh σ2 → Same H' H4 → P a y H4 → Rt σ2 y H4) →
   g (.ref q) σ (upd H' q (.tup [u,v])) fun σ2 H2 => tc σ2 H2 fun b H3 => if b = true then te σ2 H3 (fun y H4 => Rt σ2 y H4) else Rf σ2 H3)
  (hQ : ∀ D H' ys,H D = none → Same H H' → All2 P H' (xs.filter p) ys → H' D = some (.lst ys) → Q (.ref D) H') : J5d (Izl K l1 l2) H σ0 g tc te Q := by
 refine J7j xs p P sh hx h0 (fun i H' s hi => ⟨us,vs,us[i],vs[i],s.seq hu,s.seq hv,by simp [lu,hi],by simp [lv,hi]⟩) (fun H' s => ⟨us,vs,s.seq hu,s.seq hv,.inl (by omega)⟩) hk (fun i a σ x H' H'' ha hσ s hy => ?_) hQ
 obtain ⟨q,u,v,hq,e1,e2,rfl,rfl⟩ := hy
 exact step i a u v q σ H' ha (e1 us (s.seq hu)) (e2 vs (s.seq hv)) hσ s hq
section
variable {X : Cx} {K : PySem.W.Frag}
theorem JbS {es : List Expr} {k : Nat} {t : TGs} {n : Nat} {pos : Pos} (hK : X.K = K) (hc : X.calm = true) (h : PGs X es t)
  (hn : (assignEach es X.env).length = n := by rfl) (hst : (assignEach es X.env).findIdx? (·.1) = none := by rfl) : PG X (.Tuple es k pos) (gTup K n t) := hK ▸ J2P hc h hn hst
end
end L2
set_option linter.all false
set_option maxRecDepth 100000
set_option maxHeartbeats 4000000
namespace L2
open PySem PySem.Spec PyProof.Rows
noncomputable def Iel (K : PySem.W.Frag) (l : Addr) : It :=
  ⟨fun i H => ∃ xs x,SqL K H l xs ∧ xs[i]? = some x,
   fun i H v H' => ∃ p x,H p = none ∧ (∀ xs,SqL K H l xs → xs[i]? = some x) ∧ v = .ref p ∧ H' = upd H p (.tup [.int i,x]),
   fun i H => ∃ xs,SqL K H l xs ∧ xs.length ≤ i⟩
theorem Jb3 {P : Program} {w : World} {K : PySem.W.Frag} {es : List Expr} {k : Nat} {pos : Pos} {z it l : Addr} (zi : z ≠ it) :
  Turn P w K (.Tuple es k pos) (Iel K l) [z,it] z (fun i h => (∃ old,IsEnum h z it (i : Int) old) ∧ h.IsListIter it l i) where
 mem := by simp
 obj := fun i h st b hb => by
  obtain ⟨⟨old,hz⟩,o1,e1,c1,d1⟩ := st
  simp only [List.mem_cons,List.not_mem_nil,or_false] at hb
  rcases hb with rfl | rfl
  ·exact ⟨_,hz,fun v q => by cases q⟩
  ·exact ⟨o1,e1,fun v q => by rw [d1] at q; cases q⟩
 keep := fun i h h' st kk => by
  obtain ⟨⟨old,hz⟩,o1,e1,r1⟩ := st
  exact ⟨⟨old,kk z (by simp) _ hz⟩,⟨o1,kk it (by simp) _ e1,r1⟩⟩
 item := by
  intro X hP hw hK hc i pins s σ H E I hf st hg
  subst hP hw hK
  obtain ⟨⟨old,hz⟩,h1⟩ := st
  obtain ⟨xs,x,hq1,hx⟩ := hg
  obtain ⟨ia,ra,pa,_⟩ := I.list hq1
  obtain ⟨u,hu,ru⟩ := ra.get hx
  refine wpAny_pyNext_enum_item hz h1 pa.isList (x := u) (by simpa using hu) zi fun h' a1 a2 a3 a4 kp => ?_
  refine ⟨_,rfl,?_⟩
  refine wpAny_letOwnedTupleGo_enum (s := { s with heap := h',toks := s.toks + 1 }) a1 fun h2' hz' hs' => ?_
  replace hs' : Heap.SameBut z h' h2' := hs'
  have zlt : z < s.heap.objs.size := Heap.lt_size hz
  have far : ∀ q ∈ [z,it],q < s.heap.objs.size := by
   intro q hq
   obtain ⟨o1,e1,_⟩ := h1
   simp only [List.mem_cons,List.not_mem_nil,or_false] at hq
   rcases hq with rfl | rfl
   ·exact zlt
   ·exact Heap.lt_size e1
  have fz := hf z (by simp)
  have f1 := hf it (by simp)
  have keepAll : ∀ b o,b ≠ z → b ≠ it → s.heap.get? b = some o → h2'.get? b = some o := fun b o b1 b2 e => hs'.extBut _ _ b1 (kp b o b1 b2 e)
  have hnew : H s.heap.objs.size = none := I.hok.fresh (Nat.le_refl _)
  have Tz : s.heap.objs.size ≠ z := Nat.ne_of_gt zlt
  have ht2 : h2'.get? s.heap.objs.size = some { cls := .type "tuple",data := .seq #[.int i s.toks,u] } := hs'.extBut _ _ Tz a3
  have I2 : Inv X pins σ (upd H s.heap.objs.size (.tup [.int i,x])) { s with heap := h2',toks := s.toks + 1 } := by
   have there : ∀ q ∈ [z,it],∃ o',h2'.get? q = some o' := by
    intro q hq
    obtain ⟨o1,e1,_⟩ := a2
    simp only [List.mem_cons,List.not_mem_nil,or_false] at hq
    rcases hq with rfl | rfl
    ·exact ⟨_,hz'⟩
    ·exact ⟨_,hs'.extBut _ _ zi.symm e1⟩
   have nch : ∀ b,b ∉ [z,it] → b ≠ z ∧ b ≠ it := fun b hb => by
    simp only [List.mem_cons,List.not_mem_nil,or_false,not_or] at hb
    exact hb
   have trk : ∀ b u',H b = some u' → b ≠ z ∧ b ≠ it := fun b u' e =>
    ⟨fun q => (by rw [q,fz.1] at e; cases e),fun q => (by rw [q,f1.1] at e; cases e)⟩
   have okH : HOk X.prog X.w (upd H s.heap.objs.size (.tup [.int i,x])) h2' := fun b u' e => by
    by_cases hb : b = s.heap.objs.size
    ·subst hb
     rw [J9] at e
     cases e
     exact ⟨(show 2 ≤ sizeLine by decide),[.int i s.toks,u],.cons ⟨_,rfl⟩ (.cons ru .nil),⟨_,ht2,rfl,_,rfl⟩⟩
    ·rw [Ji hb] at e
     have hx := I.hok b u' e
     refine hx.stay (fun q o hq e2 => ?_) (fun q e2 => ?_) (fun q xs e2 => ?_)
     ·rcases hq with rfl | hq
      ·obtain ⟨b1,b2⟩ := trk q _ e
       exact keepAll q o b1 b2 e2
      ·obtain ⟨b1,b2⟩ := trk q _ hq
       exact keepAll q o b1 b2 e2
     ·rw [Ji (Je e2 hnew)]; exact e2
     ·rw [Ji (Je e2 hnew)]; exact e2
   refine I.step (g' := s.gens) (d' := s.drawn) (ch := [z,it]) (fun b hb => ?_) (fun b o _ _ hcb e n => ?_) (fun b o _ _ hcb e n => ?_) (fun b o hcb e n => ?_) (fun b o hcb e => ?_) (fun b xs e => ?_) (fun b o u' e => ?_) (fun b ps e => ?_) (fun m hm => ?_) okH I.bare
   ·simp only [List.mem_cons,List.not_mem_nil,or_false] at hb
    rcases hb with rfl | rfl
    ·exact ⟨fz.2.2.2.1,fz.2.1,fz.2.2.2.2.1,fz.2.2.2.2.2⟩
    ·exact ⟨f1.2.2.2.1,f1.2.1,f1.2.2.2.2.1,f1.2.2.2.2.2⟩
   ·obtain ⟨b1,b2⟩ := nch b hcb
    exact keepAll b o b1 b2 e
   ·obtain ⟨b1,b2⟩ := nch b hcb
    exact ⟨o.slots,keepAll b o b1 b2 e⟩
   ·rw [Ji (Nat.ne_of_lt (Heap.lt_size e))]; exact n
   ·obtain ⟨b1,b2⟩ := nch b hcb
    exact ⟨o,keepAll b o b1 b2 e⟩
   ·rw [Ji (Je e hnew)]; exact e
   ·rw [Ji (Je e hnew)]; exact e
   ·exact ⟨#[],by rw [Ji (Je e hnew),e]; simp⟩
   ·obtain ⟨o,es',ep,ho,r⟩ := hm
    exact ⟨o,es',ep,keepAll _ o fz.2.1.symm f1.2.1.symm ho,r⟩
  refine ⟨.ref s.heap.objs.size,_,I2,rfl,⟨_,x,hnew,fun zs hz => by rw [I.list_inj hz hq1]; exact hx,rfl,rfl⟩,⟨⟨_,by rw [Int.natCast_add]; exact hz'⟩,?_⟩,fun b hb => ?_⟩
  ·obtain ⟨o,e,r⟩ := a2; exact ⟨o,hs'.extBut _ _ zi.symm e,r⟩
  ·rw [Ji (Nat.ne_of_lt (far b hb))]; exact (hf b hb).1
 done := by
  intro X hP hw hK hc i pins s σ H E I hf st hg
  subst hP hw hK
  obtain ⟨⟨old,hz⟩,h1⟩ := st
  obtain ⟨xs,hq1,hg⟩ := hg
  obtain ⟨ia,ra,pa,_⟩ := I.list hq1
  have la := ra.length
  obtain ⟨f0,f1,f2,f3,f4,f5⟩ := hf it (by simp)
  refine wpAny_pyNext_enum_end (I.ok.hd hc) hz h1 pa.isList (by simp; omega) fun h' eb => ⟨rfl,I.turned (t' := s.toks) (fun b o hb e => eb b o hb e) f0 f1 f3 f4 f5⟩
 self := fun _ _ _ _ _ st h => by
  obtain ⟨⟨old,hz⟩,_⟩ := st
  exact wpAny_pyIter_enum hz h
section
variable {X : Cx} {es : List Expr} {k : Nat} {tpos : Pos}
noncomputable def Je6 (K : PySem.W.Frag) (ta : TA) : TI := fun σ H R => ta σ H fun vs H1 => ∃ a,vs = [.ref a] ∧ (∃ xs,SqL K H1 a xs) ∧ R (Iel K a) H1
theorem Jdt {a : Expr} {ta : TA} {p pos : Pos} (hg : Gl X "enumerate") (hm : X.mg "enumerate" = none) (ha : PA X [a] ta) (hv : bootBuiltins "enumerate" = some (.type "enumerate") := by decide +kernel) (hs : starEach [a] X.env = [(false,eval a X.env)] := by rfl) :
  PI X (.Tuple es k tpos) (.Call (.Name "enumerate" p) [a] [] pos) (Je6 X.K ta) := by
 intro pins s σ H R I h
 refine Call_ (J4B I hg hm hv (PyProof.Rows.callWith_type1 (thn (ha pos pins s σ H _ I h) fun us s1 ⟨vs,H1,I1,r1,q1⟩ => ?_) (by rw [hs]; rfl) (by rfl)))
 obtain ⟨l1,e,⟨xs,hq1⟩,q⟩ := q1
 subst e
 obtain ⟨u,rfl,ru⟩ := r1.one
 cases ru
 obtain ⟨ia,ra,pa,_⟩ := I1.list hq1
 refine call_enumerate_list pa.isList fun h' a1 a2 a3 kp => ?_
 have I2 : Inv X pins σ H1 { s1 with heap := h' } := I1.kept (t' := s1.toks) kp
 refine wpAny_pyIter_enum a1 ⟨s1.heap.objs.size + 1,[s1.heap.objs.size + 1,s1.heap.objs.size],_,_,H1,rfl,I2,Jb3 (Nat.ne_of_gt (Nat.lt_succ_self _)),⟨⟨_,a1⟩,a2⟩,fun b hb => ?_,q⟩
 have hb' : s1.heap.objs.size ≤ b := by
  simp only [List.mem_cons,List.not_mem_nil,or_false] at hb
  rcases hb with rfl | rfl
  ·exact Nat.le_add_right _ _
  ·exact Nat.le_refl _
 exact I1.fpOk hb' (I1.hok.fresh hb')
theorem J4g {K : PySem.W.Frag} {a : Expr} {ta : TA} {p pos : Pos} (h : X.K = K) (hg : Gl X "enumerate") (hm : X.mg "enumerate" = none) (ha : PA X [a] ta) (hv : bootBuiltins "enumerate" = some (.type "enumerate") := by decide +kernel) (hs : starEach [a] X.env = [(false,eval a X.env)] := by rfl) :
  PI X (.Tuple es k tpos) (.Call (.Name "enumerate" p) [a] [] pos) (Je6 K ta) := h ▸ Jdt hg hm ha hv hs
end
theorem J5G {K : PySem.W.Frag} {a : Addr} {xs : List V} {g : TG} {tb : TS} {D : Ends} {σ : St} {H : Hp} (Pv : Nat → St → Hp → Prop) (h0 : Pv 0 σ H) (hl : ∀ i σ H,i ≤ xs.length → Pv i σ H → SqL K H a xs)
  (hs : ∀ i x p σ H,xs[i]? = some x → H p = none → Pv i σ H → g (.ref p) σ (upd H p (.tup [.int i,x])) fun σ2 H2 => tb { D with nx := Pv (i + 1),ct := Pv (i + 1),bk := D.nx } σ2 H2) (hd : ∀ σ H,Pv xs.length σ H → D.nx σ H) :
  ∃ W : Nat → Nat → St → Hp → Prop,(∃ m,W 0 m σ H) ∧ ∀ i m σ H,W i m σ H →
   ((Iel K a).stop i H ∧ D.nx σ H) ∨ ((Iel K a).go i H ∧ ∃ N : St → Hp → Prop,(∀ σ' H',N σ' H' → ∃ m',m' < m ∧ W (i + 1) m' σ' H') ∧ ∀ x H',(Iel K a).yld i H x H' → g x σ H' fun σ2 H2 => tb { D with nx := N,ct := N,bk := D.nx } σ2 H2) := by
 refine ⟨fun i m σ H => m = xs.length - i ∧ i ≤ xs.length ∧ Pv i σ H,⟨xs.length,by simp,Nat.zero_le _,h0⟩,?_⟩
 rintro i m σ H ⟨rfl,hi,p⟩
 have q := hl i σ H hi p
 by_cases hlt : i < xs.length
 ·refine .inr ⟨⟨xs,xs[i],q,by simp [hlt]⟩,Pv (i + 1),fun σ' H' p' => ⟨xs.length - (i + 1),by omega,rfl,hlt,p'⟩,fun x H' y => ?_⟩
  obtain ⟨r,u,hr,e1,rfl,rfl⟩ := y
  exact hs i u r σ H (e1 xs q) hr p
 ·have e : i = xs.length := by omega
  subst e
  exact .inl ⟨⟨xs,q,Nat.le_refl _⟩,hd σ H p⟩
theorem Jb9 {α : Type} {K : PySem.W.Frag} {l : Addr} {H : Hp} {σ0 : St} {g : TG} {tc : TT} {te : TE} {Q : VK} {vs : List V} (xs : List α) (p : α → Bool) (P : α → V → Hp → Prop) (sh : St → Prop) (hv : SqL K H l vs) (lv : vs.length = xs.length) (hx : xs.length ≤ 1000000) (h0 : sh σ0)
  (hk : ∀ a y Ha Hb,JO Ha Hb → P a y Ha → P a y Hb)
  (step : ∀ (i : Nat) a v q σ H',xs[i]? = some a → vs[i]? = some v → sh σ → Same H H' → H' q = none → ∀ (Rf : St → Hp → Prop) (Rt : St → V → Hp → Prop),
   (∀ σ2 H3,p a = false → sh σ2 → Same H' H3 → Rf σ2 H3) → (∀ σ2 y H4,p a = true → sh σ2 → Same H' H4 → P a y H4 → Rt σ2 y H4) →
   g (.ref q) σ (upd H' q (.tup [.int i,v])) fun σ2 H2 => tc σ2 H2 fun b H3 => if b = true then te σ2 H3 (fun y H4 => Rt σ2 y H4) else Rf σ2 H3)
  (hQ : ∀ D H' ys,H D = none → Same H H' → All2 P H' (xs.filter p) ys → H' D = some (.lst ys) → Q (.ref D) H') : J5d (Iel K l) H σ0 g tc te Q := by
 refine J7j xs p P sh hx h0 (fun i H' s hi => ⟨vs,vs[i],s.seq hv,by simp [lv,hi]⟩) (fun H' s => ⟨vs,s.seq hv,by omega⟩) hk (fun i a σ x H' H'' ha hσ s hy => ?_) hQ
 obtain ⟨q,v,hq,e1,rfl,rfl⟩ := hy
 exact step i a v q σ H' ha (e1 vs (s.seq hv)) hσ s hq
end L2
set_option linter.all false
set_option maxRecDepth 100000
set_option maxHeartbeats 4000000
namespace L2
open PySem PySem.Spec PyProof.Rows
theorem J5H : ∀ {xs : List V},xs.all J0j = true → eqVs xs xs = true
 | [],_ => rfl
 | x :: xs,h => by
  rw [List.all_cons,Bool.and_eq_true] at h
  rw [eqVs,J5H h.2,Bool.and_true]
  cases x <;> first | rfl | exact beq_self_eq_true _ | exact absurd h.1 Bool.false_ne_true
theorem Jds (xs ys : List V) : ((List.range (min xs.length ys.length)).all (fun j => eqV (xs.getD j .non) (ys.getD j .non)) && xs.length == ys.length) = eqVs xs ys := by
 by_cases h : xs.length = ys.length
 ·rw [beq_iff_eq.mpr h,Bool.and_true,h,Nat.min_self,← h,J4z h]
 ·rw [beq_eq_false_iff_ne.mpr h,Bool.and_false,J75 h]
noncomputable def TpAt (K : PySem.W.Frag) : List V → V → Hp → Prop := fun xs v H => ∃ p,v = .ref p ∧ SqT K H p xs ∧ xs.all J0j = true
section
variable {X : Cx} {K : PySem.W.Frag} {pins : List (Addr × Obj)} {s : Shared} {σ : St} {H : Hp} {A : Around}
theorem JdX {p r : Addr} {xs ys : List V} (I : Inv X pins σ H s) (hp : SqT X.K H p xs) (hr : SqT X.K H r ys) (fx : xs.all J0j = true) (fy : ys.all J0j = true) (hu : A.units < cLine) : SeqAt.RcAt A s (.ref p) (.ref r) (eqVs xs ys) := by
 obtain ⟨ia,ra,pa,za⟩ := I.tuple hp
 obtain ⟨ib,rb,pb,zb⟩ := I.tuple hr
 have h := SeqAt.RcAt.tuples (A := A) (e := fun j => eqV (xs.getD j .non) (ys.getD j .non)) (show s.heap.IsTuple p ia.toArray from pa) (show s.heap.IsTuple r ib.toArray from pb) hu (Jac ra rb fx fy)
 rw [List.size_toArray,List.size_toArray,← ra.length,← rb.length,Jds] at h
 exact h
theorem Ja1 {p r : Addr} {xs ys : List V} (I : Inv X pins σ H s) (hp : SqT X.K H p xs) (hr : SqT X.K H r ys) (fx : xs.all J0j = true) (fy : ys.all J0j = true) (hu : A.units < cLine) : SeqAt.EqAt A s (.ref p) (.ref r) (eqVs xs ys) := by
 by_cases h : p = r
 ·subst h
  rw [I.tuple_inj hr hp,J5H fx]
  exact SeqAt.EqAt.same _
 ·exact SeqAt.EqAt.of_refs h (JdX I hp hr fx fy hu)
noncomputable def rInT (K : PySem.W.Frag) (neg : Bool) : R2 := fun x y H Q => ∃ p l xs yss vs,x = .ref p ∧ y = .ref l ∧ SqT K H p xs ∧ xs.all J0j = true ∧ SqL K H l vs ∧ All2 (TpAt K) H yss vs ∧ Q (.bl (if neg then !(yss.any fun ys => eqVs ys xs) else yss.any fun ys => eqVs ys xs)) H
open Classical in
noncomputable def inE (K : PySem.W.Frag) (H : Hp) (xs : List V) (u : Value) : Bool := decide (∃ p ys,u = Value.ref p ∧ SqT K H p ys ∧ eqVs ys xs = true)
open Classical in
theorem Jdq {p : Addr} {xs ys : List V} (I : Inv X pins σ H s) (hp : SqT X.K H p ys) : inE X.K H xs (.ref p) = eqVs ys xs := by
 unfold inE
 cases e : eqVs ys xs with
 | true => exact decide_eq_true ⟨p,ys,rfl,hp,e⟩
 | false =>
  refine decide_eq_false ?_
  rintro ⟨r,zs,h1,h2,h3⟩
  cases h1
  rw [I.tuple_inj h2 hp,e] at h3
  cases h3
theorem JbE {xs : List V} (I : Inv X pins σ H s) : ∀ {yss : List (List V)} {vs : List V} {us : List Value},All2 (TpAt X.K) H yss vs → Vals vs us → us.any (inE X.K H xs) = yss.any fun ys => eqVs ys xs
 | [],[],_,_,.nil => rfl
 | ys :: yss,v :: vs,_,h,.cons r t => by
  obtain ⟨⟨p,rfl,hp,_⟩,h2⟩ := h
  cases r
  rw [List.any_cons,List.any_cons,JbE I h2 t,Jdq I hp]
 | [],_ :: _,_,h,_ => h.elim
 | _ :: _,[],_,h,_ => h.elim
theorem Jby {q : Addr} {xs : List V} (I : Inv X pins σ H s) (hq : SqT X.K H q xs) (fx : xs.all J0j = true) (hu : A.units < cLine) : ∀ {yss : List (List V)} {vs : List V} {us : List Value},All2 (TpAt X.K) H yss vs → Vals vs us → ∀ u ∈ us,SeqAt.EqAt A s u (.ref q) (inE X.K H xs u)
 | [],[],_,_,.nil => fun u hu => by cases hu
 | ys :: yss,v :: vs,_,h,.cons r t => fun u hm => by
  obtain ⟨⟨p,rfl,hp,fy⟩,h2⟩ := h
  cases r
  rcases List.mem_cons.mp hm with rfl | hm
  ·rw [Jdq I hp]
   exact Ja1 I hp hq fy fx hu
  ·exact Jby I hq fx hu h2 t u hm
 | [],_ :: _,_,h,_ => h.elim
 | _ :: _,[],_,h,_ => h.elim
theorem Jfy (h : X.K = K) (hu : X.A.units + 1 < cLine) : OpR X (compareOp .In) (rInT K false) := by
 subst h
 intro pins s σ H x y v u Q I rx ry h
 obtain ⟨p,l,xs,yss,vs,rfl,rfl,hp,fx,hl,ha,q⟩ := h
 cases rx; cases ry
 obtain ⟨its,r,pl,hz⟩ := I.list hl
 refine SeqAt.in_listAt (inE X.K H xs) pl.isList (fun w hw => Jby (A := X.A.in1) I hp fx hu ha r w (by simpa using hw)) ⟨.bl _,H,I,rfl,?_⟩
 rw [show its.toArray.any (inE X.K H xs) = its.any (inE X.K H xs) by simp,JbE I ha r]
 exact q
noncomputable def rEqE (K : PySem.W.Frag) (neg : Bool) : R2 := fun x y H Q => ∃ p r xs,x = .ref p ∧ y = .ref r ∧ SqL K H p xs ∧ SqL K H r [] ∧ Q (.bl (if neg then !xs.isEmpty else xs.isEmpty)) H
theorem JfV (h : X.K = K) (hu : X.A.units < cLine) : OpR X (compareOp .NotEq) (rEqE K true) := by
 subst h
 intro pins s σ H x y v u Q I rx ry h
 obtain ⟨p,r,xs,rfl,rfl,hp,hr,q⟩ := h
 cases xs with
 | nil => exact JfN rfl hu pins s σ H _ _ v u Q I rx ry ⟨p,r,[],[],rfl,rfl,hp,hr,rfl,rfl,q⟩
 | cons a t =>
  cases rx; cases ry
  obtain ⟨ia,ra,pa,za⟩ := I.list hp
  obtain ⟨ib,rb,pb,zb⟩ := I.list hr
  have la := ra.length
  have lb := rb.length
  rw [List.length_cons] at la
  rw [List.length_nil] at lb
  exact SeqAt.RcNeAt.lists_lengths pa.isList pb.isList (by simp; omega) hu _ _ _ _ ⟨.bl true,H,I,rfl,q⟩
end
end L2
set_option linter.all false
set_option maxRecDepth 100000
set_option maxHeartbeats 4000000
namespace L2
open PySem PySem.Spec PyProof.Rows
@[irreducible] def tCut (t : TS) : TS := fun D σ H => ∃ R : St → Hp → Prop,t { D with nx := R } σ H ∧ ∀ σ' H',R σ' H' → D.nx σ' H'
theorem tCut.mk {t : TS} {D : Ends} {σ : St} {H : Hp} (R : St → Hp → Prop) (h : t { D with nx := R } σ H) (h' : ∀ σ' H',R σ' H' → D.nx σ' H') : tCut t D σ H := by unfold tCut; exact ⟨R,h,h'⟩
section
variable {X : Cx} {K : PySem.W.Frag}
theorem J2z {st : Stmt} {t : TS} (h : PS X st t) : PS X st (tCut t) := by
 intro pins s σ H D I q
 unfold tCut at q
 obtain ⟨R,h1,h2⟩ := q
 refine thn (h pins s σ H _ I h1) fun f s' z => ?_
 cases f with
 | next => obtain ⟨σ',H',I',r⟩ := z; exact ⟨σ',H',I',h2 σ' H' r⟩
 | brk => exact z
 | cont => exact z
 | ret u => exact z
theorem J8V {M : Model} {A : Around} {E : Value → Shared → Prop} {s : Shared} {a b : Value} {Q : Value → Shared → Prop} (ha : s.TypeIs a "list") (hb : s.TypeIs b "list") (hc : wpAny M A (call (.builtin "list.__iadd__") [a,b]) Q E s) : wpAny M A (inplaceOp .Add a b) Q E s := by
 unfold inplaceOp
 refine wpAny_holding ?_
 have hl : typeLookup (.type "list") (dunderI "add") = pure (some (.builtin "list.__iadd__")) := F.slot_list_iadd.lookup
 have hfi : fillsInplaceSlot (.type "list") "add" (Operator.Add == .Add) = pure false := by
  unfold fillsInplaceSlot
  show (typeLookup (.type "list") (dunderI "add") >>= fun fi => pure (fi.isSome && !isSeqSlot fi)) = pure false
  rw [hl]; rfl
 have hsi : seqSlot? (.type "list") (dunderI "add") = pure (some (.builtin "list.__iadd__")) := by
  unfold seqSlot?
  rw [hl]; rfl
 refine wpAny_bind (wpAny_typeOf ha (wpAny_bind (wpAny_of_eq hfi ?_)))
 show wpAny M A (if false = true then _ else _) Q E s
 rw [if_neg Bool.false_ne_true]
 refine wpAny_bind (binaryOp1_none (nm := "add") ha hb noFill_list_add ?_)
 refine wpAny_bind (wpAny_of_eq hsi ?_)
 exact wpAny_bind (wpAny_rule hc)
noncomputable def ipL : TIp := fun x y H Q => ∃ l b xs zs,x = .ref l ∧ y = .ref b ∧ H l = some (.lst xs) ∧ H b = some (.lst zs) ∧ xs.length + zs.length ≤ sizeLine ∧ Q (.ref l) (upd H l (.lst (xs ++ zs)))
theorem J3G : PIp X .Add ipL := by
 intro pins s σ H x y v u Q I rx ry h
 obtain ⟨l,b,xs,zs,rfl,rfl,hH,hB,hz,q⟩ := h
 cases rx
 cases ry
 obtain ⟨z,its,n,r,hl,e⟩ := I.lstM hH
 obtain ⟨z2,its2,n2,r2,hl2,e2⟩ := I.lstM hB
 have hsz : its.toArray.size + its2.toArray.size ≤ sizeLine := by rw [List.size_toArray,List.size_toArray]; omega
 have hlong : ¬ (!its.toArray.isEmpty && Builtin.List.listTooLong (its.toArray.size + its2.toArray.size)) = true := by
  rw [Jd1 hsz,Bool.and_false]
  exact Bool.false_ne_true
 refine J8V ⟨_,e,rfl⟩ ⟨_,e2,rfl⟩ ?_
 refine call_meets F.slot_list_iadd ⟨_,e,rfl⟩ F.entry_list_iadd (F.args_list_iadd_2 _ _)
  (AutoSeq1.list___iadd___list_list_0 l its.toArray n b its2.toArray n2 hlong (by rw [List.size_toArray]; omega) (by omega)) ⟨e,e2,?_⟩
 refine ⟨.ref l,_,I.lset (its' := its ++ its2) hH e (by simp) (r.append r2) ?_,rfl,q⟩
 rw [List.length_append]
 omega
end
end L2
namespace L2
open PySem PySem.Spec PyProof.Rows
section
variable {α β : Type} {H : Hp}
theorem All2.mapL {P : β → V → Hp → Prop} {f : α → β} : ∀ {as : List α} {ys : List V},All2 (fun a y H => P (f a) y H) H as ys → All2 P H (as.map f) ys
 | [],[],_ => trivial
 | _ :: _,_ :: _,h => ⟨h.1,All2.mapL h.2⟩
 | [],_ :: _,h => h.elim
 | _ :: _,[],h => h.elim
theorem All2.app {P : α → V → Hp → Prop} : ∀ {as bs : List α} {ys zs : List V},All2 P H as ys → All2 P H bs zs → All2 P H (as ++ bs) (ys ++ zs)
 | [],_,[],_,_,h => h
 | _ :: _,_,_ :: _,_,h,g => ⟨h.1,All2.app h.2 g⟩
 | [],_,_ :: _,_,h,_ => h.elim
 | _ :: _,_,[],_,h,_ => h.elim
end
end L2
set_option linter.all false
set_option maxRecDepth 100000
set_option maxHeartbeats 4000000
namespace L2
open PySem PySem.Spec PyProof.Rows
section
variable {X : Cx} {pins : List (Addr × Obj)} {σ : St} {H : Hp} {s : Shared} {E : XK} {Ex : Value → Shared → Prop}
end
end L2
set_option linter.all false
set_option maxRecDepth 100000
set_option maxHeartbeats 4000000
namespace L2
open PySem PySem.Spec PyProof.Rows
section
variable {P : Program} {w : World} {K : PySem.W.Frag} {mg : Str → Option Value} {base : Heap}
end
section
variable {X : Cx} {x m : Str} {k : Nat} {ps : List Str} {sp : Sp} {C : Addr} {p pos apos : Pos} {e o : Expr} {es : List Expr} {t : TA} {to : TE} {E : XK}
end
end L2
set_option linter.all false
set_option maxRecDepth 100000
set_option maxHeartbeats 4000000
namespace L2
open PySem PySem.Spec PyProof.Rows
section
variable {prog : Program} {w : World} {A : Around} {E : Value → Shared → Prop} {K : PySem.W.Frag} {x C : Addr} {h : Heap} {g : Array GenState} {d : Drawn} {t : Nat} {os : OsState} {o : Obj}
end
end L2
set_option linter.all false
set_option maxRecDepth 100000
set_option maxHeartbeats 4000000
namespace L2
open PySem PySem.Spec PyProof.Rows
section
variable {X : Cx} {pins : List (Addr × Obj)} {σ : St} {H : Hp} {s : Shared}
end
section
variable {X : Cx} {x m : Str} {k : Nat} {ps : List Str} {sp : Sp} {C : Addr} {p pos apos : Pos} {e o : Expr} {es : List Expr} {t : TA} {to : TE}
end
section
variable {X : Cx}
end
end L2
set_option linter.all false
set_option maxRecDepth 100000
set_option maxHeartbeats 4000000
namespace L2
open PySem PySem.Spec PyProof.Rows
section
variable {X : Cx} {K : PySem.W.Frag}
end
end L2
set_option linter.all false
set_option maxRecDepth 100000
set_option maxHeartbeats 4000000
namespace L2
open PySem PySem.Spec PyProof.Rows
section
variable {X : Cx} {K : PySem.W.Frag} {pins : List (Addr × Obj)} {σ : St} {H : Hp} {s : Shared} {A : Around}
inductive Jbw (K : PySem.W.Frag) (H : Hp) : V → V → Prop
 | refs (p : Addr) : Jbw K H (.ref p) (.ref p)
 | tups {p r : Addr} {zs ws : List V} (h1 : SqT K H p zs) (h2 : SqT K H r ws) (f1 : zs.all J0j = true) (f2 : ws.all J0j = true) (e : eqVs zs ws = true) : Jbw K H (.ref p) (.ref r)
noncomputable def J40 (K : PySem.W.Frag) (H : Hp) (xs ys : List V) : Prop := xs.length = ys.length ∧ ∀ (j : Nat) (x y : V),xs[j]? = some x → ys[j]? = some y → Jbw K H x y
theorem Jbq {x y : V} {u v : Value} (I : Inv X pins σ H s) (h : Jbw X.K H x y) (r1 : RelV x u) (r2 : RelV y v) (hu : A.units < cLine) : SeqAt.EqAt A s u v true := by
 cases h with
 | refs p => cases r1; cases r2; exact SeqAt.EqAt.same _
 | @tups p r zs ws h1 h2 f1 f2 e =>
  cases r1; cases r2
  have q := Ja1 (A := A) I h1 h2 f1 f2 hu
  rw [e] at q
  exact q
theorem J7T {xs ys : List V} {ia ib : List Value} (I : Inv X pins σ H s) (h : J40 X.K H xs ys) (ra : Vals xs ia) (rb : Vals ys ib) (hu : A.units < cLine) :
  ∀ j (h1 : j < ia.toArray.size) (h2 : j < ib.toArray.size),SeqAt.EqAt A s ia.toArray[j] ib.toArray[j] true := by
 intro j h1 h2
 have la := ra.length
 have lb := rb.length
 have g1 : j < ia.length := by simpa using h1
 have g2 : j < ib.length := by simpa using h2
 have k1 := ra.rel j (by omega) g1
 have k2 := rb.rel j (by omega) g2
 have q := Jbq (A := A) I (h.2 j _ _ (List.getElem?_eq_getElem (by omega)) (List.getElem?_eq_getElem (by omega))) k1 k2 hu
 simpa using q
noncomputable def rAl (K : PySem.W.Frag) (neg : Bool) : R2 := fun x y H Q => ∃ p r xs ys,x = .ref p ∧ y = .ref r ∧ SqL K H p xs ∧ SqL K H r ys ∧ J40 K H xs ys ∧ Q (.bl (!neg)) H
theorem J9X (n : Nat) : (List.range n).all (fun _ => true) = true := List.all_eq_true.mpr fun _ _ => rfl
theorem JeG (h : X.K = K) (hu : X.A.units + 1 < cLine) : OpR X (compareOp .Eq) (rAl K false) := by
 subst h
 intro pins s σ H x y v u Q I rx ry h
 obtain ⟨p,r,xs,ys,rfl,rfl,hp,hr,hal,q⟩ := h
 cases rx; cases ry
 obtain ⟨ia,ra,pa,za⟩ := I.list hp
 obtain ⟨ib,rb,pb,zb⟩ := I.list hr
 have la := ra.length
 have lb := rb.length
 have := hal.1
 refine SeqAt.eq_listAt (e := fun _ => true) pa.isList pb.isList (by simp; omega) (Nat.lt_of_succ_lt hu) (J7T I hal ra rb (by first | exact hu | exact Nat.lt_of_succ_lt hu)) ⟨.bl _,H,I,rfl,?_⟩
 rw [J9X]
 exact q
theorem J59 (h : X.K = K) (hu : X.A.units + 1 < cLine) : OpR X (compareOp .NotEq) (rAl K true) := by
 subst h
 intro pins s σ H x y v u Q I rx ry h
 obtain ⟨p,r,xs,ys,rfl,rfl,hp,hr,hal,q⟩ := h
 cases rx; cases ry
 obtain ⟨ia,ra,pa,za⟩ := I.list hp
 obtain ⟨ib,rb,pb,zb⟩ := I.list hr
 have la := ra.length
 have lb := rb.length
 have := hal.1
 refine SeqAt.RcNeAt.lists (e := fun _ => true) pa.isList pb.isList (by simp; omega) (Nat.lt_of_succ_lt hu) (J7T I hal ra rb (by first | exact hu | exact Nat.lt_of_succ_lt hu)) _ _ _ _ ⟨.bl _,H,I,rfl,?_⟩
 rw [J9X]
 exact q
theorem J40.same (K : PySem.W.Frag) (H : Hp) (xs : List V) (h : ∀ x ∈ xs,∃ p,x = .ref p) : J40 K H xs xs := ⟨rfl,fun j x y h1 h2 => by
 rw [h1] at h2
 cases h2
 obtain ⟨p,rfl⟩ := h x (List.mem_of_getElem? h1)
 exact .refs p⟩
end
end L2
set_option linter.all false
set_option maxRecDepth 100000
set_option maxHeartbeats 4000000
namespace L2
open PySem PySem.Spec PyProof.Rows
section
variable {X : Cx} {K : PySem.W.Frag} {pins : List (Addr × Obj)} {σ : St} {H : Hp} {s : Shared} {A : Around}
theorem J97 (h : X.K = K) : OpR X (compareOp .In) (rIn K false) := h ▸ Jch
end
end L2
set_option linter.all false
set_option maxRecDepth 100000
set_option maxHeartbeats 4000000
namespace L2
open PySem PySem.Spec PyProof.Rows
section
variable {X : Cx} {K : PySem.W.Frag}
end
end L2
set_option linter.all false
set_option maxRecDepth 100000
set_option maxHeartbeats 4000000
namespace L2
open PySem PySem.Spec PyProof.Rows
section
variable {κ : Type} [DecidableEq κ]
end
section
variable {p : Program} {w : World} {A : Around} {R : Result → Shared → Prop} {it : Addr} {fp wr : List Addr} {gs : Array GenState → Array GenState → Prop} {n : Nat} {Pv : Nat → Value → Prop} {St : Nat → Shared → Prop}
end
section
variable {p : Program} {w : World} {A : Around} {E : Value → Shared → Prop} {s : Shared}
end
section
variable {X : Cx}
end
end L2
set_option linter.all false
set_option maxRecDepth 100000
namespace L2
open PySem PySem.Spec PyProof.Rows
section
variable {X : Cx}
theorem JdF {x : Str} {n : Int} {pos : Pos} (hg : Gl X x) (hm : ∃ t,X.mg x = some (.int n t)) (hd : (x == ("__debug__" : Str)) = false := by decide) : PE X (.Name x pos) (tC (.int n)) := by
 obtain ⟨t,hm⟩ := hm
 exact J5a hg hm ⟨t,rfl⟩ hd
end
end L2
set_option linter.all false
set_option maxRecDepth 100000
set_option maxHeartbeats 4000000
namespace L2
open PySem PySem.Spec PyProof.Rows
section
variable {X : Cx}
theorem Jfx (a b : List Nat) : eqV (T a) (T b) = decide (a = b) := by
 by_cases h : a = b
 ·subst h
  rw [decide_eq_true rfl]
  exact decide_eq_true rfl
 ·rw [decide_eq_false h]
  exact decide_eq_false fun z => h (J2p (congrArg V.str z))
end
end L2
set_option linter.all false
set_option maxRecDepth 100000
set_option maxHeartbeats 4000000
namespace L2
open PySem PySem.Spec PyProof.Rows
section
variable {X : Cx} {K : PySem.W.Frag} {pins : List (Addr × Obj)} {σ : St} {H : Hp} {s : Shared} {A : Around}
end
end L2
namespace L2
open PySem
end L2
set_option linter.all false
set_option maxRecDepth 100000
set_option maxHeartbeats 4000000
namespace L2
open PySem PySem.Spec PyProof.Rows
theorem Jam : ∀ (n : Nat) (us : List Value),us.length = n → (∀ (j : Nat) (v : Value),us[j]? = some v → ∃ t,v = .int (j : Int) t) → ∀ k,k ≤ n → Vals ((List.range k).map fun (i : Nat) => V.int (i : Int)) (us.take k)
 | n,us,hl,h,0,_ => by
  rw [List.take_zero]
  exact .nil
 | n,us,hl,h,k + 1,hk => by
  have ih := Jam n us hl h k (by omega)
  have hkl : k < us.length := by omega
  obtain ⟨t,e⟩ := h k us[k] (List.getElem?_eq_getElem hkl)
  rw [List.range_succ,List.map_append,List.take_add_one,List.getElem?_eq_getElem hkl,e]
  exact ih.append (.cons ⟨t,rfl⟩ .nil)
section
variable {X : Cx}
theorem Jab : J2R X (.type "range") (fun xs H Q => ∃ j : Int,xs = [.int j] ∧ ∀ p,H p = none → Q (.ref p) (upd H p (.rng 0 j))) := by
 intro pins s σ H xs us Q I r h
 obtain ⟨j,rfl,q⟩ := h
 obtain ⟨u,rfl,t,rfl⟩ := Jad r
 have hf : H s.heap.objs.size = none := I.hok.fresh (Nat.le_refl _)
 refine call_range_1 ⟨.ref _,upd H s.heap.objs.size (.rng 0 j),I.laid (fun b u e => Heap.get?_push_of_some _ e) (Nat.le_refl _) ?_,rfl,q _ hf⟩
 exact ⟨_,_,_,Heap.get?_push_size _ rfl⟩
theorem Jbb (hc : X.calm = true) : J2R X (.type "list") (fun xs H Q => ∃ (p : Addr) (j : Int),xs = [.ref p] ∧ H p = some (.rng 0 j) ∧ 0 ≤ j ∧ j ≤ 1000 ∧ ∀ l,H l = none → Q (.ref l) (upd H l (.lst ((List.range j.toNat).map fun (i : Nat) => V.int (i : Int))))) := by
 intro pins s σ H xs us Q I r h
 obtain ⟨p,j,rfl,hp,j0,j1,q⟩ := h
 obtain ⟨u,rfl,rx⟩ := Jad r
 cases rx
 obtain ⟨t,u,v,e⟩ := I.hok p _ hp
 have hf : H s.heap.objs.size = none := I.hok.fresh (Nat.le_refl _)
 refine call_list_range (n := j.toNat) (I.ok.hd hc) e (small_one (by decide) (by decide) (by omega) (by omega)) ?_ ?_ fun h' tk acc' c' hk hS hacc => ?_
 ·rw [rangeSize_one]
  split <;> omega
 ·have : (1000 : Nat) ≤ 2 ^ 24 := by decide
  omega
 ·refine ⟨.ref _,upd H s.heap.objs.size (.lst _),I.laid hk (Nat.le_refl _) ⟨?_,acc'.toList,c',?_,?_⟩,rfl,q _ hf⟩
  ·rw [List.length_map,List.length_range]
   have : (1000 : Nat) ≤ sizeLine := by decide
   omega
  ·have k := Jam j.toNat acc'.toList (by rw [Array.length_toList]; exact hacc.1) (fun i v hv => by
    rw [Array.getElem?_toList] at hv
    obtain ⟨t,et⟩ := hacc.2 i v hv
    exact ⟨t,by rw [et]; congr 1; omega⟩) j.toNat (Nat.le_refl _)
   rw [List.take_of_length_le (by rw [Array.length_toList,hacc.1]; exact Nat.le_refl _)] at k
   exact k
  ·rw [hS]
theorem Jap : bootBuiltins "range" = some (.type "range") := by decide +kernel
end
end L2
set_option linter.all false
set_option maxRecDepth 100000
set_option maxHeartbeats 4000000
namespace L2
open PySem PySem.Spec PyProof.Rows
section
variable {X : Cx} {K : PySem.W.Frag}
noncomputable def JeU (K : PySem.W.Frag) : R2 := fun x y H Q => ∃ a b xs ys,x = .ref a ∧ y = .ref b ∧ SqT K H a xs ∧ SqT K H b ys ∧ xs.length + ys.length ≤ sizeLine ∧
 (xs = [] → Q (.ref b) H) ∧ (xs ≠ [] → ys = [] → Q (.ref a) H) ∧ (xs ≠ [] → ys ≠ [] → ∀ p,H p = none → Q (.ref p) (upd H p (.tup (xs ++ ys))))
theorem JdU {prog : Program} {w : World} {A : Around} {E : Value → Shared → Prop} {s : Shared} {t b : Addr} {ws : List Value} {Q : Value → Shared → Prop} (ht : IsTup s.heap t #[]) (hb : IsTup s.heap b ws.toArray) (h : Q (.ref b) s) : wpAny (model prog w) A (binaryOp .Add (.ref t) (.ref b)) Q E s := by
 obtain ⟨⟨cls,dd,data,sl⟩,ho,hc,n,hd⟩ := id ht
 obtain ⟨⟨cls2,dd2,data2,sl2⟩,ho2,hc2,n2,hd2⟩ := id hb
 simp only at hc hd hc2 hd2
 subst hc hd hc2 hd2
 exact concat_meets ⟨_,ho,rfl⟩ ⟨_,ho2,rfl⟩ noFill_tuple_add seq_tuple_add PySem.F.slot_tuple_add PySem.F.entry_tuple_add (PySem.F.args_tuple_add_2 _ _)
  (tuple_addW0 t b #[] ws.toArray n n2 dd dd2 sl sl2 rfl) ⟨ho,ho2,h⟩
theorem JbL (hK : X.K = K) : OpR X (binaryOp .Add) (JeU K) := by
 subst hK
 intro pins s σ H x y v u Q I rx ry h
 obtain ⟨a,b,xs,ys,rfl,rfl,ha,hb,hz,q0,q1,q2⟩ := h
 by_cases hx : xs = []
 ·cases rx
  cases ry
  obtain ⟨its,r1,p1,_⟩ := I.tuple ha
  obtain ⟨its2,r2,p2,_⟩ := I.tuple hb
  have e : its = [] := r1.nil_iff.mpr hx
  subst e
  exact JdU p1 p2 ⟨.ref b,H,I,rfl,q0 hx⟩
 ·exact JeH pins s σ H _ _ v u Q I rx ry ⟨a,b,xs,ys,rfl,rfl,ha,hb,hx,hz,q1 hx,q2 hx⟩
end
end L2
set_option linter.all false
set_option maxRecDepth 100000
namespace L2
open PySem PySem.Spec PyProof.Rows
end L2
namespace L2
open PySem PySem.Spec PyProof.Rows
section
variable (P : Program) (w : World)
end
section
variable {P : Program} {w : World} {H H' : Hp} {h h' : Heap} {a : Addr} {o : HO}
end
section
variable {P : Program} {w : World} {H : Hp} {h h' : Heap} {x e : Addr} {o' : HO}
end
section
variable {fs fs' ex ex' : List Addr} {H H1 H2 : Hp} {h h1 h2 h' : Heap} {a x e : Addr} {o : HO}
end
end L2
namespace L2
open PySem PySem.Spec PyProof.Rows
section
variable {X : Cx} {pins : List (Addr × Obj)} {σ : List (Option V)} {H H' : Hp} {s : Shared} {h' : Heap}
end
end L2
namespace L2
open PySem PySem.Spec PyProof.Rows
section
variable {X : Cx}
variable {a b : Expr} {ta tb : TE} {pos : Pos}
variable {tA tB' : TT} {rest : List Expr}
end
end L2
namespace L2
open PySem PySem.Spec PyProof.Rows
section
variable {X : Cx} {pins : List (Addr × Obj)} {σ : St} {H : Hp} {s : Shared} {a : Addr} {xs ys : List V}
end
section
variable {X : Cx} {pins : List (Addr × Obj)} {σ : St} {H : Hp} {s : Shared} {E : Value → Shared → Prop}
end
section
variable {X : Cx} {st : Stmt} {rest : List Stmt} {t u : TS} {e : Expr} {te : TE} {pos : Pos}
end
section
variable {X : Cx} {pos : Pos}
end
section
variable {X : Cx} {pos : Pos}
end
end L2
namespace L2
open PySem PySem.Spec PyProof.Rows
section
variable {X : Cx} {tg : Expr}
end
end L2
namespace L2
open PySem PySem.Spec PyProof.Rows
section
variable {X : Cx} {a b c : Expr} {ta tb tc : TE} {pos : Pos}
end
section
variable {X : Cx} {a b c : Expr} {ta tb tc : TE} {pos : Pos}
end
end L2
namespace L2
open PySem PySem.Spec PyProof.Rows
section
variable {prog : Program} {w : World} {A : Around} {E : Value → Shared → Prop} {s : Shared} {K : PySem.W.Frag} {x dx C f : Addr} {mA : Str → Option Value} {name : Str} {v : Value}
end
section
variable {P : Program} {w : World} {H H' : Hp} {h h' : Heap} {a C dx : Addr} {fs fs' : List (Str × V)}
end
section
variable {X : Cx} {pins : List (Addr × Obj)} {σ : St} {H : Hp} {s : Shared} {a C dx : Addr} {fs : List (Str × V)} {f : Str} {v : V} {A : Around} {E : Value → Shared → Prop}
end
section
variable {X : Cx} {o e value : Expr} {f : Str} {pos pos' tpos : Pos} {ta tv : TE}
end
section
variable {X : Cx} {pins : List (Addr × Obj)} {σ : St} {H : Hp} {s : Shared} {A : Around} {E : Value → Shared → Prop} {Q : Value → Shared → Prop} {c : Value} {b : Bool}
end
end L2
namespace L2
open PySem PySem.Spec PyProof.Rows
section
variable {X : Cx} {e : Expr} {es : List Expr} {te : TE} {t : TA} {pos : Pos}
end
section
variable {X : Cx} {pins : List (Addr × Obj)} {σ : St} {H : Hp} {s s' : Shared}
end
section
variable {X : Cx} {CX : CXT} {k : Nat} {f C : Addr} {fd : FuncData} {ps : List Str} {sp : Sp} {dvs : List V} {ds : List Value} {E : XK} {x m : Str} {p pos apos : Pos} {e o : Expr} {es : List Expr} {ta : TE} {t : TA}
end
section
variable {X : Cx} {CX : CXT} {k : Nat} {f C : Addr} {fd : FuncData} {ps ks : List Str} {sp : Sp} {E : XK} {x m : Str} {p pos apos kpos : Pos} {e o : Expr} {es : List Expr} {kws : List Keyword} {te ta : TE} {t tk : TA} {nm : Option Str}
variable {g : List Value → List Value → List Value} {gV : List V → List V → List V}
end
end L2
namespace L2
open PySem PySem.Spec PyProof.Rows
section
variable {X : Cx} {x : Str} {p pos : Pos} {e : Expr} {es : List Expr} {t : TA} {id T : String} {r : List V → Hp → VK → Prop}
end
end L2
namespace L2
open PySem PySem.Spec PyProof.Rows
section
variable {κ : Type} [DecidableEq κ]
noncomputable def valV (kvs : List (κ × V)) (k : κ) : Option V := (kvs.find? fun kv => decide (kv.1 = k)).map (·.2)
noncomputable def putK (kvs : List (κ × V)) (k : κ) (v : V) : List (κ × V) :=
 if (kvs.any fun kv => decide (kv.1 = k)) = true then kvs.map (fun kv => if kv.1 = k then (kv.1,v) else kv) else kvs ++ [(k,v)]
theorem J5m {p : κ × V} {r : List (κ × V)} {k : κ} (e : p.1 = k) : valV (p :: r) k = some p.2 := by simp [valV,List.find?_cons,e]
theorem J3Y {p : κ × V} {r : List (κ × V)} {k : κ} (e : ¬ p.1 = k) : valV (p :: r) k = valV r k := by simp [valV,List.find?_cons,e]
theorem J6V (k : κ) : ∀ kvs : List (κ × V),(kvs.any fun kv => decide (kv.1 = k)) = (valV kvs k).isSome
 | [] => rfl
 | p :: r => by
  rw [List.any_cons]
  by_cases e : p.1 = k
  ·simp only [J5m e,decide_eq_true e,Bool.true_or,Option.isSome_some]
  ·rw [J3Y e,decide_eq_false e,Bool.false_or]; exact J6V k r
theorem J5X (kvs : List (κ × V)) (k : κ) (v : V) : (putK kvs k v).length ≤ kvs.length + 1 := by
 unfold putK
 split
 ·rw [List.length_map]; omega
 ·rw [List.length_append,List.length_cons,List.length_nil]; omega
theorem JdW {kvs : List (κ × V)} {k : κ} (v : V) (h : valV kvs k = none) : putK kvs k v = kvs ++ [(k,v)] := by
 unfold putK
 rw [J6V,h]
 exact if_neg (by decide)
theorem RelO.isSome_eq {o : Option V} {u : Option Value} (r : RelO o u) : o.isSome = u.isSome := by
 cases o with
 | none => cases u with
  | none => rfl
  | some _ => exact (show False from r).elim
 | some _ => cases u with
  | none => exact (show False from r).elim
  | some _ => rfl
theorem KV.val {kvs : List (κ × V)} {vs : List (κ × Value)} (r : KV kvs vs) (k : κ) : RelO (valV kvs k) (valueAt vs k) := by
 unfold KV at r
 induction r with
 | nil => exact True.intro
 | @cons p q ps qs h t ih =>
  obtain ⟨h1,h2⟩ := h
  by_cases e : p.1 = k
  ·have e' : q.1 = k := h1.symm.trans e
   have b : valueAt (q :: qs) k = some q.2 := by simp [valueAt,List.find?_cons,e']
   rw [J5m e,b]; exact h2
  ·have e' : ¬ q.1 = k := fun z => e (h1.trans z)
   have b : valueAt (q :: qs) k = valueAt qs k := by simp [valueAt,List.find?_cons,e']
   rw [J3Y e,b]; exact ih
theorem KV.any {kvs : List (κ × V)} {vs : List (κ × Value)} (r : KV kvs vs) (k : κ) : (kvs.any fun kv => decide (kv.1 = k)) = vs.any fun kv => decide (kv.1 = k) := by
 unfold KV at r
 induction r with
 | nil => rfl
 | cons h t ih => rw [List.any_cons,List.any_cons,ih,h.1]
theorem KV.repl {kvs : List (κ × V)} {vs : List (κ × Value)} (r : KV kvs vs) (k : κ) {y : V} {u : Value} (ry : RelV y u) :
  KV (kvs.map fun kv => if kv.1 = k then (kv.1,y) else kv) (vs.map fun kv => if kv.1 = k then (kv.1,u) else kv) := by
 unfold KV at r ⊢
 induction r with
 | nil => exact .nil
 | @cons p q ps qs h t ih =>
  rw [List.map_cons,List.map_cons]
  refine .cons ?_ ih
  obtain ⟨h1,h2⟩ := h
  by_cases e : p.1 = k
  ·rw [if_pos e,if_pos (h1.symm.trans e)]; exact ⟨h1,ry⟩
  ·rw [if_neg e,if_neg (fun z => e (h1.trans z))]; exact ⟨h1,h2⟩
theorem KV.put {kvs : List (κ × V)} {vs : List (κ × Value)} (r : KV kvs vs) (k : κ) {y : V} {u : Value} (ry : RelV y u) : KV (putK kvs k y) (stored vs k u) := by
 unfold putK stored
 rw [r.any k]
 by_cases e : (vs.any fun kv => decide (kv.1 = k)) = true
 ·rw [if_pos e,if_pos e]; exact r.repl k ry
 ·rw [if_neg e,if_neg e]; exact Paired.snoc r ⟨rfl,ry⟩
theorem KV.length {kvs : List (κ × V)} {vs : List (κ × Value)} (r : KV kvs vs) : kvs.length = vs.length := Paired.length r
end
theorem Jdr {P : Program} {w : World} {k : Key} {u : Value} (r : RelV (kV k) u) : (J1L P w).is k u = true := by
 cases k with
 | inl i => obtain ⟨t,e⟩ := (show ∃ t,u = Value.int i t from r); subst e; exact Ja4 P w i t
 | inr x => obtain ⟨t,e⟩ := (show ∃ t,u = Value.str x t from r); subst e; exact Jaj P w x t
theorem J87 {P : Program} {w : World} : ∀ {ks : List Key} {us : List Value},Vals (ks.map kV) us → ItemsAre (J1L P w) ks us
 | [],_,r => by rw [List.map_nil] at r; cases r; exact .nil
 | k :: ks,_,r => by
  rw [List.map_cons] at r
  cases r with
  | cons h t => exact .cons (Jdr h) (J87 t)
noncomputable abbrev KT (H : Hp) : List (List Key × V) → List (List Key × Addr × Value) → Prop := Paired fun p q => p.1 = q.1 ∧ H q.2.1 = some (.tup (p.1.map kV)) ∧ RelV p.2 q.2.2
theorem KT.val {H : Hp} {kvs : List (List Key × V)} {xs : List (List Key × Addr × Value)} (r : KT H kvs xs) (k : List Key) : RelO (valV kvs k) ((atKey xs k).map (·.2)) := by
 induction r with
 | nil => exact True.intro
 | @cons p q ps qs h t ih =>
  obtain ⟨h1,_,h2⟩ := h
  by_cases e : p.1 = k
  ·have e' : q.1 = k := h1.symm.trans e
   have b : atKey (q :: qs) k = some q.2 := by simp [atKey,List.find?_cons,e']
   rw [J5m e,b]; exact h2
  ·have e' : ¬ q.1 = k := fun z => e (h1.trans z)
   have b : atKey (q :: qs) k = atKey qs k := by simp [atKey,List.find?_cons,e']
   rw [J3Y e,b]; exact ih
theorem KT.repl {H : Hp} {kvs : List (List Key × V)} {xs : List (List Key × Addr × Value)} (r : KT H kvs xs) (k : List Key) {y : V} {u : Value} (ry : RelV y u) :
  KT H (kvs.map fun kv => if kv.1 = k then (kv.1,y) else kv) (xs.map (putAt k u)) := by
 induction r with
 | nil => exact .nil
 | @cons p q ps qs h t ih =>
  rw [List.map_cons,List.map_cons]
  refine .cons ?_ ih
  obtain ⟨h1,h2,h3⟩ := h
  unfold putAt
  by_cases e : p.1 = k
  ·rw [if_pos e,if_pos (h1.symm.trans e)]; exact ⟨h1,h2,ry⟩
  ·rw [if_neg e,if_neg (fun z => e (h1.trans z))]; exact ⟨h1,h2,h3⟩
theorem KT.put {H : Hp} {kvs : List (List Key × V)} {xs : List (List Key × Addr × Value)} (r : KT H kvs xs) (k : List Key) {b : Addr} {y : V} {u : Value} (hb : H b = some (.tup (k.map kV))) (ry : RelV y u) :
  KT H (putK kvs k y) (storedH xs k b u) := by
 have e : (kvs.any fun kv => decide (kv.1 = k)) = (atKey xs k).isSome := by
  rw [J6V,(r.val k).isSome_eq,Option.isSome_map]
 unfold putK storedH
 rw [e]
 by_cases q : (atKey xs k).isSome = true
 ·rw [if_pos q,if_pos q]; exact r.repl k ry
 ·rw [if_neg q,if_neg q]; exact Paired.snoc r ⟨rfl,hb,ry⟩
theorem KT.keeps {H H' : Hp} {kvs : List (List Key × V)} {xs : List (List Key × Addr × Value)} (r : KT H kvs xs) (ht : ∀ b ys,H b = some (.tup ys) → H' b = some (.tup ys)) : KT H' kvs xs :=
 Paired.mapP r fun _ _ z => ⟨z.1,ht _ _ z.2.1,z.2.2⟩
section
variable {P : Program} {w : World} {H : Hp} {h : Heap} {a : Addr}
theorem Jf4 {u : HO} (ok : HOk P w H h) (e : Rd H a u) : J0Z P w H h a u := e.ok ok
theorem Je3 {kvs : List (Key × V)} (ok : HOk P w H h) (e : Rd H a (.dK kvs)) : kvs.length ≤ sizeLine ∧ (a == sysModules) = false ∧ ∃ vs,KV kvs vs ∧ h.DictOf (J1L P w) a vs :=
 show J0Z P w H h a (.dK kvs) from Jf4 ok e
theorem Jgj {kvs : List (Key × V)} (ok : HOk P w H h) (e : H a = some (.dK kvs)) : kvs.length ≤ sizeLine ∧ (a == sysModules) = false ∧ ∃ vs,KV kvs vs ∧ h.DictOf (J1L P w) a vs := Je3 ok (.inl e)
theorem Jb6 {ks : List Key} (ok : HOk P w H h) (e : H a = some (.tup (ks.map kV))) : (tupleKind (J1L P w)).is h ks a := by
 obtain ⟨_,its,r,o,h1,h2,n,h3⟩ := (show J0Z P w H h a (.tup (ks.map kV)) from ok a _ e)
 exact ⟨o,its.toArray,n,h1,h2,h3,by simpa using J87 r⟩
theorem JdQ {kvs : List (List Key × V)} (ok : HOk P w H h) (e : Rd H a (.dT kvs)) : kvs.length ≤ sizeLine ∧ (a == sysModules) = false ∧
  ∃ xs,KT H kvs xs ∧ h.DictOfH (tupleKind (J1L P w)) a xs := by
 obtain ⟨z,y,xs,r,o,es,ep,h1,h2,h3,h4,h5⟩ := (show J0Z P w H h a (.dT kvs) from Jf4 ok e)
 refine ⟨z,y,xs,r,o,es,ep,h1,h2,h3,h4,fun x hx => ?_,h5⟩
 have all : ∀ {l : List (List Key × V)} {m : List (List Key × Addr × Value)},KT H l m → ∀ x ∈ m,(tupleKind (J1L P w)).is h x.1 x.2.1 := by
  intro l m q
  induction q with
  | nil => intro x hx; exact nomatch hx
  | @cons p q ps qs hq t ih =>
   intro x hx
   rcases List.mem_cons.mp hx with e | hx
   ·subst e
    exact Jb6 ok (by rw [← hq.1]; exact hq.2.1)
   ·exact ih x hx
 exact all r x hx
theorem Jgx {kvs : List (List Key × V)} (ok : HOk P w H h) (e : H a = some (.dT kvs)) : kvs.length ≤ sizeLine ∧ (a == sysModules) = false ∧
  ∃ xs,KT H kvs xs ∧ h.DictOfH (tupleKind (J1L P w)) a xs := JdQ ok (.inl e)
end
noncomputable def DGet (H : Hp) (a : Addr) (y : V) (r : Option V) : Prop :=
 (∃ kvs k,Rd H a (.dK kvs) ∧ y = kV k ∧ r = valV kvs k) ∨ ∃ kvs k b,Rd H a (.dT kvs) ∧ y = .ref b ∧ H b = some (.tup (k.map kV)) ∧ r = valV kvs k
noncomputable def DPut (H : Hp) (a : Addr) (y v : V) (H' : Hp) : Prop :=
 (∃ kvs k,H a = some (.dK kvs) ∧ y = kV k ∧ kvs.length < sizeLine ∧ H' = upd H a (.dK (putK kvs k v))) ∨
 ∃ kvs k b,H a = some (.dT kvs) ∧ y = .ref b ∧ H b = some (.tup (k.map kV)) ∧ kvs.length < sizeLine ∧ H' = upd H a (.dT (putK kvs k v))
theorem DGet.k {H : Hp} {a : Addr} {kvs : List (Key × V)} {k : Key} (e : H a = some (.dK kvs)) : DGet H a (kV k) (valV kvs k) := .inl ⟨kvs,k,.inl e,rfl,rfl⟩
theorem DPut.k {H : Hp} {a : Addr} {kvs : List (Key × V)} {k : Key} {v : V} (e : H a = some (.dK kvs)) (hl : kvs.length < sizeLine) : DPut H a (kV k) v (upd H a (.dK (putK kvs k v))) := .inl ⟨kvs,k,e,rfl,hl,rfl⟩
section
variable {X : Cx} {pins : List (Addr × Obj)} {σ : St} {H : Hp} {s : Shared} {a : Addr} {y v : V} {u r : Value} {o : Option V} {A : Around} {E : Value → Shared → Prop}
theorem Inv.big (I : Inv X pins σ H s) : sysModules < s.heap.objs.size := by
 have h : mainGlobals < s.heap.objs.size := (I.mod.glob.keeps I.bk).lt
 exact Nat.lt_trans (by decide) h
theorem JbZ {Q : Value → Shared → Prop} (hu : A.units + 1 < cLine) (I : Inv X pins σ H s) (g : DGet H a y (some v)) (ry : RelV y u) (h : ∀ w' s',Inv X pins σ H s' → RelV v w' → Q w' s') :
  wpAny (model X.prog X.w) A (getItem (.ref a) u) Q E s := by
 rcases g with ⟨kvs,k,e,ey,l⟩ | ⟨kvs,k,b,e,ey,eb,l⟩
 ·subst ey
  obtain ⟨z,hd,vs,rel,dd⟩ := Je3 I.hok e
  obtain ⟨w',hw,rw'⟩ := RelO.some_of (v := v) (o := valueAt vs k) (by rw [l]; exact rel.val k)
  exact wpAny_getItem_of (Jdr ry) dd.mapOf hw (h w' _ (I.tok _) rw')
 ·subst ey
  cases (show u = Value.ref b from ry)
  obtain ⟨z,hd,xs,rel,dd⟩ := JdQ I.hok e
  obtain ⟨w',hw,rw'⟩ := RelO.some_of (v := v) (o := (atKey xs k).map (·.2)) (by rw [l]; exact rel.val k)
  obtain ⟨p,hp,hp2⟩ := Option.map_eq_some_iff.mp hw
  refine wpAny_getItem_heap (tupleKind_room_in1 hu) (Jb6 I.hok eb) dd hp ?_
  rw [hp2]
  exact h w' _ (I.tok _) rw'
theorem JbH {h' : Heap} {t' : Nat} {ob : HO} (I : Inv X pins σ H s) (mu : Mut (H a)) (hs : Heap.SameBut a s.heap h') (he : ∃ q,h'.get? a = some q) (new : J0Z X.prog X.w (upd H a ob) h' a ob) :
  Inv X pins σ (upd H a ob) { s with heap := h',toks := t' } :=
 I.write (x := a) (e := a) mu (.inl rfl) (fun b q hb z => (hs.2 b hb).trans z) he new
theorem Jg2 {P : Program} {w : World} {H' : Hp} {h' : Heap} {kvs : List (Key × V)} {vs : List (Key × Value)} (z : kvs.length ≤ sizeLine) (hd : (a == sysModules) = false) (rel : KV kvs vs) (dd : h'.DictOf (J1L P w) a vs) :
  J0Z P w H' h' a (.dK kvs) := ⟨z,hd,vs,rel,dd⟩
theorem Jck {H' : Hp} {Q : Unit → Shared → Prop} (hu : A.units + 1 < cLine) (I : Inv X pins σ H s) (g : DPut H a y v H') (ry : RelV y u) (rv : RelV v r) (h : ∀ s',Inv X pins σ H' s' → Q () s') :
  wpAny (model X.prog X.w) A (setItem (.ref a) u r) Q E s := by
 rcases g with ⟨kvs,k,e,ey,l,eH⟩ | ⟨kvs,k,b,e,ey,eb,l,eH⟩
 ·subst ey eH
  obtain ⟨z,hd,vs,rel,dd⟩ := Jgj I.hok e
  have hz : vs.length ≤ sizeLine := by rw [← rel.length]; exact z
  have hl : (putK kvs k v).length ≤ sizeLine := by have := J5X kvs k v; omega
  refine wpAny_setItem_pairs (hsz := hz) (Jdr ry) dd fun h' dd' hs => h _ ?_
  have he : ∃ q,h'.get? a = some q := let ⟨q,_,_,hq,_⟩ := dd'; ⟨q,hq⟩
  exact JbH I (by rw [e]; exact True.intro) hs he (Jg2 hl hd (rel.put k rv) dd')
 ·subst ey eH
  cases (show u = Value.ref b from ry)
  obtain ⟨z,hd,xs,rel,dd⟩ := Jgx I.hok e
  have hz : xs.length ≤ sizeLine := by rw [← Paired.length rel]; exact z
  have hl : (putK kvs k v).length ≤ sizeLine := by have := J5X kvs k v; omega
  refine wpAny_setItem_heap (hsz := hz) (tupleKind_room_in1 hu) (Jb6 I.hok eb) dd fun h' dd' hs => h _ ?_
  obtain ⟨q,es,ep,hq,h2,h3,h4,_,h5⟩ := dd'
  refine JbH I (by rw [e]; exact True.intro) hs ⟨q,hq⟩ ⟨hl,hd,_,(rel.put k eb rv).keeps fun c ys ec => ?_,q,es,ep,hq,h2,h3,h4,h5⟩
  rw [Ji (JeY ec e (fun z => nomatch z))]
  exact ec
end
section
variable {X : Cx} {pins : List (Addr × Obj)} {σ : St} {H : Hp} {s : Shared} {a : Addr} {kvs : List (Key × V)} {k : Key} {u : Value} {A : Around} {E : Value → Shared → Prop}
end
noncomputable def NoSl (i : Expr) : Prop := ∀ ov iv,subscripted i false ov iv = operate [ov,iv] (getItem ov iv)
theorem JeL {prog : Program} {w : World} {A : Around} {E : Value → Shared → Prop} {s : Shared} {env : Env} {value slice : Expr} {pos : Pos} {T id : String} {Q : Value → Shared → Prop}
  (hl : typeLookup (.type T) "__getitem__" = pure (some (.builtin id))) (hs : NoSl slice)
  (h : wpAny (model prog w) A (eval value env) (fun o s₁ => wpAny (model prog w) A (eval slice env) (fun i s₂ => s₂.TypeIs o T ∧ wpAny (model prog w) A (getItem o i) Q E s₂) E s₁) E s) :
  wpAny (model prog w) A (eval (.Subscript value slice pos) env) Q E s := by
 refine Subscript_ (wpAny_mono h (fun o s₁ h₁ => wpAny_mono h₁ (fun i s₂ h₂ => ?_) fun _ _ x => x) fun _ _ x => x)
 obtain ⟨hT,h₂⟩ := h₂
 unfold subscriptTail
 refine wpAny_bind ?_
 rw [getitemInPython_of_ne hT.not_modules]
 refine wpAny_bind (wpAny_specialOf hT hl ?_)
 have fin : wpAny (model prog w) A (subscripted slice false o i) (fun r s₃ => wpAny (model prog w) A (letTemporaryGo value o r >>= fun _ => pure r) Q E s₃) E s₂ := by
  rw [hs o i]
  exact wpAny_operating (wpAny_mono h₂ (fun r s₃ h₃ => wpAny_bind (wpAny_letTemporaryGo (wpAny_pure h₃))) fun _ _ x => x)
 first
  | exact wpAny_pure (wpAny_bind fin)
  | exact wpAny_bind (wpAny_pure (wpAny_bind fin))
  | exact wpAny_bind fin
theorem JaA {X : Cx} {pins : List (Addr × Obj)} {σ : St} {H : Hp} {s : Shared} {a : Addr} {y : V} {o : Option V} (I : Inv X pins σ H s) (g : DGet H a y o) : s.TypeIs (.ref a) "dict" := by
 rcases g with ⟨kvs,k,e,_,_⟩ | ⟨kvs,k,b,e,_,_,_⟩
 ·obtain ⟨_,_,vs,_,dd⟩ := Je3 I.hok e
  exact dd.typeIs
 ·obtain ⟨_,_,xs,_,dd⟩ := JdQ I.hok e
  exact dd.typeIs
noncomputable def Jgk (td ty : TE) : TE := fun σ H Q => td σ H fun x H1 => ty σ H1 fun y H2 => ∃ a v,x = .ref a ∧ DGet H2 a y (some v) ∧ Q v H2
noncomputable def Jgd (td ty tv : TE) : TS := fun D σ H => tv σ H fun v H1 => td σ H1 fun x H2 => ty σ H2 fun y H3 => ∃ a H4,x = .ref a ∧ DPut H3 a y v H4 ∧ D.nx σ H4
section
variable {X : Cx} {o i e value : Expr} {pos pos' tpos : Pos} {td ty tv : TE}
theorem Jer (hu : X.A.units + 1 < cLine) (ho : PE X o td) (hi : PE X i ty) (hs : NoSl i) : PE X (.Subscript o i pos) (Jgk td ty) := by
 intro pins s σ H Q I h
 refine JeL PySem.F.slot_dict_getitem.lookup hs (thn (ho pins s σ H _ I h) fun u s1 ⟨x,H1,I1,rx,q1⟩ => thn (hi pins s1 σ H1 _ I1 q1) fun iv s2 ⟨y,H2,I2,ry,a,v,ex,g,q2⟩ => ?_)
 subst ex
 obtain rfl : u = Value.ref a := rx
 exact ⟨JaA I2 g,JbZ hu I2 g ry fun w' s3 I3 rw' => ⟨v,H2,I3,rw',q2⟩⟩
theorem Jes (hu : X.A.units + 1 < cLine) (ho : PE X o td) (hi : PE X i ty) (hv : PE X value tv) (hs : swapsWith value (some (.Subscript o i pos')) pos.line X.env = pure false) :
  PS X (.Assign [.Subscript o i pos'] value pos) (Jgd td ty tv) := by
 intro pins s σ H D I h
 refine wpAny_Assign_Subscript (thn (hv pins s σ H _ I h) fun r s1 ⟨v,H1,I1,rv,q1⟩ => thn (ho pins s1 σ H1 _ I1 q1) fun u s2 ⟨x,H2,I2,rx,q2⟩ => thn (hi pins s2 σ H2 _ I2 q2) fun iv s3 ⟨y,H3,I3,ry,a,H4,ex,g,q3⟩ => ?_) hs
 subst ex
 obtain rfl : u = Value.ref a := rx
 exact Jck hu I3 g ry rv fun s4 I4 => ⟨σ,H4,I4,q3⟩
end
theorem JdB {P : Program} {w : World} {H : Hp} (h : Heap) (hb : sysModules < h.objs.size) : J0Z P w H (h.push { cls := .type "dict",data := .dict #[] }) h.objs.size (.dK []) :=
 ⟨Nat.zero_le _,beq_eq_false_iff_ne.mpr (Ne.symm (Nat.ne_of_lt hb)),[],.nil,Heap.DictOf.new h⟩
noncomputable def Jfr : TE := fun _ H Q => ∀ p,H p = none → Q (.ref p) (upd H p (.dK []))
section
variable {X : Cx} {pos : Pos}
theorem Jdu : PE X (.Dict [] [] pos) Jfr := fun pins s σ H Q I h =>
 wpAny_Dict_empty ⟨.ref s.heap.objs.size,_,I.laid (a := s.heap.objs.size) (o := .dK []) (t' := s.toks) (fun _ _ q => Heap.get?_push_of_some _ q) (Nat.le_refl _) (JdB s.heap I.big),rfl,h _ (I.hok.fresh (Nat.le_refl _))⟩
end
section
variable {X : Cx} {pins : List (Addr × Obj)} {σ : St} {H : Hp} {s : Shared} {a : Addr} {y d : V} {u r : Value} {o : Option V} {A : Around} {E : Value → Shared → Prop}
end
section
variable {X : Cx} {o e f : Expr} {apos cpos : Pos} {td ty tx : TE}
end
section
variable {X : Cx} {pins : List (Addr × Obj)} {σ : St} {H : Hp} {s : Shared} {a : Addr} {kvs : List (Key × V)} {A : Around} {E : Value → Shared → Prop}
end
section
variable {X : Cx} {pins : List (Addr × Obj)} {σ : St} {H : Hp} {s : Shared} {a : Addr} {y : V} {u : Value} {A : Around} {E : Value → Shared → Prop}
end
end L2
namespace Att
open PySem PySem.W PySem.Calls PyProof.Rows
section
variable {prog : Program} {w : World} {A : Around} {E : Value → Shared → Prop} {s : Shared} {K : Frag}
end
end Att
namespace L2
open PySem PySem.Spec PyProof.Rows
end L2
namespace L2
open PySem PySem.Spec PyProof.Rows
end L2
namespace L2
open PySem PySem.Spec PyProof.Rows
section
variable {P : Program} {w : World} {K : PySem.W.Frag} {mg : Str → Option Value} {base : Heap}
end
section
variable {X : Cx}
end
section
variable {κ : Type} [DecidableEq κ]
end
end L2
set_option maxHeartbeats 4000000
namespace K72
open PySem L2
noncomputable def top (i : Nat) : Stmt := PySem.Challenge.pw_rotafair_k72_what_rests.main.body.getD i (.Pass ⟨0,0,0,0⟩)
noncomputable abbrev J5p : Stmt := top 5
noncomputable abbrev J1D : Stmt := top 6
noncomputable abbrev J2Z : Stmt := top 7
noncomputable abbrev J0P : Stmt := top 8
noncomputable abbrev J1G : Stmt := J02 (top 12) 0
noncomputable abbrev J1s : Stmt := J02 (top 12) 2
noncomputable abbrev J25 : Stmt := J02 (top 13) 0
noncomputable abbrev J2q : Stmt := J02 (top 13) 2
noncomputable abbrev J1J : Stmt := J02 (top 14) 0
noncomputable abbrev J24 : Stmt := J02 (top 14) 2
noncomputable abbrev J27 : Stmt := J02 (top 15) 0
noncomputable abbrev J1e : Stmt := J02 (top 16) 0
noncomputable abbrev J2s : Stmt := J02 (top 17) 0
noncomputable abbrev J2u : Stmt := J02 (top 15) 2
noncomputable abbrev J1E : Stmt := J02 (top 16) 2
noncomputable abbrev J2U : Stmt := J02 (top 17) 2
noncomputable abbrev J1F : Stmt := top 9
noncomputable abbrev J1B : Stmt := J02 (top 12) 3
noncomputable abbrev J29 : Stmt := J02 (top 13) 3
noncomputable abbrev J1K : Stmt := J02 (top 14) 3
noncomputable abbrev J2a : Stmt := top 18
noncomputable abbrev J28 : Stmt := top 10
noncomputable abbrev J26 : Stmt := J02 (top 15) 3
noncomputable abbrev J1f : Stmt := J02 (top 16) 3
noncomputable abbrev J2v : Stmt := J02 (top 17) 3
noncomputable abbrev J1Z : Stmt := top 19
noncomputable abbrev J1i : Stmt := J02 (top 22) 0
noncomputable abbrev J1I : Stmt := J02 (top 23) 0
noncomputable abbrev J1A : Stmt := J02 (top 23) 1
noncomputable abbrev J1r : Stmt := top 24
noncomputable abbrev J0x : Stmt := J02 (top 23) 3
noncomputable abbrev J2r : Stmt := top 29
noncomputable abbrev J0z : Stmt := top 30
noncomputable abbrev J0C : Stmt := top 31
noncomputable abbrev J0T : Stmt := top 32
noncomputable abbrev J1a : Stmt := top 33
noncomputable abbrev JZ : Stmt := J02 (top 23) 4
noncomputable abbrev J0U : Stmt := top 34
noncomputable abbrev J1h : Stmt := top 36
noncomputable abbrev J1g : Stmt := top 35
noncomputable abbrev J3s : Stmt := top 28
noncomputable abbrev J1b : Stmt := top 38
noncomputable abbrev J1C : Stmt := top 39
noncomputable abbrev J1w : Stmt := top 40
noncomputable abbrev J20 : Stmt := top 41
noncomputable abbrev J21 : Stmt := top 42
noncomputable abbrev J1c : Stmt := top 43
noncomputable abbrev JX : Stmt := top 44
noncomputable abbrev J1d : Stmt := top 45
noncomputable abbrev JM : Stmt := top 46
noncomputable abbrev J0h : Stmt := top 47
noncomputable abbrev J2t : Stmt := top 49
noncomputable abbrev J0i : Stmt := top 50
noncomputable abbrev J0g : Stmt := top 51
noncomputable abbrev J0G : Stmt := top 48
noncomputable abbrev J0H : Stmt := top 25
noncomputable abbrev J3n : Stmt := top 26
noncomputable abbrev J1u : Stmt := top 52
noncomputable abbrev J11 : Stmt := top 53
noncomputable abbrev J1q : Stmt := top 54
noncomputable abbrev J1m : Stmt := top 55
noncomputable abbrev J3a : Stmt := top 56
theorem Je8 : Jn ["sign","mark"] ["sign","mark"] (J4 J5p) := ⟨rfl,rfl,rfl,by decide +kernel,rfl,by decide +kernel,by decide +kernel⟩
theorem J7B : Jn ["marks","many"] ["marks","many"] (J4 J1D) := ⟨rfl,rfl,rfl,by decide +kernel,rfl,by decide +kernel,by decide +kernel⟩
theorem JbV : Jn ["signs","mark"] ["signs","mark"] (J4 J2Z) := ⟨rfl,rfl,rfl,by decide +kernel,rfl,by decide +kernel,by decide +kernel⟩
theorem J6P : Jn ["signs","marks"] ["signs","marks"] (J4 J0P) := ⟨rfl,rfl,rfl,by decide +kernel,rfl,by decide +kernel,by decide +kernel⟩
theorem J7C : Jn ["self","word"] ["self","word"] (J4 J1G) := ⟨rfl,rfl,rfl,by decide +kernel,rfl,by decide +kernel,by decide +kernel⟩
theorem J4I : Jn ["self","marks","nearest"] ["self","marks"] (J4 J1s) := ⟨rfl,rfl,rfl,by decide +kernel,rfl,by decide +kernel,by decide +kernel⟩
theorem J8A : Jn ["self","many","marks","days"] ["self","many","marks","days"] (J4 J25) := ⟨rfl,rfl,rfl,by decide +kernel,rfl,by decide +kernel,by decide +kernel⟩
theorem J9z : Jn ["self","marks"] ["self","marks"] (J4 J2q) := ⟨rfl,rfl,rfl,by decide +kernel,rfl,by decide +kernel,by decide +kernel⟩
theorem J7I : Jn ["self","many","marks","days"] ["self","many","marks","days"] (J4 J1J) := ⟨rfl,rfl,rfl,by decide +kernel,rfl,by decide +kernel,by decide +kernel⟩
theorem J8j : Jn ["self","marks"] ["self","marks"] (J4 J24) := ⟨rfl,rfl,rfl,by decide +kernel,rfl,by decide +kernel,by decide +kernel⟩
theorem J8u : Jn ["self","left","right"] ["self","left","right"] (J4 J27) := ⟨rfl,rfl,rfl,by decide +kernel,rfl,by decide +kernel,by decide +kernel⟩
theorem J6t : Jn ["self","left","right"] ["self","left","right"] (J4 J1e) := ⟨rfl,rfl,rfl,by decide +kernel,rfl,by decide +kernel,by decide +kernel⟩
theorem J9C : Jn ["self","inner"] ["self","inner"] (J4 J2s) := ⟨rfl,rfl,rfl,by decide +kernel,rfl,by decide +kernel,by decide +kernel⟩
theorem J9w : Jn ["self","marks"] ["self","marks"] (J4 J2u) := ⟨rfl,rfl,rfl,by decide +kernel,rfl,by decide +kernel,by decide +kernel⟩
theorem J7A : Jn ["self","marks"] ["self","marks"] (J4 J1E) := ⟨rfl,rfl,rfl,by decide +kernel,rfl,by decide +kernel,by decide +kernel⟩
theorem JaX : Jn ["self","marks"] ["self","marks"] (J4 J2U) := ⟨rfl,rfl,rfl,by decide +kernel,rfl,by decide +kernel,by decide +kernel⟩
theorem J7l : Jn ["word","many","marks","days"] ["word","many","marks","days"] (J4 J1F) := ⟨rfl,rfl,rfl,by decide +kernel,rfl,by decide +kernel,by decide +kernel⟩
theorem J7z : Jn ["self"] ["self"] (J4 J1B) := ⟨rfl,rfl,rfl,by decide +kernel,rfl,by decide +kernel,by decide +kernel⟩
theorem J8b : Jn ["self"] ["self"] (J4 J29) := ⟨rfl,rfl,rfl,by decide +kernel,rfl,by decide +kernel,by decide +kernel⟩
theorem J7q : Jn ["self"] ["self"] (J4 J1K) := ⟨rfl,rfl,rfl,by decide +kernel,rfl,by decide +kernel,by decide +kernel⟩
theorem J8c : Jn ["rule"] ["rule"] (J4 J2a) := ⟨rfl,rfl,rfl,by decide +kernel,rfl,by decide +kernel,by decide +kernel⟩
theorem J4R : Jn ["rule","in_brackets","text"] ["rule","in_brackets"] (J4 J28) := ⟨rfl,rfl,rfl,by decide +kernel,rfl,by decide +kernel,by decide +kernel⟩
theorem J3A : Jn ["self","left","right"] ["self"] (J4 J26) := ⟨rfl,rfl,rfl,by decide +kernel,rfl,by decide +kernel,by decide +kernel⟩
theorem J33 : Jn ["self","left","right"] ["self"] (J4 J1f) := ⟨rfl,rfl,rfl,by decide +kernel,rfl,by decide +kernel,by decide +kernel⟩
theorem J9l : Jn ["self"] ["self"] (J4 J2v) := ⟨rfl,rfl,rfl,by decide +kernel,rfl,by decide +kernel,by decide +kernel⟩
theorem J9O : Jn ["rule","past","row"] ["rule","past","row"] (J4 J1Z) := ⟨rfl,rfl,rfl,by decide +kernel,rfl,by decide +kernel,by decide +kernel⟩
theorem J6D : Jn ["self","name","skills","most","carried","past"] ["self","name","skills","most","carried","past"] (J4 J1i) := ⟨rfl,rfl,rfl,by decide +kernel,rfl,by decide +kernel,by decide +kernel⟩
theorem J7L : Jn ["self","days","kinds","needs","persons","leave","wishes","rules","pairs"] ["self","days","kinds","needs","persons","leave","wishes","rules","pairs"] (J4 J1I) := ⟨rfl,rfl,rfl,by decide +kernel,rfl,by decide +kernel,by decide +kernel⟩
theorem J1W : Jn ["self","day","kind","need_day","need_kind","least","most"] ["self","day","kind"] (J4 J1A) := ⟨rfl,rfl,rfl,by decide +kernel,rfl,by decide +kernel,by decide +kernel⟩
theorem J8v : Jn ["marks"] ["marks"] (J4 J1r) := ⟨rfl,rfl,rfl,by decide +kernel,rfl,by decide +kernel,by decide +kernel⟩
theorem J2i : Jn ["self","name","p","person"] ["self","name"] (J4 J0x) := ⟨rfl,rfl,rfl,by decide +kernel,rfl,by decide +kernel,by decide +kernel⟩
theorem JaT : Jn ["house","rota","day"] ["house","rota","day"] (J4 J2r) := ⟨rfl,rfl,rfl,by decide +kernel,rfl,by decide +kernel,by decide +kernel⟩
theorem J3M : Jn ["house","rota","day","having"] ["house","rota","day"] (J4 J0z) := ⟨rfl,rfl,rfl,by decide +kernel,rfl,by decide +kernel,by decide +kernel⟩
theorem J3N : Jn ["house","rota","day","having"] ["house","rota","day"] (J4 J0C) := ⟨rfl,rfl,rfl,by decide +kernel,rfl,by decide +kernel,by decide +kernel⟩
theorem J1l : Jn ["house","rota","day","found","kind","need","many"] ["house","rota","day"] (J4 J0T) := ⟨rfl,rfl,rfl,by decide +kernel,rfl,by decide +kernel,by decide +kernel⟩
theorem J1o : Jn ["house","rota","day","found","person","row","many"] ["house","rota","day"] (J4 J1a) := ⟨rfl,rfl,rfl,by decide +kernel,rfl,by decide +kernel,by decide +kernel⟩
theorem J32 : Jn ["self","p","names"] ["self","p"] (J4 JZ) := ⟨rfl,rfl,rfl,by decide +kernel,rfl,by decide +kernel,by decide +kernel⟩
theorem J0B : Jn ["house","rota","day","found","p","person","marks","bound"] ["house","rota","day"] (J4 J0U) := ⟨rfl,rfl,rfl,by decide +kernel,rfl,by decide +kernel,by decide +kernel⟩
theorem J6B : Jn ["word","mark","other"] ["word","mark","other"] (J4 J1h) := ⟨rfl,rfl,rfl,by decide +kernel,rfl,by decide +kernel,by decide +kernel⟩
theorem J0W : Jn ["house","rota","day","found","number","pair","mark","other"] ["house","rota","day"] (J4 J1g) := ⟨rfl,rfl,rfl,by decide +kernel,rfl,by decide +kernel,by decide +kernel⟩
theorem J1H : Jn ["house","rota","found","day"] ["house","rota"] (J4 J3s) := ⟨rfl,rfl,rfl,by decide +kernel,rfl,by decide +kernel,by decide +kernel⟩
theorem J6O : Jn ["_law_script","_law_k"] ["_law_script","_law_k"] (J4 J1b) := ⟨rfl,rfl,rfl,by decide +kernel,rfl,by decide +kernel,by decide +kernel⟩
theorem J1T : Jn ["_law_cell","_law_many","_law_found","_law_number","_law_k"] ["_law_cell","_law_many"] (J4 J1C) := ⟨rfl,rfl,rfl,by decide +kernel,rfl,by decide +kernel,by decide +kernel⟩
theorem J3B : Jn ["_law_cell","_law_some_here","_law_many"] ["_law_cell"] (J4 J1w) := ⟨rfl,rfl,rfl,by decide +kernel,rfl,by decide +kernel,by decide +kernel⟩
theorem J2F : Jn ["_law_cell","_law_p","_law_some_here","_law_body","_law_at","_law_name_here"] ["_law_cell","_law_p"] (J4 J20) := ⟨rfl,rfl,rfl,by decide +kernel,rfl,by decide +kernel,by decide +kernel⟩
theorem J5N : Jn ["_law_signs","_law_number","_law_found"] ["_law_signs","_law_number"] (J4 J21) := ⟨rfl,rfl,rfl,by decide +kernel,rfl,by decide +kernel,by decide +kernel⟩
theorem J00 : Jn ["_law_script","_law_many","_law_days","_law_kinds_here","_law_marks","_law_numbers","_law_rota","_law_p","_law_row","_law_day","_law_number"] ["_law_script","_law_many","_law_days","_law_kinds_here"] (J4 J1c) := ⟨rfl,rfl,rfl,by decide +kernel,rfl,by decide +kernel,by decide +kernel⟩
theorem JB : Jn ["_law_rota","_law_days","_law_kinds_here","_law_cell","_law_slack","_law_numbers","_law_found","_law_day","_law_k","_law_many","_law_number","_law_least","_law_most"] ["_law_rota","_law_days","_law_kinds_here","_law_cell","_law_slack"] (J4 JX) := ⟨rfl,rfl,rfl,by decide +kernel,rfl,by decide +kernel,by decide +kernel⟩
theorem J3T : Jn ["_law_script","_law_p","_law_cell"] ["_law_script","_law_p"] (J4 J1d) := ⟨rfl,rfl,rfl,by decide +kernel,rfl,by decide +kernel,by decide +kernel⟩
theorem Jx : Jn ["_law_script","_law_rota","_law_kinds_here","_law_found","_law_p","_law_numbers","_law_skills","_law_k","_law_many","_law_most","_law_past","_law_name_here"] ["_law_script","_law_rota","_law_kinds_here"] (J4 JM) := ⟨rfl,rfl,rfl,by decide +kernel,rfl,by decide +kernel,by decide +kernel⟩
theorem J0D : Jn ["_law_rota","_law_persons","_law_days","_law_cell","_law_numbers","_law_found","_law_p","_law_day"] ["_law_rota","_law_persons","_law_days","_law_cell"] (J4 J0h) := ⟨rfl,rfl,rfl,by decide +kernel,rfl,by decide +kernel,by decide +kernel⟩
theorem J38 : Jn ["_law_cell","_law_kinds_here","_law_letter","_law_days","_law_many"] ["_law_cell","_law_kinds_here"] (J4 J2t) := ⟨rfl,rfl,rfl,by decide +kernel,rfl,by decide +kernel,by decide +kernel⟩
theorem JH : Jn ["_law_script","_law_rota","_law_persons","_law_kinds_here","_law_start","_law_found","_law_cell","_law_rule_here","_law_name_here","_law_kept","_law_person_here","_law_row"] ["_law_script","_law_rota","_law_persons","_law_kinds_here","_law_start"] (J4 J0i) := ⟨rfl,rfl,rfl,by decide +kernel,rfl,by decide +kernel,by decide +kernel⟩
theorem JI : Jn ["_law_rota","_law_persons","_law_cell","_law_found","_law_word","_law_number","_law_one","_law_two","_law_clash","_law_mark","_law_sign"] ["_law_rota","_law_persons","_law_cell"] (J4 J0g) := ⟨rfl,rfl,rfl,by decide +kernel,rfl,by decide +kernel,by decide +kernel⟩
theorem J0X : Jn ["_law_script","_law_persons","_law_days","_law_kinds_here","_law_start","_law_found","_law_cell","_law_marks"] ["_law_script","_law_persons","_law_days","_law_kinds_here","_law_start"] (J4 J0G) := ⟨rfl,rfl,rfl,by decide +kernel,rfl,by decide +kernel,by decide +kernel⟩
theorem J2w : Jn ["person","marks","done","past"] ["person","marks"] (J4 J0H) := ⟨rfl,rfl,rfl,by decide +kernel,rfl,by decide +kernel,by decide +kernel⟩
theorem J4Z : Jn ["house","rota","day","needs","persons","leave","wishes"] ["house","rota","day"] (J4 J3n) := ⟨rfl,rfl,rfl,by decide +kernel,rfl,by decide +kernel,by decide +kernel⟩
theorem J8i : Jn ["_law_rows","_law_day","_law_at"] ["_law_rows","_law_day","_law_at"] (J4 J1u) := ⟨rfl,rfl,rfl,by decide +kernel,rfl,by decide +kernel,by decide +kernel⟩
theorem J3o : Jn ["_law_one","_law_person_here","_law_head","_law_many","_law_past"] ["_law_one","_law_person_here","_law_head"] (J4 J11) := ⟨rfl,rfl,rfl,by decide +kernel,rfl,by decide +kernel,by decide +kernel⟩
theorem J10 : Jn ["_law_found","_law_whole","_law_day","_law_rows","_law_at","_law_word","_law_who","_law_which"] ["_law_found","_law_whole","_law_day"] (J4 J1q) := ⟨rfl,rfl,rfl,by decide +kernel,rfl,by decide +kernel,by decide +kernel⟩
theorem J2l : Jn ["_law_house","_law_left","_law_rota","_law_day","_law_whole","_law_person_here","_law_row","_law_found"] ["_law_house","_law_left","_law_rota","_law_day"] (J4 J1m) := ⟨rfl,rfl,rfl,by decide +kernel,rfl,by decide +kernel,by decide +kernel⟩
theorem J0Q : Jn ["_law_script","_law_many","_law_days","_law_kinds_here","_law_rota","_law_needs","_law_persons","_law_leave","_law_wishes","_law_rules","_law_pairs","_law_house","_law_day","_law_marks","_law_numbers","_law_other","_law_p","_law_late","_law_left","_law_told"] ["_law_script"] (J4 J3a) := ⟨rfl,rfl,rfl,by decide +kernel,rfl,by decide +kernel,by decide +kernel⟩
structure Tx (K : PySem.W.Frag) (mg : Str → Option Value) (J8 Jb J7 Ja J3 Jh J2 J1 : Addr) : Prop where
 Jfc : GF K mg "fits" J5p
 J8y : GF K mg "last_marks" J1D
 JcQ : GF K mg "let_by" J2Z
 J7u : GF K mg "count_among" J0P
 J8z : MF K J8 "__init__" "Never.__init__" J1G
 J9x : MF K J8 "bad" "Never.bad" J1s
 J9J : MF K Jb "__init__" "Most.__init__" J25
 JaO : MF K Jb "bad" "Most.bad" J2q
 J8x : MF K J7 "__init__" "Least.__init__" J1J
 J9m : MF K J7 "bad" "Least.bad" J24
 J9L : MF K Ja "__init__" "Both.__init__" J27
 J7o : MF K J3 "__init__" "Either.__init__" J1e
 Jb1 : MF K Jh "__init__" "Not.__init__" J2s
 JaI : MF K Ja "bad" "Both.bad" J2u
 J8n : MF K J3 "bad" "Either.bad" J1E
 JbX : MF K Jh "bad" "Not.bad" J2U
 J8m : GF K mg "count_text" J1F
 J8l : MF K J8 "text" "Never.text" J1B
 J9N : MF K Jb "text" "Most.text" J29
 J8L : MF K J7 "text" "Least.text" J1K
 J9B : GF K mg "is_joined" J2a
 J9p : GF K mg "part_text" J28
 J9q : MF K Ja "text" "Both.text" J26
 J7F : MF K J3 "text" "Either.text" J1f
 JaW : MF K Jh "text" "Not.text" J2v
 JaY : GF K mg "bad_days" J1Z
 J7M : MF K J2 "__init__" "Person.__init__" J1i
 J8E : MF K J1 "__init__" "House.__init__" J1I
 J8e : MF K J1 "need" "House.need" J1A
 J9K : GF K mg "duties_in" J1r
 J5y : MF K J1 "place_of" "House.place_of" J0x
 JbW : GF K mg "on_duty" J2r
 J6I : GF K mg "skill_faults" J0z
 J6Q : GF K mg "leave_faults" J0C
 J7s : GF K mg "need_faults" J0T
 J7E : GF K mg "most_faults" J1a
 J50 : MF K J1 "rules_for" "House.rules_for" JZ
 J7w : GF K mg "rule_faults" J0U
 J7x : GF K mg "breaks_pair" J1h
 J7n : GF K mg "pair_faults" J1g
 JcJ : GF K mg "faults" J3s
 J7p : GF K mg "_law_cell_at" J1b
 J8s : GF K mg "_law_stream" J1C
 J9E : GF K mg "_law_kinds" J1w
 JaL : GF K mg "_law_name" J20
 JaU : GF K mg "_law_some" J21
 J7v : GF K mg "_law_planted" J1c
 J53 : GF K mg "_law_needs_about" JX
 J7r : GF K mg "_law_carried" J1d
 J4h : GF K mg "_law_persons_about" JM
 J4N : GF K mg "_law_leave_about" J0h
 JaZ : GF K mg "_law_rule" J2t
 J57 : GF K mg "_law_rules_about" J0i
 J4O : GF K mg "_law_pairs_about" J0g
 J63 : GF K mg "_law_wishes_of" J0G
 J62 : GF K mg "person_behind" J0H
 Jfi : GF K mg "rest" J3n
 J9Q : GF K mg "_law_later" J1u
 J8K : GF K mg "_law_person" J11
 J9o : GF K mg "_law_moved" J1q
 J9H : GF K mg "_law_alike" J1m
 JgA : GF K mg "law" J3a
 J2T : CF K mg "Never" J8
 J30 : CF K mg "Most" Jb
 J1Y : CF K mg "Least" J7
 J3m : CF K mg "Both" Ja
 J18 : CF K mg "Either" J3
 J6y : CF K mg "Not" Jh
 JS : CF K mg "Person" J2
 JP : CF K mg "House" J1
 Jed : J5Y K J8
 J2h : PySem.W.kitOne K (.ref J8) (.ref Ja) = some false
 J1v : PySem.W.kitOne K (.ref J8) (.ref J3) = some false
 Jff : J5Y K Jb
 J2J : PySem.W.kitOne K (.ref Jb) (.ref Ja) = some false
 J1U : PySem.W.kitOne K (.ref Jb) (.ref J3) = some false
 Jeb : J5Y K J7
 J2e : PySem.W.kitOne K (.ref J7) (.ref Ja) = some false
 J1t : PySem.W.kitOne K (.ref J7) (.ref J3) = some false
 Jf6 : J5Y K Ja
 J2I : PySem.W.kitOne K (.ref Ja) (.ref Ja) = some true
 J1S : PySem.W.kitOne K (.ref Ja) (.ref J3) = some false
 JcG : J5Y K J3
 J1V : PySem.W.kitOne K (.ref J3) (.ref Ja) = some false
 J19 : PySem.W.kitOne K (.ref J3) (.ref J3) = some true
 Jg9 : J5Y K Jh
 J31 : PySem.W.kitOne K (.ref Jh) (.ref Ja) = some false
 J2j : PySem.W.kitOne K (.ref Jh) (.ref J3) = some false
 J1x : JV K Ja "left"
 J14 : JV K Ja "right"
 J0S : JV K J3 "left"
 J0A : JV K J3 "right"
 J0M : JV K J1 "days"
 J0v : JV K J1 "kinds"
 J0u : JV K J1 "needs"
 JJ : JV K J1 "persons"
 J0s : JV K J1 "leave"
 J0y : JV K J1 "wishes"
 J0t : JV K J1 "rules"
 J0w : JV K J1 "pairs"
 J13 : JV K J7 "many"
 J0R : JV K J7 "marks"
 J0N : JV K J7 "days"
 J1n : JV K Jb "many"
 J12 : JV K Jb "marks"
 J1k : JV K Jb "days"
 J0p : JV K J8 "word"
 J1p : JV K Jh "inner"
 Jy : JV K J2 "name"
 J04 : JV K J2 "skills"
 J0r : JV K J2 "most"
 J08 : JV K J2 "carried"
 J0d : JV K J2 "past"
 J9A : mg "all" = none
 J9T : mg "any" = none
 J0Y : mg "enumerate" = none
 J0K : mg "isinstance" = none
 J0c : mg "len" = none
 J2M : mg "list" = none
 J9M : mg "max" = none
 J9t : mg "min" = none
 JY : mg "range" = none
 J4q : mg "zip" = none
 J2f : ∃ t,mg "PAST_MARKS" = some (.int 6 t)
theorem J5C {n : Nat} (h : n ≤ 1000) : n ≤ sizeLine := Nat.le_trans h (by decide)
theorem J73 {α : Type} (l : List α) (k : Int) (h0 : 0 ≤ k) : cutN l (some k) none = l.drop k.toNat := by
 unfold cutN
 have e : HT.sIx l.length 0 (some k) = min k.toNat l.length := by
  show (if k < 0 then _ else min k.toNat l.length) = _
  rw [if_neg (by omega)]
 rw [e,HT.sIx_none]
 by_cases h : k.toNat ≤ l.length
 ·rw [Nat.min_eq_left h]
  exact List.take_of_length_le (by rw [List.length_drop]; omega)
 ·rw [Nat.min_eq_right (by omega),List.drop_eq_nil_of_le (Nat.le_refl _),List.drop_eq_nil_of_le (by omega),List.take_nil]
theorem J45 {α : Type} (l : List α) (k : Int) (h0 : 0 ≤ k) : cutN l none (some k) = l.take k.toNat := by
 unfold cutN
 have e : HT.sIx l.length l.length (some k) = min k.toNat l.length := by
  show (if k < 0 then _ else min k.toNat l.length) = _
  rw [if_neg (by omega)]
 rw [e,HT.sIx_none,List.drop_zero,Nat.sub_zero]
 by_cases h : k.toNat ≤ l.length
 ·rw [Nat.min_eq_left h]
 ·rw [Nat.min_eq_right (by omega),List.take_of_length_le (Nat.le_refl _),List.take_of_length_le (by omega)]
theorem J2B {α : Type} (l : List α) (lo hi : Option Int) : (cutN l lo hi).length ≤ l.length := by
 unfold cutN
 rw [List.length_take,List.length_drop]
 omega
theorem J2E {α : Type} (l : List α) (i : Int) (h0 : 0 ≤ i) (h : i < l.length) : ∃ c,atI l i = some c ∧ l[i.toNat]? = some c := by
 have hi : i.toNat < l.length := by omega
 have e : i = ((i.toNat : Nat) : Int) := by omega
 have q : atI l ((i.toNat : Nat) : Int) = some l[i.toNat] := J0E (by simp [hi])
 rw [← e] at q
 exact ⟨l[i.toNat],q,List.getElem?_eq_getElem hi⟩
theorem J46 (ns : List Int) (i : Int) (h0 : 0 ≤ i) (h : i < ns.length) : ∃ z,atI (ns.map V.int) i = some (.int z) ∧ ns[i.toNat]? = some z := by
 obtain ⟨c,h1,h2⟩ := J2E (ns.map V.int) i h0 (by rw [List.length_map]; exact h)
 rw [List.getElem?_map] at h2
 cases hz : ns[i.toNat]? with
 | none => rw [hz] at h2; cases h2
 | some z =>
  rw [hz] at h2
  have e : c = .int z := (Option.some.inj h2).symm
  subst e
  exact ⟨z,h1,rfl⟩
theorem J77 {ys : List V} (h : ∀ y ∈ ys,∃ c,y = T [c]) : ∃ cs : List Nat,ys = (cs.map fun c => [c]).map T ∧ cs.length = ys.length := by
 induction ys with
 | nil => exact ⟨[],rfl,rfl⟩
 | cons y r ih =>
  obtain ⟨c,rfl⟩ := h y List.mem_cons_self
  obtain ⟨cs,e,hl⟩ := ih fun z hz => h z (List.mem_cons_of_mem _ hz)
  exact ⟨c :: cs,by rw [e]; rfl,by simp [hl]⟩
noncomputable def J3j (x y : V) : Bool := if decide (x = T [63]) = true then true else if decide (x = T [35]) = true then !decide (y = T [45]) else decide (x = y)
noncomputable def Je7 : Sp := fun vs H Q _ => ∃ a b,vs = [T a,T b] ∧ Q (.bl (J3j (T a) (T b))) H
noncomputable def Jef : Sp := fun vs H Q _ => ∃ l n,vs = [T l,.int n] ∧ l.length ≤ 1000 ∧ 0 ≤ n ∧ Q (T (l.drop (l.length - n.toNat))) H
noncomputable def sp_law (K : PySem.W.Frag) : Sp := fun vs H Q _ => ∃ (a : Addr) (ns : List Int),vs = [.ref a] ∧ SqL K H a (ns.map V.int) ∧ ns.length ≤ 63 ∧ ∀ H',Q (.bl true) H'
theorem JfC {p : (Nat → Nat → St → Hp → Prop) → Prop} (h : ∃ W,p W) : ∃ W,p W := h
theorem JeA {p : (Nat → St → Hp → Prop) → Prop} (h : ∃ W,p W) : ∃ W,p W := h
theorem Jgq {A B : Prop} (h : B) : if (!true) = true then A else B := h
theorem Jgs {A B : Prop} (h : A) : if (!false) = true then A else B := h
theorem JeJ {i j : Int} (h1 : 0 < j) (h2 : j < 1073741824) : CDiv i j := ⟨h1,h2⟩
theorem Jgw {i j : Int} (h1 : -(2 ^ 64) < i) (h2 : i < 2 ^ 64) : CMul i j := .inl ⟨h1,h2⟩
theorem Jgp {i j : Int} (h1 : -(2 ^ 64) < j) (h2 : j < 2 ^ 64) : CMul i j := .inr ⟨h1,h2⟩
theorem JfE {n : Int} (h : 0 < n) : 0 < n := h
@[irreducible] def Here (p : Prop) : Prop := p
theorem Here.mk {p : Prop} (h : p) : Here p := by unfold Here; exact h
theorem Here.out {p : Prop} (h : Here p) : p := by unfold Here at h; exact h
theorem Jda {i : Nat} {v : V} {σ σ' : St} {H : Hp} {Q : St → Hp → Prop} (e : σ.set i (some v) = σ') (h : Q σ' H) : J3w i v σ H Q := by subst e; exact h
theorem JcX {n : Nat} (h : n ≤ 100000) : n ≤ sizeLine := Nat.le_trans h (by decide)
theorem Jdy {n : Nat} (h : n ≤ 100000) : n < sizeLine := Nat.lt_of_le_of_lt h (by decide)
local macro_rules | `(tactic| walk_at "len") => `(tactic| (simp only [List.length_append,List.length_cons,List.length_nil,List.length_singleton,List.length_take,List.length_drop,List.length_map,List.length_reverse,List.length_range] <;> omega))
local macro_rules | `(tactic| walk_at "st") => `(tactic| (try simp only [L2.start,List.map_cons,List.map_nil,List.length_cons,List.length_nil,Nat.reduceAdd,Nat.reduceSub,List.replicate_succ,List.replicate_zero,List.cons_append,List.nil_append]))
local macro_rules | `(tactic| walk_at "lk") => `(tactic| fail)
local macro_rules | `(tactic| walk_at "cl") => `(tactic| first
 | (with_reducible assumption) | rfl
 | (with_reducible show @LE.le Nat _ _ _; first | omega | (walk_at "len") | exact JcX (by omega) | exact JcX (by walk_at "len"))
 | (with_reducible show @LT.lt Nat _ _ _; first | omega | (walk_at "len") | exact Jdy (by omega) | exact Jdy (by walk_at "len"))
 | (with_reducible show @LE.le Int _ _ _; omega) | (with_reducible show @LT.lt Int _ _ _; omega)
 | ((with_reducible refine JeJ ?_ ?_) <;> omega) | ((with_reducible refine Jgw ?_ ?_) <;> omega) | ((with_reducible refine Jgp ?_ ?_) <;> omega) | ((with_reducible refine JfE ?_) <;> omega)
 | exact J9 | exact Jr (by with_reducible assumption) _ _ _ J9 | exact SqL.of (by with_reducible assumption) | exact SqL.of J9 | exact SqT.of J9 | exact SqT.of (by with_reducible assumption) | exact Or.inl (by with_reducible assumption) | exact Or.inl (SqL.of (by with_reducible assumption)) | exact Or.inl (SqL.of J9)
 | exact Or.inl ⟨rfl,_,SqL.of (by with_reducible assumption)⟩ | exact Or.inl ⟨rfl,_,SqL.of J9⟩ | exact Or.inl ⟨rfl,_,by with_reducible assumption⟩ | exact ⟨_,by with_reducible assumption⟩ | exact ⟨_,SqL.of (by with_reducible assumption)⟩ | exact ⟨_,SqL.of J9⟩
 | exact ⟨by omega,by omega⟩ | assumption | walk_at "lk")
local macro_rules | `(tactic| walk_at "rd1") => `(tactic| first
 | (with_reducible refine Jda (by first | (simp only [List.set_cons_zero,List.set_cons_succ]; done) | (simp only [List.set_cons_zero,List.set_cons_succ]; rfl)) ?_)
 | (with_reducible refine iteT ?_) | (with_reducible refine iteF ?_) | (with_reducible refine Jgq ?_) | (with_reducible refine Jgs ?_)
 | ((fail_if_success apply JfC); (fail_if_success apply JeA); apply Exists.intro)
 | (apply And.intro; (· walk_at "cl"))
 | (refine Or.inl ⟨_,rfl,?_⟩) | (refine Or.inr (Or.inl ⟨_,rfl,?_⟩)) | (refine Or.inr (Or.inr (Or.inl ⟨_,rfl,?_⟩))) | (refine Or.inr (Or.inr (Or.inr (Or.inl ⟨_,rfl,?_⟩)))) | (refine Or.inr (Or.inr (Or.inr (Or.inr ⟨_,_,rfl,by with_reducible assumption,?_⟩)))))
local macro_rules | `(tactic| walk_at "rd") => `(tactic| repeat (walk_at "rd1"))
noncomputable def letV (m : List Nat) (c : Nat) : Bool := (m.map fun s => J3j (T [s]) (T [c])).any id
noncomputable def cntV (m l : List Nat) : Nat := (l.filter (letV m)).length
noncomputable def Ja6 (n : Int) (m : List Nat) (d : Int) (l : List Nat) : Bool := decide (n < (cntV m (l.drop (l.length - d.toNat)) : Int))
noncomputable def J3E (n : Int) (m : List Nat) (d : Int) (l : List Nat) : Bool := if (l.length : Int) < d then false else decide ((cntV m (l.drop (l.length - d.toNat)) : Int) < n)
noncomputable def J7S (C : Addr) (H : Hp) (p : Addr) (n : Int) (m : List Nat) (d : Int) : Prop := ∃ dx,H p = some (.ins C dx [("many",.int n),("marks",T m),("days",.int d)])
theorem J7S.same {C : Addr} {H H' : Hp} {p : Addr} {n d : Int} {m : List Nat} (h : J7S C H p n m d) (s : Same H H') : J7S C H' p n m d := let ⟨dx,e⟩ := h; ⟨dx,s _ _ e⟩
theorem J9b (x y z : V) : List.lookup ("many" : Str) [(("many" : Str),x),("marks",y),("days",z)] = some x := by rw [List.lookup_cons,beq_self_eq_true]
theorem J6Z (x y z : V) : List.lookup ("marks" : Str) [(("many" : Str),x),("marks",y),("days",z)] = some y := by
 rw [List.lookup_cons,beq_eq_false_iff_ne.mpr (by decide +kernel),List.lookup_cons,beq_self_eq_true]
theorem J6f (x y z : V) : List.lookup ("days" : Str) [(("many" : Str),x),("marks",y),("days",z)] = some z := by
 rw [List.lookup_cons,beq_eq_false_iff_ne.mpr (by decide +kernel),List.lookup_cons,beq_eq_false_iff_ne.mpr (by decide +kernel),List.lookup_cons,beq_self_eq_true]
theorem put3 (n : Int) (m : List Nat) (d : Int) : putF "days" (.int d) (putF "marks" (T m) (putF "many" (.int n) [])) = ([("many",.int n),("marks",T m),("days",.int d)] : List (Str × V)) := by
 have h1 : ¬ (("many" : Str) = "marks") := by decide +kernel
 have h2 : ¬ (("many" : Str) = "days") := by decide +kernel
 have h3 : ¬ (("marks" : Str) = "days") := by decide +kernel
 simp [putF,h1,h2,h3]
noncomputable def Jfh : Sp := fun vs H Q _ => ∃ m c,vs = [T m,T [c]] ∧ m.length ≤ 1000 ∧ ∀ H',Same H H' → Q (.bl (letV m c)) H'
noncomputable def JcA : Sp := fun vs H Q _ => ∃ m l,vs = [T m,T l] ∧ m.length ≤ 1000 ∧ l.length ≤ 1000 ∧ ∀ H',Same H H' → Q (.int (cntV m l)) H'
noncomputable def J4X (C : Addr) : Sp := fun vs H Q _ => ∃ p dx n m d,vs = [.ref p,.int n,T m,.int d] ∧ H p = some (.ins C dx []) ∧ Q .non (upd (upd (upd H p (.ins C dx (putF "many" (.int n) []))) p (.ins C dx (putF "marks" (T m) (putF "many" (.int n) [])))) p (.ins C dx [("many",.int n),("marks",T m),("days",.int d)]))
noncomputable def Jbr (C : Addr) (B : Int → List Nat → Int → List Nat → Bool) : Sp := fun vs H Q _ => ∃ p n m d l,vs = [.ref p,T l] ∧ J7S C H p n m d ∧ m.length ≤ 1000 ∧ 0 ≤ d ∧ l.length ≤ 1000 ∧ ∀ H',Same H H' → Q (.bl (B n m d l)) H'
noncomputable def nevB (w l : List Nat) : Bool := if l.length < w.length then false else ((w.zip (l.drop (l.length - w.length))).map fun p => J3j (T [p.1]) (T [p.2])).all id
noncomputable def J9Y (C : Addr) (H : Hp) (p : Addr) (w : List Nat) : Prop := ∃ dx,H p = some (.ins C dx [("word",T w)])
theorem J9Y.same {C : Addr} {H H' : Hp} {p : Addr} {w : List Nat} (h : J9Y C H p w) (s : Same H H') : J9Y C H' p w := let ⟨dx,e⟩ := h; ⟨dx,s _ _ e⟩
theorem wl (v : V) : List.lookup ("word" : Str) [(("word" : Str),v)] = some v := by rw [List.lookup_cons,beq_self_eq_true]
theorem J93 (x y : V) : List.lookup ("left" : Str) [(("left" : Str),x),("right",y)] = some x := by rw [List.lookup_cons,beq_self_eq_true]
theorem J78 (x y : V) : List.lookup ("right" : Str) [(("left" : Str),x),("right",y)] = some y := by
 rw [List.lookup_cons,beq_eq_false_iff_ne.mpr (by decide +kernel),List.lookup_cons,beq_self_eq_true]
theorem Ja5 (x : V) : List.lookup ("inner" : Str) [(("inner" : Str),x)] = some x := by rw [List.lookup_cons,beq_self_eq_true]
theorem put2 (x y : V) : putF "right" y (putF "left" x []) = ([("left",x),("right",y)] : List (Str × V)) := by
 have h1 : ¬ (("left" : Str) = "right") := by decide +kernel
 simp [putF,h1]
noncomputable def Jbs (C : Addr) : Sp := fun vs H Q _ => ∃ p dx w,vs = [.ref p,T w] ∧ H p = some (.ins C dx []) ∧ Q .non (upd H p (.ins C dx [("word",T w)]))
noncomputable def Jf7 (C : Addr) : Sp := fun vs H Q _ => ∃ p w l,vs = [.ref p,T l] ∧ J9Y C H p w ∧ w.length ≤ 1000 ∧ l.length ≤ 1000 ∧ ∀ H',Same H H' → Q (.bl (nevB w l)) H'
noncomputable def J4K (C : Addr) : Sp := fun vs H Q _ => ∃ p dx a b,vs = [.ref p,.ref a,.ref b] ∧ H p = some (.ins C dx []) ∧ Q .non (upd (upd H p (.ins C dx (putF "left" (.ref a) []))) p (.ins C dx [("left",.ref a),("right",.ref b)]))
noncomputable def J9V (C : Addr) : Sp := fun vs H Q _ => ∃ p dx a,vs = [.ref p,.ref a] ∧ H p = some (.ins C dx []) ∧ Q .non (upd H p (.ins C dx [("inner",.ref a)]))
inductive R where
 | nev (w : List Nat)
 | most (n : Int) (m : List Nat) (d : Int)
 | least (n : Int) (m : List Nat) (d : Int)
 | both (l r : R)
 | either (l r : R)
 | neg (i : R)
noncomputable def R.depth : R → Nat
 | .nev _ => 0
 | .most _ _ _ => 0
 | .least _ _ _ => 0
 | .both l r => max l.depth r.depth + 1
 | .either l r => max l.depth r.depth + 1
 | .neg i => i.depth + 1
noncomputable def R.bad : R → List Nat → Bool
 | .nev w,x => nevB w x
 | .most n m d,x => Ja6 n m d x
 | .least n m d,x => J3E n m d x
 | .both l r,x => l.bad x || r.bad x
 | .either l r,x => l.bad x && r.bad x
 | .neg i,x => !i.bad x
noncomputable def R.reach : R → Int
 | .nev w => w.length
 | .most _ _ d => d
 | .least _ _ d => d
 | .both l r => if r.reach > l.reach then r.reach else l.reach
 | .either l r => if r.reach > l.reach then r.reach else l.reach
 | .neg i => i.reach
structure Cs where
 nev : Addr
 most : Addr
 least : Addr
 both : Addr
 either : Addr
 neg : Addr
noncomputable def R.cls (c : Cs) : R → Addr
 | .nev _ => c.nev
 | .most _ _ _ => c.most
 | .least _ _ _ => c.least
 | .both _ _ => c.both
 | .either _ _ => c.either
 | .neg _ => c.neg
noncomputable def JD (c : Cs) (H : Hp) : R → Addr → Prop
 | .nev w,p => J9Y c.nev H p w ∧ w.length ≤ 1000
 | .most n m d,p => J7S c.most H p n m d ∧ m.length ≤ 1000 ∧ 0 ≤ d
 | .least n m d,p => J7S c.least H p n m d ∧ m.length ≤ 1000 ∧ 0 ≤ d
 | .both l r,p => ∃ dx a b,H p = some (.ins c.both dx [("left",.ref a),("right",.ref b)]) ∧ JD c H l a ∧ JD c H r b
 | .either l r,p => ∃ dx a b,H p = some (.ins c.either dx [("left",.ref a),("right",.ref b)]) ∧ JD c H l a ∧ JD c H r b
 | .neg i,p => ∃ dx a,H p = some (.ins c.neg dx [("inner",.ref a)]) ∧ JD c H i a
theorem JD.same {c : Cs} {H H' : Hp} (s : Same H H') : ∀ {r : R} {p : Addr},JD c H r p → JD c H' r p
 | .nev _,_,h => ⟨h.1.same s,h.2⟩
 | .most _ _ _,_,h => ⟨h.1.same s,h.2⟩
 | .least _ _ _,_,h => ⟨h.1.same s,h.2⟩
 | .both _ _,_,⟨dx,a,b,e,h1,h2⟩ => ⟨dx,a,b,s _ _ e,JD.same s h1,JD.same s h2⟩
 | .either _ _,_,⟨dx,a,b,e,h1,h2⟩ => ⟨dx,a,b,s _ _ e,JD.same s h1,JD.same s h2⟩
 | .neg _,_,⟨dx,a,e,h1⟩ => ⟨dx,a,s _ _ e,JD.same s h1⟩
theorem JD.obj {c : Cs} {H : Hp} {r : R} {p : Addr} (h : JD c H r p) : ∃ dx fs,H p = some (.ins (r.cls c) dx fs) ∧ fs.lookup ("bad" : Str) = none ∧ fs.lookup ("reach" : Str) = none ∧ fs.lookup ("text" : Str) = none := by
 have no1 : ∀ (x m : Str) (v : V),m ≠ x → List.lookup m [(x,v)] = none := fun x m v hm => by rw [List.lookup_cons,beq_eq_false_iff_ne.mpr hm]; rfl
 have no2 : ∀ (x y m : Str) (v u : V),m ≠ x → m ≠ y → List.lookup m [(x,v),(y,u)] = none := fun x y m v u h1 h2 => by rw [List.lookup_cons,beq_eq_false_iff_ne.mpr h1]; exact no1 _ _ _ h2
 have no3 : ∀ (x y z m : Str) (v u t : V),m ≠ x → m ≠ y → m ≠ z → List.lookup m [(x,v),(y,u),(z,t)] = none := fun x y z m v u t h1 h2 h3 => by rw [List.lookup_cons,beq_eq_false_iff_ne.mpr h1]; exact no2 _ _ _ _ _ h2 h3
 cases r with
 | nev w =>
  obtain ⟨⟨dx,e⟩,_⟩ := h
  exact ⟨dx,_,e,no1 _ _ _ (by decide +kernel),no1 _ _ _ (by decide +kernel),no1 _ _ _ (by decide +kernel)⟩
 | most n m d =>
  obtain ⟨⟨dx,e⟩,_⟩ := h
  exact ⟨dx,_,e,no3 _ _ _ _ _ _ _ (by decide +kernel) (by decide +kernel) (by decide +kernel),no3 _ _ _ _ _ _ _ (by decide +kernel) (by decide +kernel) (by decide +kernel),no3 _ _ _ _ _ _ _ (by decide +kernel) (by decide +kernel) (by decide +kernel)⟩
 | least n m d =>
  obtain ⟨⟨dx,e⟩,_⟩ := h
  exact ⟨dx,_,e,no3 _ _ _ _ _ _ _ (by decide +kernel) (by decide +kernel) (by decide +kernel),no3 _ _ _ _ _ _ _ (by decide +kernel) (by decide +kernel) (by decide +kernel),no3 _ _ _ _ _ _ _ (by decide +kernel) (by decide +kernel) (by decide +kernel)⟩
 | both l r =>
  obtain ⟨dx,a,b,e,_⟩ := h
  exact ⟨dx,_,e,no2 _ _ _ _ _ (by decide +kernel) (by decide +kernel),no2 _ _ _ _ _ (by decide +kernel) (by decide +kernel),no2 _ _ _ _ _ (by decide +kernel) (by decide +kernel)⟩
 | either l r =>
  obtain ⟨dx,a,b,e,_⟩ := h
  exact ⟨dx,_,e,no2 _ _ _ _ _ (by decide +kernel) (by decide +kernel),no2 _ _ _ _ _ (by decide +kernel) (by decide +kernel),no2 _ _ _ _ _ (by decide +kernel) (by decide +kernel)⟩
 | neg i =>
  obtain ⟨dx,a,e,_⟩ := h
  exact ⟨dx,_,e,no1 _ _ _ (by decide +kernel),no1 _ _ _ (by decide +kernel),no1 _ _ _ (by decide +kernel)⟩
noncomputable def Jg3 (c : Cs) (r : R) : Sp := fun vs H Q _ => ∃ p l,vs = [.ref p,T l] ∧ JD c H r p ∧ l.length ≤ 1000 ∧ ∀ H',Same H H' → Q (.bl (r.bad l)) H'
noncomputable def R.fine : R → Prop
 | .nev w => 1 ≤ w.length ∧ w.length ≤ 7
 | .most _ _ d => 1 ≤ d ∧ d ≤ 7
 | .least _ _ d => 1 ≤ d ∧ d ≤ 7
 | .both l r => l.fine ∧ r.fine
 | .either l r => l.fine ∧ r.fine
 | .neg i => i.fine
theorem J5E {α : Type} (l : List α) (k d : Nat) (h1 : d ≤ k) (h2 : k ≤ l.length) : (l.drop (l.length - k)).drop ((l.drop (l.length - k)).length - d) = l.drop (l.length - d) := by
 rw [List.drop_drop,List.length_drop]
 congr 1
 omega
theorem R.bad_last : ∀ (r : R),r.fine → ∀ (l : List Nat) (k : Nat),r.reach ≤ (k : Int) → k ≤ l.length → r.bad l = r.bad (l.drop (l.length - k))
 | .nev w,_,l,k,h1,h2 => by
  have h1' : w.length ≤ k := by
   have : (w.length : Int) ≤ (k : Int) := h1
   omega
  show nevB w l = nevB w (l.drop (l.length - k))
  unfold nevB
  rw [if_neg (by omega),if_neg (by rw [List.length_drop]; omega),J5E l k w.length h1' h2]
 | .most n m d,hf,l,k,h1,h2 => by
  have h1' : d ≤ (k : Int) := h1
  have := hf.1
  show Ja6 n m d l = Ja6 n m d (l.drop (l.length - k))
  unfold Ja6
  rw [J5E l k d.toNat (by omega) h2]
 | .least n m d,hf,l,k,h1,h2 => by
  have h1' : d ≤ (k : Int) := h1
  have := hf.1
  show J3E n m d l = J3E n m d (l.drop (l.length - k))
  unfold J3E
  rw [if_neg (by omega),if_neg (by rw [List.length_drop]; omega),J5E l k d.toNat (by omega) h2]
 | .both x y,hf,l,k,h1,h2 => by
  have h1' : (if y.reach > x.reach then y.reach else x.reach) ≤ (k : Int) := h1
  have a : x.reach ≤ (k : Int) := by split at h1' <;> omega
  have b : y.reach ≤ (k : Int) := by split at h1' <;> omega
  show (x.bad l || y.bad l) = (x.bad _ || y.bad _)
  rw [R.bad_last x hf.1 l k a h2,R.bad_last y hf.2 l k b h2]
 | .either x y,hf,l,k,h1,h2 => by
  have h1' : (if y.reach > x.reach then y.reach else x.reach) ≤ (k : Int) := h1
  have a : x.reach ≤ (k : Int) := by split at h1' <;> omega
  have b : y.reach ≤ (k : Int) := by split at h1' <;> omega
  show (x.bad l && y.bad l) = (x.bad _ && y.bad _)
  rw [R.bad_last x hf.1 l k a h2,R.bad_last y hf.2 l k b h2]
 | .neg i,hf,l,k,h1,h2 => by
  show (!i.bad l) = (!i.bad _)
  rw [R.bad_last i hf l k h1 h2]
theorem Jay (ns : List Int) (lo hi : Option Int) : cutV (ns.map V.int) lo hi = (cutN ns lo hi).map V.int := by
 unfold cutV cutN
 rw [List.length_map,List.map_take,List.map_drop]
theorem Jem {α : Type} (l : List α) (a b : Int) (h0 : 0 ≤ a) (h1 : 0 ≤ b) : cutN l (some a) (some b) = (l.take b.toNat).drop a.toNat := by
 unfold cutN
 have e1 : HT.sIx l.length 0 (some a) = min a.toNat l.length := by
  show (if a < 0 then (a + (l.length : Int)).toNat else min a.toNat l.length) = _
  rw [if_neg (by omega)]
 have e2 : HT.sIx l.length l.length (some b) = min b.toNat l.length := by
  show (if b < 0 then (b + (l.length : Int)).toNat else min b.toNat l.length) = _
  rw [if_neg (by omega)]
 rw [e1,e2]
 refine List.ext_getElem? fun i => ?_
 rw [List.getElem?_take,List.getElem?_drop,List.getElem?_drop,List.getElem?_take]
 by_cases h : a.toNat ≤ l.length
 ·rw [Nat.min_eq_left h]
  by_cases h2 : a.toNat + i < l.length
  ·by_cases h3 : a.toNat + i < b.toNat
   ·rw [if_pos (by omega),if_pos h3]
   ·rw [if_neg (by omega),if_neg h3]
  ·rw [List.getElem?_eq_none (by omega)]
   split <;> split <;> rfl
 ·rw [Nat.min_eq_right (show l.length ≤ a.toNat by omega),List.getElem?_eq_none (i := l.length + i) (by omega),List.getElem?_eq_none (i := a.toNat + i) (by omega)]
  split <;> split <;> rfl
theorem R.bad_front (r : R) (hf : r.fine) (x l : List Nat) (h : r.reach ≤ (l.length : Int)) : r.bad (x ++ l) = r.bad l := by
 rw [R.bad_last r hf (x ++ l) l.length h (by rw [List.length_append]; omega)]
 congr 1
 rw [List.length_append,Nat.add_sub_cancel,List.drop_left]
noncomputable def rNev (c6 : Cs) : List V → Hp → VK → Prop := fun vs H Q => ∃ w,vs = [T w] ∧ w.length ≤ 1000 ∧ ∀ p H',Same H H' → JD c6 H' (.nev w) p → Q (.ref p) H'
noncomputable def JbO (c6 : Cs) : List V → Hp → VK → Prop := fun vs H Q => ∃ n m d,vs = [.int n,T m,.int d] ∧ m.length ≤ 1000 ∧ 0 ≤ d ∧ ∀ p H',Same H H' → JD c6 H' (.most n m d) p → Q (.ref p) H'
noncomputable def J8T (c6 : Cs) : List V → Hp → VK → Prop := fun vs H Q => ∃ n m d,vs = [.int n,T m,.int d] ∧ m.length ≤ 1000 ∧ 0 ≤ d ∧ ∀ p H',Same H H' → JD c6 H' (.least n m d) p → Q (.ref p) H'
noncomputable def JdK (c6 : Cs) : List V → Hp → VK → Prop := fun vs H Q => ∃ a b x y,vs = [.ref a,.ref b] ∧ JD c6 H x a ∧ JD c6 H y b ∧ ∀ p dx H',Same H H' → JD c6 H' (.both x y) p → H' p = some (.ins c6.both dx [("left",.ref a),("right",.ref b)]) → Q (.ref p) H'
noncomputable def JbJ (c6 : Cs) : List V → Hp → VK → Prop := fun vs H Q => ∃ a b x y,vs = [.ref a,.ref b] ∧ JD c6 H x a ∧ JD c6 H y b ∧ ∀ p dx H',Same H H' → JD c6 H' (.either x y) p → H' p = some (.ins c6.either dx [("left",.ref a),("right",.ref b)]) → Q (.ref p) H'
noncomputable def rNot (c6 : Cs) : List V → Hp → VK → Prop := fun vs H Q => ∃ a x,vs = [.ref a] ∧ JD c6 H x a ∧ ∀ p dx H',Same H H' → JD c6 H' (.neg x) p → H' p = some (.ins c6.neg dx [("inner",.ref a)]) → Q (.ref p) H'
theorem Jbd {c6 : Cs} : ∀ vs H Q,rNev c6 vs H Q → ∀ x dx,H x = none → H dx = none → dx ≠ x → Jbs c6.nev (.ref x :: (vs ++ [])) (upd (upd H dx (.own x)) x (.ins c6.nev dx [])) (fun v H2 => v = .non ∧ Q (.ref x) H2) E0 := by
 rintro _ H Q ⟨w,rfl,hw,q⟩ x dx nx ndx _
 exact ⟨x,dx,w,rfl,J9,rfl,q x _ (((Jr ndx _).upd nx).upd nx) ⟨⟨dx,J9⟩,hw⟩⟩
theorem J9g {c6 : Cs} : ∀ vs H Q,JbO c6 vs H Q → ∀ x dx,H x = none → H dx = none → dx ≠ x → J4X c6.most (.ref x :: (vs ++ [])) (upd (upd H dx (.own x)) x (.ins c6.most dx [])) (fun v H2 => v = .non ∧ Q (.ref x) H2) E0 := by
 rintro _ H Q ⟨n,m,d,rfl,hm,hd,q⟩ x dx nx ndx _
 exact ⟨x,dx,n,m,d,rfl,J9,rfl,q x _ (((((Jr ndx _).upd nx).upd nx).upd nx).upd nx) ⟨⟨dx,J9⟩,hm,hd⟩⟩
theorem J7g {c6 : Cs} : ∀ vs H Q,J8T c6 vs H Q → ∀ x dx,H x = none → H dx = none → dx ≠ x → J4X c6.least (.ref x :: (vs ++ [])) (upd (upd H dx (.own x)) x (.ins c6.least dx [])) (fun v H2 => v = .non ∧ Q (.ref x) H2) E0 := by
 rintro _ H Q ⟨n,m,d,rfl,hm,hd,q⟩ x dx nx ndx _
 exact ⟨x,dx,n,m,d,rfl,J9,rfl,q x _ (((((Jr ndx _).upd nx).upd nx).upd nx).upd nx) ⟨⟨dx,J9⟩,hm,hd⟩⟩
theorem JbM {c6 : Cs} : ∀ vs H Q,JdK c6 vs H Q → ∀ x dx,H x = none → H dx = none → dx ≠ x → J4K c6.both (.ref x :: (vs ++ [])) (upd (upd H dx (.own x)) x (.ins c6.both dx [])) (fun v H2 => v = .non ∧ Q (.ref x) H2) E0 := by
 rintro _ H Q ⟨a,b,y,z,rfl,ha,hb,q⟩ x dx nx ndx _
 have ss := ((((Jr ndx (.own x)).upd nx (o := .ins c6.both dx [])).upd nx (o := .ins c6.both dx (putF "left" (.ref a) []))).upd nx (o := .ins c6.both dx [("left",.ref a),("right",.ref b)]))
 exact ⟨x,dx,a,b,rfl,J9,rfl,q x dx _ ss ⟨dx,a,b,J9,ha.same ss,hb.same ss⟩ J9⟩
theorem Jct {c6 : Cs} : ∀ vs H Q,JbJ c6 vs H Q → ∀ x dx,H x = none → H dx = none → dx ≠ x → J4K c6.either (.ref x :: (vs ++ [])) (upd (upd H dx (.own x)) x (.ins c6.either dx [])) (fun v H2 => v = .non ∧ Q (.ref x) H2) E0 := by
 rintro _ H Q ⟨a,b,y,z,rfl,ha,hb,q⟩ x dx nx ndx _
 have ss := ((((Jr ndx (.own x)).upd nx (o := .ins c6.either dx [])).upd nx (o := .ins c6.either dx (putF "left" (.ref a) []))).upd nx (o := .ins c6.either dx [("left",.ref a),("right",.ref b)]))
 exact ⟨x,dx,a,b,rfl,J9,rfl,q x dx _ ss ⟨dx,a,b,J9,ha.same ss,hb.same ss⟩ J9⟩
theorem Jfv {c6 : Cs} : ∀ vs H Q,rNot c6 vs H Q → ∀ x dx,H x = none → H dx = none → dx ≠ x → J9V c6.neg (.ref x :: (vs ++ [])) (upd (upd H dx (.own x)) x (.ins c6.neg dx [])) (fun v H2 => v = .non ∧ Q (.ref x) H2) E0 := by
 rintro _ H Q ⟨a,y,rfl,ha,q⟩ x dx nx ndx _
 have ss := (((Jr ndx (.own x)).upd nx (o := .ins c6.neg dx [])).upd nx (o := .ins c6.neg dx [("inner",.ref a)]))
 exact ⟨x,dx,a,rfl,J9,rfl,q x dx _ ss ⟨dx,a,J9,ha.same ss⟩ J9⟩
theorem J3u {f : Str} {v : V} {r : List (Str × V)} : List.lookup f ((f,v) :: r) = some v := by rw [List.lookup_cons,beq_self_eq_true]
theorem JK {f g : Str} {v : V} {r : List (Str × V)} (h : f ≠ g) : List.lookup f ((g,v) :: r) = List.lookup f r := by rw [List.lookup_cons,beq_eq_false_iff_ne.mpr h]
theorem putN {f : Str} {v : V} : ∀ {fs : List (Str × V)},(∀ g ∈ fs.map (·.1),g ≠ f) → putF f v fs = fs ++ [(f,v)]
 | [],_ => rfl
 | (g,x) :: r,h => by
  have h1 : ¬ g = f := h g (by simp)
  have ih := putN (f := f) (v := v) (fs := r) fun g hg => h g (by rw [List.map_cons]; exact List.mem_cons_of_mem _ hg)
  show (if g = f then (g,v) :: r else (g,x) :: putF f v r) = _
  rw [if_neg h1,ih]
  rfl
noncomputable abbrev fP (a b c d e : V) : List (Str × V) := [("name",a),("skills",b),("most",c),("carried",d),("past",e)]
noncomputable abbrev fH (a b c d e f g h : V) : List (Str × V) := [("days",a),("kinds",b),("needs",c),("persons",d),("leave",e),("wishes",f),("rules",g),("pairs",h)]
theorem J2n (a b c d e : V) : List.lookup ("name" : Str) (fP a b c d e) = some a := J3u
theorem J3t (a b c d e : V) : List.lookup ("skills" : Str) (fP a b c d e) = some b := by rw [JK (by decide +kernel),J3u]
theorem J5i (a b c d e : V) : List.lookup ("most" : Str) (fP a b c d e) = some c := by rw [JK (by decide +kernel),JK (by decide +kernel),J3u]
theorem J4C (a b c d e : V) : List.lookup ("carried" : Str) (fP a b c d e) = some d := by rw [JK (by decide +kernel),JK (by decide +kernel),JK (by decide +kernel),J3u]
theorem J5g (a b c d e : V) : List.lookup ("past" : Str) (fP a b c d e) = some e := by rw [JK (by decide +kernel),JK (by decide +kernel),JK (by decide +kernel),JK (by decide +kernel),J3u]
theorem J6l (a b c d e f g h : V) : List.lookup ("days" : Str) (fH a b c d e f g h) = some a := J3u
theorem J47 (a b c d e f g h : V) : List.lookup ("kinds" : Str) (fH a b c d e f g h) = some b := by rw [JK (by decide +kernel),J3u]
theorem J44 (a b c d e f g h : V) : List.lookup ("needs" : Str) (fH a b c d e f g h) = some c := by rw [JK (by decide +kernel),JK (by decide +kernel),J3u]
theorem J23 (a b c d e f g h : V) : List.lookup ("persons" : Str) (fH a b c d e f g h) = some d := by rw [JK (by decide +kernel),JK (by decide +kernel),JK (by decide +kernel),J3u]
theorem J42 (a b c d e f g h : V) : List.lookup ("leave" : Str) (fH a b c d e f g h) = some e := by rw [JK (by decide +kernel),JK (by decide +kernel),JK (by decide +kernel),JK (by decide +kernel),J3u]
theorem J5L (a b c d e f g h : V) : List.lookup ("wishes" : Str) (fH a b c d e f g h) = some f := by rw [JK (by decide +kernel),JK (by decide +kernel),JK (by decide +kernel),JK (by decide +kernel),JK (by decide +kernel),J3u]
theorem J5o (a b c d e f g h : V) : List.lookup ("rules" : Str) (fH a b c d e f g h) = some g := by rw [JK (by decide +kernel),JK (by decide +kernel),JK (by decide +kernel),JK (by decide +kernel),JK (by decide +kernel),JK (by decide +kernel),J3u]
theorem J5l (a b c d e f g h : V) : List.lookup ("pairs" : Str) (fH a b c d e f g h) = some h := by rw [JK (by decide +kernel),JK (by decide +kernel),JK (by decide +kernel),JK (by decide +kernel),JK (by decide +kernel),JK (by decide +kernel),JK (by decide +kernel),J3u]
noncomputable def J3O (C : Addr) (H : Hp) (p : Addr) (nm sk : List Nat) (m c : Int) (pa : List Nat) : Prop := ∃ dx,H p = some (.ins C dx (fP (T nm) (T sk) (.int m) (.int c) (T pa)))
theorem J3O.keeps {C : Addr} {H H' : Hp} {p : Addr} {nm sk pa : List Nat} {m c : Int} (h : J3O C H p nm sk m c pa) (k : JO H H') : J3O C H' p nm sk m c pa := let ⟨dx,e⟩ := h; ⟨dx,k _ _ e fun zs z => by cases z⟩
noncomputable def J5n (C : Addr) (H : Hp) (p : Addr) (d : Int) (k : List Nat) (a1 a2 a3 a4 a5 a6 : Addr) : Prop := ∃ dx,H p = some (.ins C dx (fH (.int d) (T k) (.ref a1) (.ref a2) (.ref a3) (.ref a4) (.ref a5) (.ref a6)))
theorem J5n.keeps {C : Addr} {H H' : Hp} {p : Addr} {d : Int} {k : List Nat} {a1 a2 a3 a4 a5 a6 : Addr} (h : J5n C H p d k a1 a2 a3 a4 a5 a6) (kk : JO H H') : J5n C H' p d k a1 a2 a3 a4 a5 a6 := let ⟨dx,e⟩ := h; ⟨dx,kk _ _ e fun zs z => by cases z⟩
noncomputable def But (p : Addr) (H H' : Hp) : Prop := ∀ a o,a ≠ p → H a = some o → H' a = some o
theorem But.refl (p : Addr) (H : Hp) : But p H H := fun _ _ _ h => h
theorem But.at {p : Addr} {H H' : Hp} {o : HO} (b : But p H H') : But p H (upd H' p o) := fun a u n e => by rw [Ji n]; exact b a u n e
theorem But.new {p l : Addr} {H H' : Hp} {o : HO} (b : But p H H') (hl : H' l = none) : But p H (upd H' l o) := fun a u n e => by
 have := b a u n e
 rw [Ji (Je this hl)]; exact this
noncomputable def J9G (C : Addr) : Sp := fun vs H Q _ => ∃ p dx a b c d e,vs = [.ref p,a,b,c,d,e] ∧ H p = some (.ins C dx []) ∧ ∀ H',But p H H' → H' p = some (.ins C dx (fP a b c d e)) → Q .non H'
noncomputable def J9v (C : Addr) : Sp := fun vs H Q _ => ∃ p dx d k b1 b2 b3 b4 b5 b6 x1 x2 x3 x4 x5 x6,vs = [.ref p,d,k,.ref b1,.ref b2,.ref b3,.ref b4,.ref b5,.ref b6] ∧ H p = some (.ins C dx []) ∧
 H b1 = some (.lst x1) ∧ H b2 = some (.lst x2) ∧ H b3 = some (.lst x3) ∧ H b4 = some (.lst x4) ∧ H b5 = some (.lst x5) ∧ H b6 = some (.lst x6) ∧
 ∀ H' a1 a2 a3 a4 a5 a6,But p H H' → H' p = some (.ins C dx (fH d k (.ref a1) (.ref a2) (.ref a3) (.ref a4) (.ref a5) (.ref a6))) → H' a1 = some (.lst x1) → H' a2 = some (.lst x2) → H' a3 = some (.lst x3) → H' a4 = some (.lst x4) → H' a5 = some (.lst x5) → H' a6 = some (.lst x6) →
  H a1 = none → H a2 = none → H a3 = none → H a4 = none → H a5 = none → H a6 = none → Q .non H'
noncomputable def rPer (C : Addr) : List V → Hp → VK → Prop := fun vs H Q => ∃ nm sk m c pa,vs = [T nm,T sk,.int m,.int c,T pa] ∧ ∀ p H',Same H H' → H p = none → J3O C H' p nm sk m c pa → Q (.ref p) H'
noncomputable def rHou (C : Addr) : List V → Hp → VK → Prop := fun vs H Q => ∃ d k b1 b2 b3 b4 b5 b6 x1 x2 x3 x4 x5 x6,vs = [.int d,T k,.ref b1,.ref b2,.ref b3,.ref b4,.ref b5,.ref b6] ∧
 H b1 = some (.lst x1) ∧ H b2 = some (.lst x2) ∧ H b3 = some (.lst x3) ∧ H b4 = some (.lst x4) ∧ H b5 = some (.lst x5) ∧ H b6 = some (.lst x6) ∧
 ∀ p H' a1 a2 a3 a4 a5 a6,Same H H' → J5n C H' p d k a1 a2 a3 a4 a5 a6 → H' a1 = some (.lst x1) → H' a2 = some (.lst x2) → H' a3 = some (.lst x3) → H' a4 = some (.lst x4) → H' a5 = some (.lst x5) → H' a6 = some (.lst x6) →
  H a1 = none → H a2 = none → H a3 = none → H a4 = none → H a5 = none → H a6 = none → Q (.ref p) H'
theorem J7R {H H' : Hp} {x dx : Addr} {u o : HO} (nx : H x = none) (nd : H dx = none) (b : But x (upd (upd H dx u) x o) H') : Same H H' := fun a v e => by
 have h1 : a ≠ x := Je e nx
 refine b a v h1 ?_
 rw [Ji h1,Ji (Je e nd)]
 exact e
theorem J2W {H : Hp} {x dx a : Addr} {u o : HO} (h : upd (upd H dx u) x o a = none) : H a = none := by
 have h1 : a ≠ x := fun z => by subst z; rw [J9] at h; cases h
 rw [Ji h1] at h
 have h2 : a ≠ dx := fun z => by subst z; rw [J9] at h; cases h
 rw [Ji h2] at h
 exact h
theorem J4d {H : Hp} {x dx a : Addr} {u o v : HO} (nx : H x = none) (nd : H dx = none) (e : H a = some v) : upd (upd H dx u) x o a = some v := by
 rw [Ji (Je e nx),Ji (Je e nd)]; exact e
theorem JdG {C : Addr} : ∀ vs H Q,rPer C vs H Q → ∀ x dx,H x = none → H dx = none → dx ≠ x → J9G C (.ref x :: (vs ++ [])) (upd (upd H dx (.own x)) x (.ins C dx [])) (fun v H2 => v = .non ∧ Q (.ref x) H2) E0 := by
 rintro _ H Q ⟨nm,sk,m,c,pa,rfl,q⟩ x dx nx nd _
 exact ⟨x,dx,_,_,_,_,_,rfl,J9,fun H' b e => ⟨rfl,q x H' (J7R nx nd b) nx ⟨dx,e⟩⟩⟩
theorem JdE {C : Addr} : ∀ vs H Q,rHou C vs H Q → ∀ x dx,H x = none → H dx = none → dx ≠ x → J9v C (.ref x :: (vs ++ [])) (upd (upd H dx (.own x)) x (.ins C dx [])) (fun v H2 => v = .non ∧ Q (.ref x) H2) E0 := by
 rintro _ H Q ⟨d,k,b1,b2,b3,b4,b5,b6,x1,x2,x3,x4,x5,x6,rfl,h1,h2,h3,h4,h5,h6,q⟩ x dx nx nd _
 exact ⟨x,dx,_,_,b1,b2,b3,b4,b5,b6,x1,x2,x3,x4,x5,x6,rfl,J9,J4d nx nd h1,J4d nx nd h2,J4d nx nd h3,J4d nx nd h4,J4d nx nd h5,J4d nx nd h6,
  fun H' a1 a2 a3 a4 a5 a6 b e e1 e2 e3 e4 e5 e6 n1 n2 n3 n4 n5 n6 => ⟨rfl,q x H' a1 a2 a3 a4 a5 a6 (J7R nx nd b) ⟨dx,e⟩ e1 e2 e3 e4 e5 e6 (J2W n1) (J2W n2) (J2W n3) (J2W n4) (J2W n5) (J2W n6)⟩⟩
noncomputable def J1Q (ns : List Int) (k : Int) : Int := ns.getD k.toNat 0
noncomputable def JcM (K : PySem.W.Frag) : Sp := fun vs H Q _ => ∃ (a : Addr) (ns : List Int) (k : Int),vs = [.ref a,.int k] ∧ SqL K H a (ns.map V.int) ∧ 0 ≤ k ∧ Q (.int (J1Q ns k)) H
noncomputable def JaG : Sp := fun vs H Q _ => ∃ (c m : Int),vs = [.int c,.int m] ∧ 0 ≤ m ∧ m ≤ 500 ∧ ∀ (a : Addr) (H' : Hp) (xs : List Int),Same H H' → H a = none → H' a = some (.lst (xs.map V.int)) → (xs.length : Int) = m → Q (.ref a) H'
noncomputable abbrev abc : List Nat := [97,98,99,100,101,102,103,104,105,106,107,108,109,110,111,112,113,114,115,116,117,118,119,120,121,122]
noncomputable abbrev ABC : List Nat := [65,66,67,68,69,70,71,72,73,74,75,76,77,78,79,80,81,82,83,84,85,86,87,88,89,90]
noncomputable def ltr (i : Int) : Nat := 97 + i.toNat
noncomputable def cap (i : Int) : Nat := 65 + i.toNat
theorem Je0 (i : Int) (h0 : 0 ≤ i) (h1 : i < 26) : atI abc i = some (ltr i) := by
 obtain ⟨c,h2,h3⟩ := J2E abc i h0 (by show i < 26; exact h1)
 have key : ∀ n : Nat,n < 26 → abc[n]? = some (97 + n) := by decide
 rw [h2]
 rw [key i.toNat (by omega)] at h3
 exact h3.symm
theorem Jfp (i : Int) (h0 : 0 ≤ i) (h1 : i < 26) : atI ABC i = some (cap i) := by
 obtain ⟨c,h2,h3⟩ := J2E ABC i h0 (by show i < 26; exact h1)
 have key : ∀ n : Nat,n < 26 → ABC[n]? = some (65 + n) := by decide
 rw [h2]
 rw [key i.toNat (by omega)] at h3
 exact h3.symm
noncomputable def J3H (c : Int) : List Nat := (List.range (1 + c % 4).toNat).map fun (k : Nat) => cap ((c / 4 + (0 + (k : Int)) * (1 + c / 104 % 6)) % 26)
noncomputable def J3P (c : Int) : List Nat := (List.range (c / 3 % 8).toNat).map fun (k : Nat) => ltr (c / (16 + 5 * (0 + (k : Int))) % 26)
theorem Jcp (c : Int) : (J3P c).length ≤ 7 := by
 unfold J3P
 rw [List.length_map,List.length_range]
 have h1 : c / 3 % 8 < 8 := Int.emod_lt_of_pos _ (by decide)
 omega
noncomputable def J37 (c p : Int) : List Nat := cutN (J3P c) none (some (c / 7 % ((J3P c).length + 1))) ++ [ltr ((c + p) % 26)] ++ cutN (J3P c) (some (c / 7 % ((J3P c).length + 1))) none
noncomputable def J4v (c p : Int) : List Nat := if J37 c p = [97,108,108] then [97,108,108,101] else J37 c p
theorem J7a {c p q : Int} (hp : 0 ≤ p ∧ p < 26) (hq : 0 ≤ q ∧ q < 26) (h : J37 c p = J37 c q) : p = q := by
 unfold J37 at h
 have h1 := List.append_cancel_right h
 have h2 := List.append_cancel_left h1
 have h3 : ltr ((c + p) % 26) = ltr ((c + q) % 26) := by simpa using h2
 unfold ltr at h3
 have a0 : 0 ≤ (c + p) % 26 := Int.emod_nonneg _ (by decide)
 have b0 : 0 ≤ (c + q) % 26 := Int.emod_nonneg _ (by decide)
 omega
theorem J7Z {c p q : Int} (hp : 0 ≤ p ∧ p < 26) (hq : 0 ≤ q ∧ q < 26) (h : J4v c p = J4v c q) : p = q := by
 have hl : ∀ p q : Int,0 ≤ p → J37 c p = [97,108,108] → J37 c q = [97,108,108,101] → False := fun p q _ e1 e2 => by
  have l1 := congrArg List.length e1
  have l2 := congrArg List.length e2
  unfold J37 at l1 l2
  simp only [List.length_append,List.length_cons,List.length_nil] at l1 l2
  omega
 unfold J4v at h
 by_cases h1 : J37 c p = [97,108,108] <;> by_cases h2 : J37 c q = [97,108,108]
 ·exact J7a hp hq (h1.trans h2.symm)
 ·rw [if_pos h1,if_neg h2] at h
  exact (hl p q hp.1 h1 h.symm).elim
 ·rw [if_neg h1,if_pos h2] at h
  exact (hl q p hq.1 h2 h).elim
 ·rw [if_neg h1,if_neg h2] at h
  exact J7a hp hq h
noncomputable def JcH : Sp := fun vs H Q _ => ∃ (c : Int),vs = [.int c] ∧ ∀ H',Same H H' → Q (T (J3H c)) H'
noncomputable def Jec : Sp := fun vs H Q _ => ∃ (c p : Int),vs = [.int c,.int p] ∧ ∀ H',Same H H' → Q (T (J4v c p)) H'
noncomputable def onI (g : Int → Nat) : V → V
 | .int i => T [g i]
 | v => v
theorem J9W (n : Nat) (g : Int → Nat) : (((List.range n).map fun (i : Nat) => V.int (0 + (i : Int))).map (onI g)) = (((List.range n).map fun (i : Nat) => g (0 + (i : Int))).map fun c => [c]).map T := by
 simp only [List.map_map]
 rfl
theorem Jdb {ns : List Int} {k : Int} (h0 : 0 ≤ k) (h : k < ns.length) : atI (ns.map V.int) k = some (.int (J1Q ns k)) := by
 obtain ⟨z,h1,h2⟩ := J46 ns k h0 h
 unfold J1Q
 rw [h1,List.getD_eq_getElem?_getD,h2]
 rfl
theorem JdL {ns : List Int} {k : Int} (h : (ns.length : Int) ≤ k) : J1Q ns k = 0 := by
 unfold J1Q
 rw [List.getD_eq_getElem?_getD,List.getElem?_eq_none (by omega)]
 rfl
noncomputable def Jeh : Sp := fun vs H Q _ => ∃ (l : List Nat) (n : Int),vs = [T l,.int n] ∧ l.length ≤ 10 ∧ ∀ (cs : List Nat) (H' : Hp),Same H H' → cs.length ≤ l.length → Q (T cs) H'
noncomputable def PerN (C : Addr) : List Nat → V → Hp → Prop := fun nm y H => ∃ a sk m c pa,y = .ref a ∧ J3O C H a nm sk m c pa
theorem PerN.keeps {C : Addr} (nm : List Nat) (y : V) (Ha Hb : Hp) (k : JO Ha Hb) (h : PerN C nm y Ha) : PerN C nm y Hb := by
 obtain ⟨a,sk,m,c,pa,e,h⟩ := h
 exact ⟨a,sk,m,c,pa,e,h.keeps k⟩
noncomputable def HouN (C1 C2 : Addr) (H : Hp) (h : Addr) (nms : List (List Nat)) : Prop := ∃ d k a1 a2 a3 a4 a5 a6 qs,J5n C2 H h d k a1 a2 a3 a4 a5 a6 ∧ H a2 = some (.lst qs) ∧ All2 (PerN C1) H nms qs
theorem HouN.same {C1 C2 : Addr} {H H' : Hp} {h : Addr} {nms : List (List Nat)} (x : HouN C1 C2 H h nms) (s : Same H H') : HouN C1 C2 H' h nms := by
 obtain ⟨d,k,a1,a2,a3,a4,a5,a6,qs,h1,h2,h3⟩ := x
 exact ⟨d,k,a1,a2,a3,a4,a5,a6,qs,h1.keeps s.keeps,s _ _ h2,h3.imp fun a y => PerN.keeps a y _ _ s.keeps⟩
noncomputable def JcF (C1 C2 : Addr) : Sp := fun vs H Q _ => ∃ (h : Addr) (nm : List Nat) (nms : List (List Nat)) (k : Nat),vs = [.ref h,T nm] ∧ HouN C1 C2 H h nms ∧ nms[k]? = some nm ∧ (∀ j < k,¬ nms[j]? = some nm) ∧ ∀ H',Same H H' → Q (.int (k : Nat)) H'
structure Nd where
 day : Int
 kind : Nat
 least : Int
 most : Int
noncomputable def NdAt : Nd → V → Hp → Prop := fun n y H => ∃ t,y = .ref t ∧ H t = some (.tup [.int n.day,T [n.kind],.int n.least,.int n.most])
theorem NdAt.keeps (n : Nd) (y : V) (Ha Hb : Hp) (k : JO Ha Hb) (h : NdAt n y Ha) : NdAt n y Hb := let ⟨t,e,h⟩ := h; ⟨t,e,k _ _ h fun zs z => by cases z⟩
noncomputable def J0k : List Nd → Int → Nat → Int × Int
 | [],_,_ => (0,0)
 | n :: r,d,k => if n.day = d ∧ n.kind = k then (n.least,n.most) else J0k r d k
noncomputable def LvT : List Nat × Int → V → Hp → Prop := fun l y H => ∃ t,y = .ref t ∧ H t = some (.tup [T l.1,.int l.2])
theorem LvT.keeps (n : List Nat × Int) (y : V) (Ha Hb : Hp) (k : JO Ha Hb) (h : LvT n y Ha) : LvT n y Hb := let ⟨t,e,h⟩ := h; ⟨t,e,k _ _ h fun zs z => by cases z⟩
noncomputable def lvI (l : List Nat × Int) : List V := [T l.1,.int l.2]
theorem JeS {K : PySem.W.Frag} {H : Hp} : ∀ {ls : List (List Nat × Int)} {vs : List V},All2 LvT H ls vs → All2 (TpAt K) H (ls.map lvI) vs
 | [],[],_ => trivial
 | l :: ls,v :: vs,h => ⟨by obtain ⟨t,e,h⟩ := h.1; exact ⟨t,e,SqT.of h,rfl⟩,JeS h.2⟩
 | [],_ :: _,h => h.elim
 | _ :: _,[],h => h.elim
noncomputable def J7Y (ls : List (List Nat × Int)) (nm : List Nat) (d : Int) : Bool := (ls.map lvI).any fun ys => eqVs ys [T nm,.int d]
theorem J7h {nds : List Nd} {i : Nat} {d : Int} {k : Nat} (h : ∀ j < i,∀ n,nds[j]? = some n → ¬ (n.day = d ∧ n.kind = k)) : J0k nds d k = J0k (nds.drop i) d k := by
 induction i generalizing nds with
 | zero => rfl
 | succ i ih =>
  cases nds with
  | nil => rfl
  | cons n r =>
   rw [List.drop_succ_cons,← ih (nds := r) fun j hj m hm => h (j + 1) (by omega) m (by simpa using hm)]
   rw [J0k,if_neg (h 0 (by omega) n rfl)]
theorem Jcn {nds : List Nd} {i : Nat} {d : Int} {k : Nat} {n : Nd} (h : ∀ j < i,∀ n,nds[j]? = some n → ¬ (n.day = d ∧ n.kind = k)) (hi : nds[i]? = some n) (e : n.day = d ∧ n.kind = k) : J0k nds d k = (n.least,n.most) := by
 rw [J7h h,List.drop_eq_getElem_cons (List.getElem?_eq_some_iff.mp hi).1,J0k]
 have : nds[i]'(List.getElem?_eq_some_iff.mp hi).1 = n := (List.getElem?_eq_some_iff.mp hi).2
 rw [this,if_pos e]
theorem Jbm {nds : List Nd} {d : Int} {k : Nat} (h : ∀ j < nds.length,∀ n,nds[j]? = some n → ¬ (n.day = d ∧ n.kind = k)) : J0k nds d k = (0,0) := by
 rw [J7h h,List.drop_eq_nil_of_le (Nat.le_refl _)]
 rfl
noncomputable def dut (l : List Nat) : Nat := (l.filter fun c => !decide (c = 45)).length
theorem J6i (l : List Nat) : ((((l.map fun c => T [c]).filter (fun x => !decide (x = T [45]))).map (fun x => x)).length) = dut l := by
 rw [List.length_map,List.filter_map,List.length_map]
 unfold dut
 congr 1
 refine List.filter_congr fun c _ => ?_
 show (!decide (T [c] = T [45])) = _
 by_cases h : c = 45
 ·subst h; simp
 ·rw [decide_eq_false h,decide_eq_false fun z => h (by simpa using J2p z)]
noncomputable def Jfd : Sp := fun vs H Q _ => ∃ l,vs = [T l] ∧ l.length ≤ 1000 ∧ ∀ H',Same H H' → Q (.int (dut l)) H'
structure Ps where
 nm : List Nat
 sk : List Nat
 most : Int
 car : Int
 past : List Nat
noncomputable def PsO (C : Addr) : Ps → V → Hp → Prop := fun n y H => ∃ a,y = .ref a ∧ J3O C H a n.nm n.sk n.most n.car n.past
theorem PsO.keeps {C : Addr} (n : Ps) (y : V) (Ha Hb : Hp) (k : JO Ha Hb) (h : PsO C n y Ha) : PsO C n y Hb := let ⟨a,e,h⟩ := h; ⟨a,e,h.keeps k⟩
theorem JdO {n i a : Nat} (h : (List.range n)[i]? = some a) : a = i ∧ i < n := by
 have hi := (List.getElem?_eq_some_iff.mp h).1
 rw [List.length_range] at hi
 rw [List.getElem?_range hi] at h
 exact ⟨(Option.some.inj h).symm,hi⟩
theorem newl {H : Hp} {l : Addr} {xs : List V} (h : H l = none) : ∃ H',H' = upd H l (.lst xs) ∧ H' l = some (.lst xs) ∧ Same H H' := ⟨_,rfl,J9,Jr h _⟩
theorem newt {H : Hp} {l : Addr} {xs : List V} (h : H l = none) : ∃ H',H' = upd H l (.tup xs) ∧ H' l = some (.tup xs) ∧ Same H H' := ⟨_,rfl,J9,Jr h _⟩
theorem JD.keeps {c : Cs} {H H' : Hp} (k : JO H H') : ∀ {r : R} {p : Addr},JD c H r p → JD c H' r p
 | .nev _,_,⟨⟨dx,e⟩,l⟩ => ⟨⟨dx,k _ _ e fun zs z => by cases z⟩,l⟩
 | .most _ _ _,_,⟨⟨dx,e⟩,l⟩ => ⟨⟨dx,k _ _ e fun zs z => by cases z⟩,l⟩
 | .least _ _ _,_,⟨⟨dx,e⟩,l⟩ => ⟨⟨dx,k _ _ e fun zs z => by cases z⟩,l⟩
 | .both _ _,_,⟨dx,a,b,e,h1,h2⟩ => ⟨dx,a,b,k _ _ e (fun zs z => by cases z),JD.keeps k h1,JD.keeps k h2⟩
 | .either _ _,_,⟨dx,a,b,e,h1,h2⟩ => ⟨dx,a,b,k _ _ e (fun zs z => by cases z),JD.keeps k h1,JD.keeps k h2⟩
 | .neg _,_,⟨dx,a,e,h1⟩ => ⟨dx,a,k _ _ e (fun zs z => by cases z),JD.keeps k h1⟩
noncomputable abbrev Wd := List Nat
noncomputable abbrev wOr : Wd := [111,114]
noncomputable abbrev wAnd : Wd := [97,110,100]
noncomputable abbrev wNot : Wd := [110,111,116]
noncomputable abbrev wL : Wd := [40]
noncomputable abbrev wR : Wd := [41]
noncomputable abbrev Jb4 : Wd := [110,101,118,101,114]
noncomputable abbrev J5Z : Wd := [109,111,115,116]
noncomputable abbrev J41 : Wd := [108,101,97,115,116]
noncomputable abbrev wOf : Wd := [111,102]
noncomputable abbrev wIn : Wd := [105,110]
noncomputable def isUp (c : Nat) : Bool := 65 ≤ c && c ≤ 90
noncomputable def J4w (c : Nat) : Bool := isUp c || c == 45 || c == 35 || c == 63
noncomputable def Ja0 (c : Nat) : Bool := isUp c || c == 45 || c == 35
noncomputable def J2K (w : Wd) : Bool := 1 ≤ w.length && w.length ≤ 7 && w.all J4w
noncomputable def J2L (w : Wd) : Bool := 1 ≤ w.length && w.length ≤ 8 && w.all Ja0 && decide w.Nodup
noncomputable def fig (lo hi : Nat) (w : Wd) : Option Nat := match w with
 | [c] => if 48 + lo ≤ c ∧ c ≤ 48 + hi then some (c - 48) else none
 | _ => none
noncomputable def JfH : List Wd → Option R
 | [a,w] => if a = Jb4 ∧ J2K w = true then some (.nev w) else none
 | [a,n,o,m,i,d] => if o = wOf ∧ i = wIn ∧ J2L m = true then
   match fig 0 7 n,fig 1 7 d with
   | some n,some d => if a = J5Z then some (.most n m d) else if a = J41 then some (.least n m d) else none
   | _,_ => none
  else none
 | _ => none
inductive Rds : Nat → List Wd → R → Prop where
 | plain {ws r} : JfH ws = some r → Rds 0 ws r
 | neg {ws r} : Rds 0 ws r → Rds 0 (wNot :: ws) (.neg r)
 | br {ws r} : Rds 2 ws r → Rds 0 (wL :: (ws ++ [wR])) r
 | up1 {ws r} : Rds 0 ws r → Rds 1 ws r
 | both {a b x y} : Rds 1 a x → Rds 0 b y → Rds 1 (a ++ wAnd :: b) (.both x y)
 | up2 {ws r} : Rds 1 ws r → Rds 2 ws r
 | either {a b x y} : Rds 2 a x → Rds 1 b y → Rds 2 (a ++ wOr :: b) (.either x y)
theorem JdM {w x : Wd} (h : J2K w = true) (c : Nat) (hc : c ∈ x) (hs : J4w c = false) : w ≠ x := by
 rintro rfl
 unfold J2K at h
 have h2 := ((Bool.and_eq_true _ _).mp h).2
 have := List.all_eq_true.mp h2 c hc
 rw [hs] at this
 cases this
theorem Jdw {w x : Wd} (h : J2L w = true) (c : Nat) (hc : c ∈ x) (hs : Ja0 c = false) : w ≠ x := by
 rintro rfl
 unfold J2L at h
 have h2 := ((Bool.and_eq_true _ _).mp ((Bool.and_eq_true _ _).mp h).1).2
 have := List.all_eq_true.mp h2 c hc
 rw [hs] at this
 cases this
noncomputable def R.sz : R → Nat
 | .nev _ => 1
 | .most _ _ _ => 1
 | .least _ _ _ => 1
 | .both l r => l.sz + r.sz + 1
 | .either l r => l.sz + r.sz + 1
 | .neg i => i.sz + 1
theorem R.sz_pos : ∀ r : R,1 ≤ r.sz
 | .nev _ => Nat.le_refl _
 | .most _ _ _ => Nat.le_refl _
 | .least _ _ _ => Nat.le_refl _
 | .both _ _ => Nat.le_add_left _ _
 | .either _ _ => Nat.le_add_left _ _
 | .neg _ => Nat.le_add_left _ _
noncomputable def R.lvl : R → Nat
 | .both _ _ => 1
 | .either _ _ => 2
 | _ => 0
theorem R.lvl2 : ∀ r : R,r.lvl ≤ 2
 | .nev _ => Nat.zero_le _
 | .most _ _ _ => Nat.zero_le _
 | .least _ _ _ => Nat.zero_le _
 | .both _ _ => Nat.le_succ 1
 | .either _ _ => Nat.le_refl 2
 | .neg _ => Nat.zero_le _
noncomputable def cnT (w : List Nat) (n : Int) (m : List Nat) (d : Int) : List Nat := w ++ [32] ++ [48 + n.toNat] ++ [32,111,102,32] ++ m ++ [32,105,110,32] ++ [48 + d.toNat]
noncomputable def brT (b : Bool) (t : List Nat) : List Nat := if b = true then [40,32] ++ t ++ [32,41] else t
noncomputable def R.tx : R → List Nat
 | .nev w => [110,101,118,101,114,32] ++ w
 | .most n m d => cnT [109,111,115,116] n m d
 | .least n m d => cnT [108,101,97,115,116] n m d
 | .both l r => brT (decide (1 < l.lvl)) l.tx ++ [32,97,110,100,32] ++ brT (decide (0 < r.lvl)) r.tx
 | .either l r => brT (decide (2 < l.lvl)) l.tx ++ [32,111,114,32] ++ brT (decide (1 < r.lvl)) r.tx
 | .neg i => [110,111,116,32] ++ brT (decide (0 < i.lvl)) i.tx
noncomputable def R.ok : R → Prop
 | .nev w => J2K w = true
 | .most n m d => (0 ≤ n ∧ n ≤ 7) ∧ (1 ≤ d ∧ d ≤ 7) ∧ J2L m = true
 | .least n m d => (0 ≤ n ∧ n ≤ 7) ∧ (1 ≤ d ∧ d ≤ 7) ∧ J2L m = true
 | .both l r => l.ok ∧ r.ok
 | .either l r => l.ok ∧ r.ok
 | .neg i => i.ok
theorem J5D {w : Wd} (h : J2K w = true) : 1 ≤ w.length ∧ w.length ≤ 7 := by
 unfold J2K at h
 simp only [Bool.and_eq_true,decide_eq_true_eq] at h
 exact h.1
theorem J4e {w : Wd} (h : J2L w = true) : 1 ≤ w.length ∧ w.length ≤ 8 := by
 unfold J2L at h
 simp only [Bool.and_eq_true,decide_eq_true_eq] at h
 exact h.1.1
theorem J1M (a b : List Nat) : JN 32 (a ++ 32 :: b) = JN 32 a ++ JN 32 b := by
 induction a with
 | nil => rfl
 | cons x r ih =>
  show JN 32 (x :: (r ++ 32 :: b)) = JN 32 (x :: r) ++ JN 32 b
  by_cases e : x = 32
  ·rw [JN,if_pos e,ih,JN,if_pos e]
   rfl
  ·rw [JN,if_neg e,ih,JN,if_neg e]
   obtain ⟨h,t,eq⟩ := J81 32 r
   rw [eq]
   rfl
theorem J3g {w : List Nat} (h : 32 ∉ w) : JN 32 w = [w] := by
 induction w with
 | nil => rfl
 | cons x r ih =>
  rw [JN,if_neg (fun e => h (by rw [e]; exact List.mem_cons_self)),ih (fun z => h (List.mem_cons_of_mem _ z))]
noncomputable def wcN (t : List Nat) : Nat := (JN 32 t).length
theorem Jdc {w : Wd} (h : J2K w = true) : 32 ∉ w := fun z => JdM h 32 z (by decide) rfl
theorem Jas {w : Wd} (h : J2L w = true) : 32 ∉ w := fun z => Jdw h 32 z (by decide) rfl
theorem Jdn {a m : List Nat} {n d : Int} (ha : 32 ∉ a) (hm : 32 ∉ m) : JN 32 (cnT a n m d) = [a,[48 + n.toNat],wOf,m,wIn,[48 + d.toNat]] := by
 have e : cnT a n m d = a ++ 32 :: ([48 + n.toNat] ++ 32 :: ([111,102] ++ 32 :: (m ++ 32 :: ([105,110] ++ 32 :: [48 + d.toNat])))) := by
  unfold cnT
  simp [List.append_assoc]
 have one : ∀ k : Nat,32 ∉ [48 + k] := fun k z => by
  have := List.mem_singleton.mp z
  omega
 rw [e,J1M,J1M,J1M,J1M,J1M,J3g ha,J3g (one _),J3g (w := [111,102]) (by decide),J3g hm,J3g (w := [105,110]) (by decide),J3g (one _)]
 rfl
theorem J8X (t : List Nat) : JN 32 ([110,111,116,32] ++ t) = wNot :: JN 32 t := by
 rw [show [110,111,116,32] ++ t = [110,111,116] ++ 32 :: t from rfl,J1M]
 rfl
theorem Je1 (t : List Nat) : JN 32 ([40,32] ++ t ++ [32,41]) = wL :: (JN 32 t ++ [wR]) := by
 rw [show [40,32] ++ t ++ [32,41] = [40] ++ 32 :: (t ++ 32 :: [41]) by simp,J1M,J1M]
 rfl
theorem J95 (a b : List Nat) : JN 32 (a ++ [32,97,110,100,32] ++ b) = JN 32 a ++ wAnd :: JN 32 b := by
 rw [show a ++ [32,97,110,100,32] ++ b = a ++ 32 :: ([97,110,100] ++ 32 :: b) by simp,J1M,J1M]
 rfl
theorem Jba (a b : List Nat) : JN 32 (a ++ [32,111,114,32] ++ b) = JN 32 a ++ wOr :: JN 32 b := by
 rw [show a ++ [32,111,114,32] ++ b = a ++ 32 :: ([111,114] ++ 32 :: b) by simp,J1M,J1M]
 rfl
theorem Rds.up {n m : Nat} {ws : List Wd} {r : R} (h : Rds n ws r) (h1 : n ≤ m) (h2 : m ≤ 2) : Rds m ws r := by
 have : (n = 0 ∨ n = 1 ∨ n = 2) ∧ (m = 0 ∨ m = 1 ∨ m = 2) := by omega
 obtain ⟨rfl | rfl | rfl,rfl | rfl | rfl⟩ := this
 ·exact h
 ·exact .up1 h
 ·exact .up2 (.up1 h)
 ·omega
 ·exact h
 ·exact .up2 h
 ·omega
 ·omega
 ·exact h
theorem JfL {w : Wd} (h : J2K w = true) : Rds 0 (JN 32 ([110,101,118,101,114,32] ++ w)) (.nev w) := by
 rw [show [110,101,118,101,114,32] ++ w = [110,101,118,101,114] ++ 32 :: w from rfl,J1M,J3g (w := [110,101,118,101,114]) (by decide),J3g (Jdc h)]
 refine .plain ?_
 show (if Jb4 = Jb4 ∧ J2K w = true then some (R.nev w) else none) = _
 rw [if_pos ⟨rfl,h⟩]
theorem J8Y {lo hi : Nat} {n : Int} (h0 : (lo : Int) ≤ n) (h1 : n ≤ (hi : Int)) : fig lo hi [48 + n.toNat] = some n.toNat := by
 show (if 48 + lo ≤ 48 + n.toNat ∧ 48 + n.toNat ≤ 48 + hi then some (48 + n.toNat - 48) else none) = _
 rw [if_pos ⟨by omega,by omega⟩,show 48 + n.toNat - 48 = n.toNat by omega]
theorem JeO {n d : Int} {m : Wd} (hn : 0 ≤ n ∧ n ≤ 7) (hd : 1 ≤ d ∧ d ≤ 7) (hm : J2L m = true) : Rds 0 (JN 32 (cnT [109,111,115,116] n m d)) (.most n m d) := by
 rw [Jdn (by decide) (Jas hm)]
 refine .plain ?_
 show (if wOf = wOf ∧ wIn = wIn ∧ J2L m = true then
   match fig 0 7 [48 + n.toNat],fig 1 7 [48 + d.toNat] with
   | some n,some d => if J5Z = J5Z then some (R.most n m d) else if J5Z = J41 then some (.least n m d) else none
   | _,_ => none
  else none) = _
 rw [if_pos ⟨rfl,rfl,hm⟩,J8Y (lo := 0) (hi := 7) (by omega) (by omega),J8Y (lo := 1) (hi := 7) (by omega) (by omega)]
 show (if J5Z = J5Z then some (R.most (n.toNat : Int) m (d.toNat : Int)) else _) = _
 rw [if_pos rfl,show ((n.toNat : Nat) : Int) = n by omega,show ((d.toNat : Nat) : Int) = d by omega]
theorem Jdv {n d : Int} {m : Wd} (hn : 0 ≤ n ∧ n ≤ 7) (hd : 1 ≤ d ∧ d ≤ 7) (hm : J2L m = true) : Rds 0 (JN 32 (cnT [108,101,97,115,116] n m d)) (.least n m d) := by
 rw [Jdn (by decide) (Jas hm)]
 refine .plain ?_
 show (if wOf = wOf ∧ wIn = wIn ∧ J2L m = true then
   match fig 0 7 [48 + n.toNat],fig 1 7 [48 + d.toNat] with
   | some n,some d => if J41 = J5Z then some (R.most n m d) else if J41 = J41 then some (.least n m d) else none
   | _,_ => none
  else none) = _
 rw [if_pos ⟨rfl,rfl,hm⟩,J8Y (lo := 0) (hi := 7) (by omega) (by omega),J8Y (lo := 1) (hi := 7) (by omega) (by omega)]
 show (if J41 = J5Z then _ else if J41 = J41 then some (R.least (n.toNat : Int) m (d.toNat : Int)) else _) = _
 rw [if_neg (by decide),if_pos rfl,show ((n.toNat : Nat) : Int) = n by omega,show ((d.toNat : Nat) : Int) = d by omega]
structure TxW (h : Nat) (r : R) (t : List Nat) : Prop where
 rd : Rds h (JN 32 t) r
 ln : t.length ≤ 32 * r.sz + 4
 wc : wcN (brT (decide (h < r.lvl)) r.tx) ≤ wcN t
structure TxA (r : R) (t : List Nat) : Prop where
 rd : Rds r.lvl (JN 32 t) r
 ln : t.length ≤ 32 * r.sz
 wc : wcN r.tx ≤ wcN t
theorem Jf5 (t : List Nat) : wcN ([40,32] ++ t ++ [32,41]) = wcN t + 2 := by
 unfold wcN
 rw [Je1]
 simp
theorem JdC (b : Bool) (t : List Nat) : wcN (brT b t) = if b = true then wcN t + 2 else wcN t := by
 unfold brT
 cases b
 ·rfl
 ·exact Jf5 t
theorem J6m (b : Bool) (t : List Nat) : (brT b t).length ≤ t.length + 4 := by
 unfold brT
 cases b
 ·simp
 ·simp
theorem TxA.br {r : R} {t : List Nat} (x : TxA r t) (h : Nat) (h2 : h ≤ 2) : TxW h r ([40,32] ++ t ++ [32,41]) := by
 refine ⟨?_,?_,?_⟩
 ·rw [Je1]
  exact (Rds.br (x.rd.up (R.lvl2 r) (Nat.le_refl _))).up (Nat.zero_le _) h2
 ·have := x.ln
  simp
  omega
 ·have := x.wc
  rw [Jf5,JdC]
  split <;> omega
theorem TxA.in {r : R} {t : List Nat} (x : TxA r t) {h : Nat} (h2 : h ≤ 2) (hl : r.lvl ≤ h) : TxW h r t := by
 refine ⟨x.rd.up hl h2,by have := x.ln; omega,?_⟩
 rw [JdC,decide_eq_false (by omega),if_neg Bool.false_ne_true]
 exact x.wc
theorem Jfo {w : Wd} (h : J2K w = true) : TxA (.nev w) ([110,101,118,101,114,32] ++ w) := by
 refine ⟨JfL h,?_,Nat.le_refl _⟩
 have := J5D h
 rw [List.length_append]
 show 6 + w.length ≤ 32 * 1
 omega
theorem Jd4 (a m : List Nat) (n d : Int) : (cnT a n m d).length = a.length + m.length + 11 := by
 unfold cnT
 simp
 omega
theorem JeI {n d : Int} {m : Wd} (hn : 0 ≤ n ∧ n ≤ 7) (hd : 1 ≤ d ∧ d ≤ 7) (hm : J2L m = true) : TxA (.most n m d) (cnT [109,111,115,116] n m d) := by
 refine ⟨JeO hn hd hm,?_,Nat.le_refl _⟩
 have := J4e hm
 rw [Jd4]
 show 4 + m.length + 11 ≤ 32 * 1
 omega
theorem Jde {n d : Int} {m : Wd} (hn : 0 ≤ n ∧ n ≤ 7) (hd : 1 ≤ d ∧ d ≤ 7) (hm : J2L m = true) : TxA (.least n m d) (cnT [108,101,97,115,116] n m d) := by
 refine ⟨Jdv hn hd hm,?_,Nat.le_refl _⟩
 have := J4e hm
 rw [Jd4]
 show 5 + m.length + 11 ≤ 32 * 1
 omega
theorem JfX {i : R} {t : List Nat} (x : TxW 0 i t) : TxA (.neg i) ([110,111,116,32] ++ t) := by
 refine ⟨?_,?_,?_⟩
 ·rw [J8X]
  exact .neg x.rd
 ·have := x.ln
  rw [List.length_append]
  show 4 + t.length ≤ 32 * (i.sz + 1)
  omega
 ·have := x.wc
  unfold wcN at this ⊢
  show (JN 32 ([110,111,116,32] ++ brT (decide (0 < i.lvl)) i.tx)).length ≤ _
  rw [J8X,J8X,List.length_cons,List.length_cons]
  omega
theorem Jek {l r : R} {a b : List Nat} (x : TxW 1 l a) (y : TxW 0 r b) : TxA (.both l r) (a ++ [32,97,110,100,32] ++ b) := by
 refine ⟨?_,?_,?_⟩
 ·rw [J95]
  exact .both x.rd y.rd
 ·have := x.ln
  have := y.ln
  rw [List.length_append,List.length_append]
  show a.length + 5 + b.length ≤ 32 * (l.sz + r.sz + 1)
  omega
 ·have := x.wc
  have := y.wc
  unfold wcN at *
  show (JN 32 (brT (decide (1 < l.lvl)) l.tx ++ [32,97,110,100,32] ++ brT (decide (0 < r.lvl)) r.tx)).length ≤ _
  rw [J95,J95,List.length_append,List.length_append,List.length_cons,List.length_cons]
  omega
theorem Jcr {l r : R} {a b : List Nat} (x : TxW 2 l a) (y : TxW 1 r b) : TxA (.either l r) (a ++ [32,111,114,32] ++ b) := by
 refine ⟨?_,?_,?_⟩
 ·rw [Jba]
  exact .either x.rd y.rd
 ·have := x.ln
  have := y.ln
  rw [List.length_append,List.length_append]
  show a.length + 4 + b.length ≤ 32 * (l.sz + r.sz + 1)
  omega
 ·have := x.wc
  have := y.wc
  unfold wcN at *
  show (JN 32 (brT (decide (2 < l.lvl)) l.tx ++ [32,111,114,32] ++ brT (decide (1 < r.lvl)) r.tx)).length ≤ _
  rw [Jba,Jba,List.length_append,List.length_append,List.length_cons,List.length_cons]
  omega
theorem TxA.wt {r : R} {t : List Nat} (x : TxA r t) (h : Nat) (h2 : h ≤ 2) : TxW h r (brT (decide (h < r.lvl)) t) := by
 unfold brT
 by_cases e : h < r.lvl
 ·rw [decide_eq_true e,if_pos rfl]
  exact x.br h h2
 ·rw [decide_eq_false e,if_neg Bool.false_ne_true]
  exact x.in h2 (by omega)
theorem R.tx_ok : ∀ {r : R},r.ok → TxA r r.tx
 | .nev _,h => Jfo h
 | .most _ _ _,h => JeI h.1 h.2.1 h.2.2
 | .least _ _ _,h => Jde h.1 h.2.1 h.2.2
 | .both _ _,h => Jek ((R.tx_ok h.1).wt 1 (by decide)) ((R.tx_ok h.2).wt 0 (by decide))
 | .either _ _,h => Jcr ((R.tx_ok h.1).wt 2 (by decide)) ((R.tx_ok h.2).wt 1 (by decide))
 | .neg i,h => JfX ((R.tx_ok (r := i) h).wt 0 (by decide))
section
variable {P : Program} {w : World} {K : PySem.W.Frag} {mg : Str → Option Value} {base : Heap} {J8 Jb J7 Ja J3 Jh J2 J1 : Addr}
theorem JcD (tx : Tx K mg J8 Jb J7 Ja J3 Jh J2 J1) : FnG P w K mg base "fits" 1 ["sign","mark"] Je7 := by
 refine tx.Jfc.g Je8 (fun _ _ _ _ _ _ us hl => match us,hl with | [_,_],_ => rfl) (fun vs H Q E h => ?_) (fun f cdv A outer s H vs Q E hr h => ?_)
 ·obtain ⟨a,b,rfl,_⟩ := h
  rfl
 ·obtain ⟨a,b,rfl,q⟩ := h
  refine ⟨_,(J5 (J01 (Jl J0f (pv 0) (Jv (l := [63]) (by decide +kernel)) (Jq _)) (Jc (Jp J3h)) JA)
   (J5 (J01 (Jl J0f (pv 0) (Jv (l := [35]) (by decide +kernel)) (Jq _)) (Jc (Jp (J2m J34 (pv 1) (Jv (l := [45]) (by decide +kernel)) (Jq _)))) JA)
   (Jc (Jp (J2m J0f (pv 0) (pv 1) (Jq _)))))),?_⟩
  walk_at "st"
  refine ⟨_,rfl,rfl,_,rfl,?_⟩
  refine ite2 (fun c => ?_) (fun c => ?_)
  ·have e : J3j (T a) (T b) = true := by unfold J3j; rw [if_pos c]
   rw [e] at q
   exact q
  ·refine ⟨_,rfl,rfl,_,rfl,?_⟩
   refine ite2 (fun c2 => ?_) (fun c2 => ?_)
   ·have e : J3j (T a) (T b) = !decide (T b = T [45]) := by unfold J3j; rw [if_neg c,if_pos c2]
    rw [e] at q
    exact ⟨_,rfl,rfl,q⟩
   ·have e : J3j (T a) (T b) = decide (T a = T b) := by unfold J3j; rw [if_neg c,if_neg c2]
    rw [e] at q
    exact ⟨_,rfl,_,rfl,rfl,q⟩
theorem J2S (tx : Tx K mg J8 Jb J7 Ja J3 Jh J2 J1) : FnG P w K mg base "last_marks" 1 ["marks","many"] Jef := by
 refine tx.J8y.g J7B (fun _ _ _ _ _ _ us hl => match us,hl with | [_,_],_ => rfl) (fun vs H Q E h => ?_) (fun f cdv A outer s H vs Q E hr h => ?_)
 ·obtain ⟨a,b,rfl,_⟩ := h
  rfl
 ·obtain ⟨l,n,rfl,hl,hn,q⟩ := h
  refine ⟨_,(Jc (Jp (J0e J2N (pv 0) (J0q (Jt (Jcj rfl) rfl tx.J9M Jft (J0 Jd (J0 (Jf J3r (Jt J03 rfl tx.J0c PySem.boot_len (J0 (pv 0) J6)) (pv 1)) J6)))) J15))),?_⟩
  walk_at "st"
  refine ⟨_,rfl,_,rfl,l,rfl,J5C hl,_,rfl,_,_,rfl,rfl,_,_,rfl,_,rfl,l,rfl,J5C hl,?_⟩
  have e : cutN l (some (if (l.length : Int) - n > 0 then (l.length : Int) - n else 0)) none = l.drop (l.length - n.toNat) := by
   rw [J73 _ _ (by split <;> omega)]
   congr 1
   split <;> omega
  rw [e]
  exact q
theorem JcR (tx : Tx K mg J8 Jb J7 Ja J3 Jh J2 J1) : FnG P w K mg base "let_by" 2 ["signs","mark"] Jfh := by
 have JaD := JcD (P := P) (w := w) (base := base) tx
 refine tx.JcQ.g JbV (fun _ _ _ _ _ _ us hl => match us,hl with | [_,_],_ => rfl) (fun vs H Q E h => ?_) (fun f cdv A outer s H vs Q E hr h => ?_)
 ·obtain ⟨m,c,rfl,_⟩ := h
  rfl
 ·obtain ⟨m,c,rfl,hm,q⟩ := h
  refine ⟨_,(Jc (Jp (Jt (Jbf (K := K) rfl rfl) rfl tx.J9T Jfw (J0 (J05 (osc := J4 J2Z) (ON := ["signs","mark"]) (N := ["sign","mark"]) (js := [none,some 1]) ⟨rfl,by decide +kernel,by decide +kernel,by decide +kernel,rfl,by decide +kernel⟩ rfl rfl rfl (J4H (pv 0)) (fun _ _ _ _ _ => Jo (i := 0) (show List.Nodup (["sign","mark"] : List Str) from by decide +kernel) rfl (Or.inl rfl)) (fun _ _ _ _ _ => J1X) (fun _ _ _ _ _ => (Jw JaD (hr.mono (by decide)) (J0 (pv 0) (J0 (pv 1) J6))))) J6)))),?_⟩
  walk_at "st"
  refine ⟨_,rfl,m,rfl,?_⟩
  refine J7i (fun x => match x with | .str z => .bl (J3j (.str z) (T [c])) | v => v) (J2X m) ?_ (fun x hx H' s' R hR => ?_) (fun D H' hD s' hDD => ?_)
  ·rw [List.length_map]; omega
  ·obtain ⟨k,_,rfl⟩ := List.mem_map.mp hx
   exact ⟨_,rfl,_,rfl,[k],[c],rfl,hR H' (Same.refl _)⟩
  refine ⟨D,m.map fun s => J3j (T [s]) (T [c]),rfl,SqL.of ?_,?_⟩
  ·rw [hDD,List.map_map,List.map_map]
   rfl
  ·exact q H' s'
theorem J4l (tx : Tx K mg J8 Jb J7 Ja J3 Jh J2 J1) : FnG P w K mg base "count_among" 3 ["signs","marks"] JcA := by
 have JcE := JcR (P := P) (w := w) (base := base) tx
 refine tx.J7u.g J6P (fun _ _ _ _ _ _ us hl => match us,hl with | [_,_],_ => rfl) (fun vs H Q E h => ?_) (fun f cdv A outer s H vs Q E hr h => ?_)
 ·obtain ⟨m,c,rfl,_⟩ := h
  rfl
 ·obtain ⟨m,l,rfl,hm,hl,q⟩ := h
  refine ⟨_,(Jc (Jp (Jt (JC (K := K) rfl) rfl tx.J0c PySem.boot_len (J0 (J05 (osc := J4 J0P) (ON := ["signs","marks"]) (N := ["mark","signs"]) (js := [none,some 0]) ⟨rfl,by decide +kernel,by decide +kernel,by decide +kernel,rfl,by decide +kernel⟩ rfl rfl rfl (J4H (pv 1)) (fun _ _ _ _ _ => Jo (i := 0) (show List.Nodup (["mark","signs"] : List Str) from by decide +kernel) rfl (Or.inl rfl)) (fun _ _ _ _ _ => J06 (J3Z (Jw JcE (hr.mono (by decide)) (J0 (pv 1) (J0 (pv 0) J6))))) (fun _ _ _ _ _ => (pv 0))) J6)))),?_⟩
  walk_at "st"
  refine ⟨_,rfl,l,rfl,?_⟩
  refine J3C (fun x => match x with | .str ⟨⟨[c]⟩⟩ => letV m c | _ => false) (fun x => x) (J2X l) ?_ (fun x hx H' s' R hR => ?_) (fun x hx hp H' s' R hR => ?_) (fun D H' hD s' hDD => ?_)
  ·rw [List.length_map]; omega
  ·obtain ⟨k,_,rfl⟩ := List.mem_map.mp hx
   exact ⟨_,rfl,_,rfl,m,k,rfl,hm,fun H2 s2 => ⟨_,rfl,hR H2 s2⟩⟩
  ·exact ⟨_,rfl,hR H' (Same.refl _)⟩
  refine ⟨D,_,rfl,.inl (SqL.of hDD),?_⟩
  have e : ((((l.map fun c => T [c]).filter (fun x => match x with | .str ⟨⟨[c]⟩⟩ => letV m c | _ => false)).map (fun x => x)).length : Int) = (cntV m l : Int) := by
   rw [List.length_map,List.filter_map,List.length_map]
   rfl
  rw [e]
  exact q H' s'
theorem J8f (tx : Tx K mg J8 Jb J7 Ja J3 Jh J2 J1) : MtG P w K mg base J8 "__init__" 1 ["self","word"] (Jbs J8) := by
 refine tx.J8z.g tx.J2T.cl J7C (fun _ _ _ _ _ _ us hl => match us,hl with | [_,_],_ => rfl) (fun vs H Q E h => ?_) (fun f cdv A outer s H vs Q E hr h => ?_)
 ·obtain ⟨p,dx,w,rfl,_⟩ := h
  rfl
 ·obtain ⟨p,dx,w,rfl,hp,q⟩ := h
  refine ⟨_,(Jc (J0m (pv 0) (pv 1) rfl)),?_⟩
  walk_at "st"
  exact ⟨_,rfl,_,rfl,p,J8,dx,[],rfl,hp,tx.J2T.cl,tx.J0p,by decide,q⟩
theorem J9R (tx : Tx K mg J8 Jb J7 Ja J3 Jh J2 J1) : MtG P w K mg base J8 "bad" 2 ["self","marks"] (Jf7 J8) := by
 have JaD := JcD (P := P) (w := w) (base := base) tx
 have J0J := J2S (P := P) (w := w) (base := base) tx
 refine tx.J9x.g tx.J2T.cl J4I (fun _ _ _ _ _ _ us hl => match us,hl with | [_,_],_ => rfl) (fun vs H Q E h => ?_) (fun f cdv A outer s H vs Q E hr h => ?_)
 ·obtain ⟨p,w,l,rfl,_⟩ := h
  rfl
 ·obtain ⟨p,w,l,rfl,⟨dx,hp⟩,hw,hl,q⟩ := h
  refine ⟨_,(J5 (J01 (Jl Jal (Jt J03 rfl tx.J0c PySem.boot_len (J0 (pv 1) J6)) (Jt J03 rfl tx.J0c PySem.boot_len (J0 (Jg (K := K) rfl (pv 0) rfl) J6)) (Jq _)) (Jc (Jp J3h)) JA)
   (J5 (Jj (i := 2) J4I.nd rfl (Or.inl rfl) (Jw J0J (hr.mono (by decide)) (J0 (pv 1) (J0 (Jt J03 rfl tx.J0c PySem.boot_len (J0 (Jg (K := K) rfl (pv 0) rfl) J6)) J6))))
   (Jc (Jp (Jt (Jb7 (K := K) rfl rfl) rfl tx.J9A JfG (J0 (J05 (osc := J4 J1s) (ON := ["self","marks","nearest"]) (N := ["sign","mark"]) (js := [none,none]) ⟨rfl,by decide +kernel,by decide +kernel,by decide +kernel,rfl,by decide +kernel⟩ rfl rfl rfl (JbB rfl tx.J4q (J0 (Jg (K := K) rfl (pv 0) rfl) (J0 (pv 2) J6))) (fun _ _ _ _ _ => J3q (K := K) (i := 0) (j := 1) rfl rfl (show List.Nodup (["sign","mark"] : List Str) from by decide +kernel) rfl rfl (Or.inl rfl) (Or.inl rfl)) (fun _ _ _ _ _ => J1X) (fun _ _ _ _ _ => (Jw JaD (hr.mono (by decide)) (J0 (pv 0) (J0 (pv 1) J6))))) J6)))))),?_⟩
  walk_at "st"
  refine ⟨_,rfl,l,rfl,J5C hl,_,rfl,p,J8,dx,_,_,rfl,hp,tx.J2T.cl,tx.J0p,wl _,w,rfl,J5C hw,_,_,rfl,rfl,_,rfl,?_⟩
  refine ite2 (fun c => ?_) (fun c => ?_)
  ·have c' := of_decide_eq_true c
   have e : nevB w l = false := by unfold nevB; rw [if_pos (by omega)]
   have q' := q H (Same.refl _)
   rw [e] at q'
   exact q'
  ·have c' : ¬ ((l.length : Int) < (w.length : Int)) := of_decide_eq_false (Bool.eq_false_iff.mpr c)
   refine ⟨_,rfl,_,rfl,p,J8,dx,_,_,rfl,hp,tx.J2T.cl,tx.J0p,wl _,w,rfl,J5C hw,l,_,rfl,hl,by omega,?_⟩
   refine ⟨_,rfl,p,J8,dx,_,_,rfl,hp,tx.J2T.cl,tx.J0p,wl _,_,rfl,w,_,rfl,?_⟩
   refine Jcl (fun c d => .bl (J3j (T [c]) (T [d]))) ?_ (fun c d H' s' R hR => ?_) (fun D H' hD s' hDD => ?_)
   ·omega
   ·exact ⟨_,rfl,_,rfl,_,_,rfl,hR H' (Same.refl _)⟩
   refine ⟨D,((w.zip (l.drop (l.length - (w.length : Int).toNat))).map fun p => J3j (T [p.1]) (T [p.2])),rfl,SqL.of ?_,?_⟩
   ·rw [hDD,List.map_map]
    rfl
   ·have e : nevB w l = ((w.zip (l.drop (l.length - (w.length : Int).toNat))).map fun p => J3j (T [p.1]) (T [p.2])).all id := by
     unfold nevB
     rw [if_neg (by omega),Int.toNat_natCast]
    have q' := q H' s'
    rw [e] at q'
    exact q'
theorem J9S (tx : Tx K mg J8 Jb J7 Ja J3 Jh J2 J1) : MtG P w K mg base Jb "__init__" 1 ["self","many","marks","days"] (J4X Jb) := by
 refine tx.J9J.g tx.J30.cl J8A (fun _ _ _ _ _ _ us hl => match us,hl with | [_,_,_,_],_ => rfl) (fun vs H Q E h => ?_) (fun f cdv A outer s H vs Q E hr h => ?_)
 ·obtain ⟨p,dx,n,m,d,rfl,_⟩ := h
  rfl
 ·obtain ⟨p,dx,n,m,d,rfl,hp,q⟩ := h
  refine ⟨_,(J5 (J0m (pv 0) (pv 1) rfl)
   (J5 (J0m (pv 0) (pv 2) rfl)
   (Jc (J0m (pv 0) (pv 3) rfl)))),?_⟩
  walk_at "st"
  refine ⟨_,rfl,_,rfl,p,Jb,dx,[],rfl,hp,tx.J30.cl,tx.J1n,by decide,?_⟩
  refine ⟨_,rfl,_,rfl,p,Jb,dx,_,rfl,J9,tx.J30.cl,tx.J12,by show 1 < 1000; decide,?_⟩
  refine ⟨_,rfl,_,rfl,p,Jb,dx,_,rfl,J9,tx.J30.cl,tx.J1k,?_,?_⟩
  ·have := J2d "marks" (T m) (putF "many" (.int n) [])
   have h2 := J2d "many" (V.int n) []
   have h3 : ([] : List (Str × V)).length = 0 := rfl
   omega
  rw [put3]
  exact q
theorem JaV (tx : Tx K mg J8 Jb J7 Ja J3 Jh J2 J1) : MtG P w K mg base Jb "bad" 4 ["self","marks"] (Jbr Jb Ja6) := by
 have J3p := J4l (P := P) (w := w) (base := base) tx
 have J0J := J2S (P := P) (w := w) (base := base) tx
 refine tx.JaO.g tx.J30.cl J9z (fun _ _ _ _ _ _ us hl => match us,hl with | [_,_],_ => rfl) (fun vs H Q E h => ?_) (fun f cdv A outer s H vs Q E hr h => ?_)
 ·obtain ⟨p,n,m,d,l,rfl,_⟩ := h
  rfl
 ·obtain ⟨p,n,m,d,l,rfl,⟨dx,hp⟩,hm,hd,hl,q⟩ := h
  refine ⟨_,(Jc (Jp (J2m J7e (Jw J3p (hr.mono (by decide)) (J0 (Jg (K := K) rfl (pv 0) rfl) (J0 (Jw J0J (hr.mono (by decide)) (J0 (pv 1) (J0 (Jg (K := K) rfl (pv 0) rfl) J6))) J6))) (Jg (K := K) rfl (pv 0) rfl) (Jq _)))),?_⟩
  walk_at "st"
  refine ⟨_,rfl,p,Jb,dx,_,_,rfl,hp,tx.J30.cl,tx.J12,J6Z _ _ _,_,rfl,_,rfl,p,Jb,dx,_,_,rfl,hp,tx.J30.cl,tx.J1k,J6f _ _ _,l,d,rfl,hl,hd,m,_,rfl,hm,?_,fun H' s' => ?_⟩
  ·rw [List.length_drop]; omega
  exact ⟨_,rfl,p,Jb,dx,_,_,rfl,s' _ _ hp,tx.J30.cl,tx.J1n,J9b _ _ _,_,_,rfl,rfl,q H' s'⟩
theorem J8D (tx : Tx K mg J8 Jb J7 Ja J3 Jh J2 J1) : MtG P w K mg base J7 "__init__" 1 ["self","many","marks","days"] (J4X J7) := by
 refine tx.J8x.g tx.J1Y.cl J7I (fun _ _ _ _ _ _ us hl => match us,hl with | [_,_,_,_],_ => rfl) (fun vs H Q E h => ?_) (fun f cdv A outer s H vs Q E hr h => ?_)
 ·obtain ⟨p,dx,n,m,d,rfl,_⟩ := h
  rfl
 ·obtain ⟨p,dx,n,m,d,rfl,hp,q⟩ := h
  refine ⟨_,(J5 (J0m (pv 0) (pv 1) rfl)
   (J5 (J0m (pv 0) (pv 2) rfl)
   (Jc (J0m (pv 0) (pv 3) rfl)))),?_⟩
  walk_at "st"
  refine ⟨_,rfl,_,rfl,p,J7,dx,[],rfl,hp,tx.J1Y.cl,tx.J13,by decide,?_⟩
  refine ⟨_,rfl,_,rfl,p,J7,dx,_,rfl,J9,tx.J1Y.cl,tx.J0R,by show 1 < 1000; decide,?_⟩
  refine ⟨_,rfl,_,rfl,p,J7,dx,_,rfl,J9,tx.J1Y.cl,tx.J0N,?_,?_⟩
  ·have := J2d "marks" (T m) (putF "many" (.int n) [])
   have h2 := J2d "many" (V.int n) []
   have h3 : ([] : List (Str × V)).length = 0 := rfl
   omega
  rw [put3]
  exact q
theorem J9u (tx : Tx K mg J8 Jb J7 Ja J3 Jh J2 J1) : MtG P w K mg base J7 "bad" 4 ["self","marks"] (Jbr J7 J3E) := by
 have J3p := J4l (P := P) (w := w) (base := base) tx
 have J0J := J2S (P := P) (w := w) (base := base) tx
 refine tx.J9m.g tx.J1Y.cl J8j (fun _ _ _ _ _ _ us hl => match us,hl with | [_,_],_ => rfl) (fun vs H Q E h => ?_) (fun f cdv A outer s H vs Q E hr h => ?_)
 ·obtain ⟨p,n,m,d,l,rfl,_⟩ := h
  rfl
 ·obtain ⟨p,n,m,d,l,rfl,⟨dx,hp⟩,hm,hd,hl,q⟩ := h
  refine ⟨_,(J5 (J01 (Jl Jal (Jt J03 rfl tx.J0c PySem.boot_len (J0 (pv 1) J6)) (Jg (K := K) rfl (pv 0) rfl) (Jq _)) (Jc (Jp J3h)) JA)
   (Jc (Jp (J2m Jal (Jw J3p (hr.mono (by decide)) (J0 (Jg (K := K) rfl (pv 0) rfl) (J0 (Jw J0J (hr.mono (by decide)) (J0 (pv 1) (J0 (Jg (K := K) rfl (pv 0) rfl) J6))) J6))) (Jg (K := K) rfl (pv 0) rfl) (Jq _))))),?_⟩
  walk_at "st"
  refine ⟨_,rfl,l,rfl,J5C hl,_,rfl,p,J7,dx,_,_,rfl,hp,tx.J1Y.cl,tx.J0N,J6f _ _ _,_,_,rfl,rfl,_,rfl,?_⟩
  refine ite2 (fun c => ?_) (fun c => ?_)
  ·have c' := of_decide_eq_true c
   have e : J3E n m d l = false := by unfold J3E; rw [if_pos c']
   have q' := q H (Same.refl _)
   rw [e] at q'
   exact q'
  have c' : ¬ ((l.length : Int) < d) := of_decide_eq_false (Bool.eq_false_iff.mpr c)
  have e : J3E n m d l = decide ((cntV m (l.drop (l.length - d.toNat)) : Int) < n) := by unfold J3E; rw [if_neg c']
  refine ⟨_,rfl,p,J7,dx,_,_,rfl,hp,tx.J1Y.cl,tx.J0R,J6Z _ _ _,_,rfl,_,rfl,p,J7,dx,_,_,rfl,hp,tx.J1Y.cl,tx.J0N,J6f _ _ _,l,d,rfl,hl,hd,m,_,rfl,hm,?_,fun H' s' => ?_⟩
  ·rw [List.length_drop]; omega
  have q' := q H' s'
  rw [e] at q'
  exact ⟨_,rfl,p,J7,dx,_,_,rfl,s' _ _ hp,tx.J1Y.cl,tx.J13,J9b _ _ _,_,_,rfl,rfl,q'⟩
theorem J9U (tx : Tx K mg J8 Jb J7 Ja J3 Jh J2 J1) : MtG P w K mg base Ja "__init__" 1 ["self","left","right"] (J4K Ja) := by
 refine tx.J9L.g tx.J3m.cl J8u (fun _ _ _ _ _ _ us hl => match us,hl with | [_,_,_],_ => rfl) (fun vs H Q E h => ?_) (fun f cdv A outer s H vs Q E hr h => ?_)
 ·obtain ⟨p,dx,a,b,rfl,_⟩ := h
  rfl
 ·obtain ⟨p,dx,a,b,rfl,hp,q⟩ := h
  refine ⟨_,(J5 (J0m (pv 0) (pv 1) rfl)
   (Jc (J0m (pv 0) (pv 2) rfl))),?_⟩
  walk_at "st"
  refine ⟨_,rfl,_,rfl,p,Ja,dx,[],rfl,hp,tx.J3m.cl,tx.J1x,by decide,?_⟩
  refine ⟨_,rfl,_,rfl,p,Ja,dx,_,rfl,J9,tx.J3m.cl,tx.J14,by show 1 < 1000; decide,?_⟩
  rw [put2]
  exact q
theorem J7J (tx : Tx K mg J8 Jb J7 Ja J3 Jh J2 J1) : MtG P w K mg base J3 "__init__" 1 ["self","left","right"] (J4K J3) := by
 refine tx.J7o.g tx.J18.cl J6t (fun _ _ _ _ _ _ us hl => match us,hl with | [_,_,_],_ => rfl) (fun vs H Q E h => ?_) (fun f cdv A outer s H vs Q E hr h => ?_)
 ·obtain ⟨p,dx,a,b,rfl,_⟩ := h
  rfl
 ·obtain ⟨p,dx,a,b,rfl,hp,q⟩ := h
  refine ⟨_,(J5 (J0m (pv 0) (pv 1) rfl)
   (Jc (J0m (pv 0) (pv 2) rfl))),?_⟩
  walk_at "st"
  refine ⟨_,rfl,_,rfl,p,J3,dx,[],rfl,hp,tx.J18.cl,tx.J0S,by decide,?_⟩
  refine ⟨_,rfl,_,rfl,p,J3,dx,_,rfl,J9,tx.J18.cl,tx.J0A,by show 1 < 1000; decide,?_⟩
  rw [put2]
  exact q
theorem JaN (tx : Tx K mg J8 Jb J7 Ja J3 Jh J2 J1) : MtG P w K mg base Jh "__init__" 1 ["self","inner"] (J9V Jh) := by
 refine tx.Jb1.g tx.J6y.cl J9C (fun _ _ _ _ _ _ us hl => match us,hl with | [_,_],_ => rfl) (fun vs H Q E h => ?_) (fun f cdv A outer s H vs Q E hr h => ?_)
 ·obtain ⟨p,dx,a,rfl,_⟩ := h
  rfl
 ·obtain ⟨p,dx,a,rfl,hp,q⟩ := h
  refine ⟨_,(Jc (J0m (pv 0) (pv 1) rfl)),?_⟩
  walk_at "st"
  exact ⟨_,rfl,_,rfl,p,Jh,dx,[],rfl,hp,tx.J6y.cl,tx.J1p,by decide,q⟩
noncomputable abbrev cs6 (J8 Jb J7 Ja J3 Jh _Person _House : Addr) : Cs := ⟨J8,Jb,J7,Ja,J3,Jh⟩
theorem J6M (tx : Tx K mg J8 Jb J7 Ja J3 Jh J2 J1) : ∀ r : R,MtG P w K mg base (r.cls (cs6 J8 Jb J7 Ja J3 Jh J2 J1)) "bad" (5 + r.depth) ["self","marks"] (Jg3 (cs6 J8 Jb J7 Ja J3 Jh J2 J1) r)
 | .nev w => (J9R tx).imp (fun vs H Q E ⟨p,l,e,h,hl,q⟩ => ⟨p,w,l,e,h.1,h.2,hl,q⟩) |>.mono (by show 2 ≤ 5 + _; omega)
 | .most n m d => (JaV tx).imp (fun vs H Q E ⟨p,l,e,h,hl,q⟩ => ⟨p,n,m,d,l,e,h.1,h.2.1,h.2.2,hl,q⟩) |>.mono (by show 4 ≤ 5 + _; omega)
 | .least n m d => (J9u tx).imp (fun vs H Q E ⟨p,l,e,h,hl,q⟩ => ⟨p,n,m,d,l,e,h.1,h.2.1,h.2.2,hl,q⟩) |>.mono (by show 4 ≤ 5 + _; omega)
 | .both x y => by
  have Gx := J6M tx x
  have Gy := J6M tx y
  refine MtG.mono (j := (5 + max x.depth y.depth) + 1) (tx.JaI.g tx.J3m.cl J9w (fun _ _ _ _ _ _ us hl => match us,hl with | [_,_],_ => rfl) (fun vs H Q E h => ?_) (fun f cdv A outer s H vs Q E hr h => ?_)) (by show _ ≤ 5 + (max x.depth y.depth + 1); omega)
  ·obtain ⟨p,l,rfl,_⟩ := h
   rfl
  ·obtain ⟨p,l,rfl,⟨dx,a,b,e,ha,hb⟩,hl,q⟩ := h
   refine ⟨_,(Jc (Jp (JeZ (J4A (P := P) (w := w) (K := K) (mg := mg) (base := base) hr (Jg (K := K) rfl (pv 0) rfl) (J0 (pv 1) J6) rfl rfl rfl rfl rfl) (J8U (J4A (P := P) (w := w) (K := K) (mg := mg) (base := base) hr (Jg (K := K) rfl (pv 0) rfl) (J0 (pv 1) J6) rfl rfl rfl rfl rfl))))),?_⟩
   walk_at "st"
   obtain ⟨dx1,fs1,o1,n1,_⟩ := ha.obj
   refine ⟨_,rfl,p,Ja,dx,_,_,rfl,e,tx.J3m.cl,tx.J1x,J93 _ _,a,_,dx1,fs1,_,_,_,rfl,o1,n1,Gx,by omega,_,rfl,a,l,rfl,ha,hl,fun H1 s1 => ⟨_,rfl,?_⟩⟩
   refine ite2 (fun c => ?_) (fun c => ?_)
   ·have q' := q H1 s1
    rw [show (R.both x y).bad l = true by show (x.bad l || y.bad l) = true; rw [c,Bool.true_or]] at q'
    exact q'
   ·obtain ⟨dx2,fs2,o2,n2,_⟩ := (hb.same s1).obj
    refine ⟨_,rfl,p,Ja,dx,_,_,rfl,s1 _ _ e,tx.J3m.cl,tx.J14,J78 _ _,b,_,dx2,fs2,_,_,_,rfl,o2,n2,Gy,by omega,_,rfl,b,l,rfl,hb.same s1,hl,fun H2 s2 => ?_⟩
    have q' := q H2 (s1.trans s2)
    rw [show (R.both x y).bad l = y.bad l by show (x.bad l || y.bad l) = y.bad l; rw [Bool.eq_false_iff.mpr c,Bool.false_or]] at q'
    exact q'
 | .either x y => by
  have Gx := J6M tx x
  have Gy := J6M tx y
  refine MtG.mono (j := (5 + max x.depth y.depth) + 1) (tx.J8n.g tx.J18.cl J7A (fun _ _ _ _ _ _ us hl => match us,hl with | [_,_],_ => rfl) (fun vs H Q E h => ?_) (fun f cdv A outer s H vs Q E hr h => ?_)) (by show _ ≤ 5 + (max x.depth y.depth + 1); omega)
  ·obtain ⟨p,l,rfl,_⟩ := h
   rfl
  ·obtain ⟨p,l,rfl,⟨dx,a,b,e,ha,hb⟩,hl,q⟩ := h
   refine ⟨_,(Jc (Jp (JdY (J4A (P := P) (w := w) (K := K) (mg := mg) (base := base) hr (Jg (K := K) rfl (pv 0) rfl) (J0 (pv 1) J6) rfl rfl rfl rfl rfl) (J8U (J4A (P := P) (w := w) (K := K) (mg := mg) (base := base) hr (Jg (K := K) rfl (pv 0) rfl) (J0 (pv 1) J6) rfl rfl rfl rfl rfl))))),?_⟩
   walk_at "st"
   obtain ⟨dx1,fs1,o1,n1,_⟩ := ha.obj
   refine ⟨_,rfl,p,J3,dx,_,_,rfl,e,tx.J18.cl,tx.J0S,J93 _ _,a,_,dx1,fs1,_,_,_,rfl,o1,n1,Gx,by omega,_,rfl,a,l,rfl,ha,hl,fun H1 s1 => ⟨_,rfl,?_⟩⟩
   refine ite2 (fun c => ?_) (fun c => ?_)
   ·obtain ⟨dx2,fs2,o2,n2,_⟩ := (hb.same s1).obj
    refine ⟨_,rfl,p,J3,dx,_,_,rfl,s1 _ _ e,tx.J18.cl,tx.J0A,J78 _ _,b,_,dx2,fs2,_,_,_,rfl,o2,n2,Gy,by omega,_,rfl,b,l,rfl,hb.same s1,hl,fun H2 s2 => ?_⟩
    have q' := q H2 (s1.trans s2)
    rw [show (R.either x y).bad l = y.bad l by show (x.bad l && y.bad l) = y.bad l; rw [c,Bool.true_and]] at q'
    exact q'
   ·have q' := q H1 s1
    rw [show (R.either x y).bad l = false by show (x.bad l && y.bad l) = false; rw [Bool.eq_false_iff.mpr c,Bool.false_and]] at q'
    exact q'
 | .neg x => by
  have Gx := J6M tx x
  refine MtG.mono (j := (5 + x.depth) + 1) (tx.JbX.g tx.J6y.cl JaX (fun _ _ _ _ _ _ us hl => match us,hl with | [_,_],_ => rfl) (fun vs H Q E h => ?_) (fun f cdv A outer s H vs Q E hr h => ?_)) (by show _ ≤ 5 + (x.depth + 1); omega)
  ·obtain ⟨p,l,rfl,_⟩ := h
   rfl
  ·obtain ⟨p,l,rfl,⟨dx,a,e,ha⟩,hl,q⟩ := h
   refine ⟨_,(Jc (Jp (JfK (J4A (P := P) (w := w) (K := K) (mg := mg) (base := base) hr (Jg (K := K) rfl (pv 0) rfl) (J0 (pv 1) J6) rfl rfl rfl rfl rfl)))),?_⟩
   walk_at "st"
   obtain ⟨dx1,fs1,o1,n1,_⟩ := ha.obj
   exact ⟨_,rfl,p,Jh,dx,_,_,rfl,e,tx.J6y.cl,tx.J1p,Ja5 _,a,_,dx1,fs1,_,_,_,rfl,o1,n1,Gx,Nat.le_refl _,_,rfl,a,l,rfl,ha,hl,fun H1 s1 => ⟨_,rfl,q H1 s1⟩⟩
end
noncomputable def Jg8 : Sp := fun vs H Q _ => ∃ w n m d,vs = [T w,.int n,T m,.int d] ∧ 0 ≤ n ∧ n ≤ 9 ∧ 0 ≤ d ∧ d ≤ 9 ∧ w.length ≤ 9 ∧ m.length ≤ 9 ∧ Q (T (cnT w n m d)) H
noncomputable def Jfn (c : Cs) : Sp := fun vs H Q _ => ∃ (r : R) (p : Addr),vs = [.ref p] ∧ JD c H r p ∧ Q (.bl (decide (0 < r.lvl))) H
noncomputable def J9k (c : Cs) (r : R) : Sp := fun vs H Q _ => ∃ p,vs = [.ref p] ∧ JD c H r p ∧ Q (T r.tx) H
noncomputable def Jg7 (c : Cs) (n : Nat) : Sp := fun vs H Q _ => ∃ (r : R) (p : Addr) (b : Bool),vs = [.ref p,.bl b] ∧ JD c H r p ∧ r.ok ∧ r.sz ≤ n ∧ r.sz ≤ 25 ∧ Q (T (brT b r.tx)) H
theorem R.tx_len {r : R} (h : r.ok) : r.tx.length ≤ 32 * r.sz := (R.tx_ok h).ln
section
variable {P : Program} {w : World} {K : PySem.W.Frag} {mg : Str → Option Value} {base : Heap} {J8 Jb J7 Ja J3 Jh J2 J1 : Addr}
local macro_rules | `(tactic| walk_at "lk") => `(tactic| first | exact wl _ | exact J9b _ _ _ | exact J6Z _ _ _ | exact J6f _ _ _ | exact J93 _ _ | exact J78 _ _ | exact Ja5 _)
theorem J51 (tx : Tx K mg J8 Jb J7 Ja J3 Jh J2 J1) : FnG P w K mg base "count_text" 1 ["word","many","marks","days"] Jg8 := by
 refine tx.J8m.g J7l (fun _ _ _ _ _ _ us hl => match us,hl with | [_,_,_,_],_ => rfl) (fun vs H Q E h => ?_) (fun f cdv A outer s H vs Q E hr h => ?_)
 ·obtain ⟨w,n,m,d,rfl,_⟩ := h
  rfl
 ·obtain ⟨w,n,m,d,rfl,n0,n1,d0,d1,hw,hm,q⟩ := h
  obtain ⟨n,rfl⟩ : ∃ k : Nat,n = (k : Int) := ⟨n.toNat,by omega⟩
  obtain ⟨d,rfl⟩ : ∃ k : Nat,d = (k : Int) := ⟨d.toNat,by omega⟩
  refine ⟨_,(Jc (Jp (J6j (J0o (J4E (pv 0)) (J0o (J4G (l := [32]) (by decide +kernel)) (J0o (Jdh (pv 1)) (J0o (J4G (l := [32,111,102,32]) (by decide +kernel)) (J0o (J4E (pv 2)) (J0o (J4G (l := [32,105,110,32]) (by decide +kernel)) (J0o (Jdh (pv 3)) J6h)))))))))),?_⟩
  walk_at "st"
  have n2 : n ≤ 9 := by omega
  have d2 : d ≤ 9 := by omega
  walk_at "rd"
  exact q
theorem R.kinds (tx : Tx K mg J8 Jb J7 Ja J3 Jh J2 J1) {H : Hp} {r : R} {p : Addr} (h : JD (cs6 J8 Jb J7 Ja J3 Jh J2 J1) H r p) : ∃ dx fs b1 b2,H p = some (.ins (r.cls (cs6 J8 Jb J7 Ja J3 Jh J2 J1)) dx fs) ∧ J5Y K (r.cls (cs6 J8 Jb J7 Ja J3 Jh J2 J1)) ∧ PySem.W.kitOne K (.ref (r.cls (cs6 J8 Jb J7 Ja J3 Jh J2 J1))) (.ref Ja) = some b1 ∧ PySem.W.kitOne K (.ref (r.cls (cs6 J8 Jb J7 Ja J3 Jh J2 J1))) (.ref J3) = some b2 ∧
  (b1 || b2) = decide (0 < r.lvl) ∧ b2 = decide (1 < r.lvl) ∧ fs.lookup ("text" : Str) = none := by
 obtain ⟨dx,fs,ob,_,_,nt⟩ := h.obj
 cases r with
 | nev _ => exact ⟨dx,fs,_,_,ob,tx.Jed,tx.J2h,tx.J1v,rfl,rfl,nt⟩
 | most _ _ _ => exact ⟨dx,fs,_,_,ob,tx.Jff,tx.J2J,tx.J1U,rfl,rfl,nt⟩
 | least _ _ _ => exact ⟨dx,fs,_,_,ob,tx.Jeb,tx.J2e,tx.J1t,rfl,rfl,nt⟩
 | both _ _ => exact ⟨dx,fs,_,_,ob,tx.Jf6,tx.J2I,tx.J1S,rfl,rfl,nt⟩
 | either _ _ => exact ⟨dx,fs,_,_,ob,tx.JcG,tx.J1V,tx.J19,rfl,rfl,nt⟩
 | neg _ => exact ⟨dx,fs,_,_,ob,tx.Jg9,tx.J31,tx.J2j,rfl,rfl,nt⟩
theorem J5Q (tx : Tx K mg J8 Jb J7 Ja J3 Jh J2 J1) : FnG P w K mg base "is_joined" 1 ["rule"] (Jfn (cs6 J8 Jb J7 Ja J3 Jh J2 J1)) := by
 refine tx.J9B.g J8c (fun _ _ _ _ _ _ us hl => match us,hl with | [_],_ => rfl) (fun vs H Q E h => ?_) (fun f cdv A outer s H vs Q E hr h => ?_)
 ·obtain ⟨r,p,rfl,_⟩ := h
  rfl
 ·obtain ⟨r,p,rfl,hR,q⟩ := h
  refine ⟨_,(Jc (Jp (JeZ (Jt (J3J (K := K) rfl) rfl tx.J0K J2C (J0 (pv 0) (J0 (J5a (v := .ref Ja) rfl tx.J3m.mg rfl) J6))) (J8U (Jt (J3J (K := K) rfl) rfl tx.J0K J2C (J0 (pv 0) (J0 (J5a (v := .ref J3) rfl tx.J18.mg rfl) J6))))))),?_⟩
  walk_at "st"
  obtain ⟨dx,fs,b1,b2,ob,hy,i1,i2,e1,e2,_⟩ := R.kinds tx hR
  rw [← e1] at q
  clear hR
  walk_at "rd"
  refine ite2 (fun c => ?_) (fun c => ?_)
  ·rw [c,Bool.true_or] at q
   exact q
  ·rw [Bool.eq_false_iff.mpr c,Bool.false_or] at q
   walk_at "rd"
   exact q
theorem J8r (tx : Tx K mg J8 Jb J7 Ja J3 Jh J2 J1) : ∀ wd,J2K wd = true → MtG P w K mg base J8 "text" 1 ["self"] (J9k (cs6 J8 Jb J7 Ja J3 Jh J2 J1) (.nev wd)) := fun wd hw => by
 refine tx.J8l.g tx.J2T.cl J7z (fun _ _ _ _ _ _ us hl => match us,hl with | [_],_ => rfl) (fun vs H Q E h => ?_) (fun f cdv A outer s H vs Q E hr h => ?_)
 ·obtain ⟨p,rfl,_⟩ := h
  rfl
 ·obtain ⟨p,rfl,⟨⟨dx,hp⟩,_⟩,q⟩ := h
  refine ⟨_,(Jc (Jp (Jf J0F (Jv (l := [110,101,118,101,114,32]) (by decide +kernel)) (Jg (K := K) rfl (pv 0) rfl)))),?_⟩
  walk_at "st"
  have c1 := tx.J2T.cl
  have n1 := tx.J0p
  obtain ⟨w1,w2⟩ := J5D hw
  have hp' : H p = some (.ins J8 dx [("word",T wd)]) := hp
  clear hp
  walk_at "rd"
  exact q
theorem J9I (tx : Tx K mg J8 Jb J7 Ja J3 Jh J2 J1) : ∀ n m d,(R.most n m d).ok → MtG P w K mg base Jb "text" 2 ["self"] (J9k (cs6 J8 Jb J7 Ja J3 Jh J2 J1) (.most n m d)) := fun n m d ho => by
 have J2g := J51 (P := P) (w := w) (base := base) tx
 refine tx.J9N.g tx.J30.cl J8b (fun _ _ _ _ _ _ us hl => match us,hl with | [_],_ => rfl) (fun vs H Q E h => ?_) (fun f cdv A outer s H vs Q E hr h => ?_)
 ·obtain ⟨p,rfl,_⟩ := h
  rfl
 ·obtain ⟨p,rfl,⟨⟨dx,hp⟩,_⟩,q⟩ := h
  refine ⟨_,(Jc (Jp (Jw J2g (hr.mono (by decide)) (J0 (Jv (l := [109,111,115,116]) (by decide +kernel)) (J0 (Jg (K := K) rfl (pv 0) rfl) (J0 (Jg (K := K) rfl (pv 0) rfl) (J0 (Jg (K := K) rfl (pv 0) rfl) J6))))))),?_⟩
  walk_at "st"
  clear J2g
  have c1 := tx.J30.cl
  have k1 := tx.J1n
  have k2 := tx.J12
  have k3 := tx.J1k
  obtain ⟨⟨n0,n1⟩,⟨d0,d1⟩,hm⟩ := ho
  obtain ⟨m1,m2⟩ := J4e hm
  have n2 : n ≤ 9 := by omega
  have d2 : d ≤ 9 := by omega
  have d3 : 0 ≤ d := by omega
  have hp' : H p = some (.ins Jb dx [("many",.int n),("marks",T m),("days",.int d)]) := hp
  clear hp
  walk_at "rd"
  exact q
theorem J8p (tx : Tx K mg J8 Jb J7 Ja J3 Jh J2 J1) : ∀ n m d,(R.least n m d).ok → MtG P w K mg base J7 "text" 2 ["self"] (J9k (cs6 J8 Jb J7 Ja J3 Jh J2 J1) (.least n m d)) := fun n m d ho => by
 have J2g := J51 (P := P) (w := w) (base := base) tx
 refine tx.J8L.g tx.J1Y.cl J7q (fun _ _ _ _ _ _ us hl => match us,hl with | [_],_ => rfl) (fun vs H Q E h => ?_) (fun f cdv A outer s H vs Q E hr h => ?_)
 ·obtain ⟨p,rfl,_⟩ := h
  rfl
 ·obtain ⟨p,rfl,⟨⟨dx,hp⟩,_⟩,q⟩ := h
  refine ⟨_,(Jc (Jp (Jw J2g (hr.mono (by decide)) (J0 (Jv (l := [108,101,97,115,116]) (by decide +kernel)) (J0 (Jg (K := K) rfl (pv 0) rfl) (J0 (Jg (K := K) rfl (pv 0) rfl) (J0 (Jg (K := K) rfl (pv 0) rfl) J6))))))),?_⟩
  walk_at "st"
  clear J2g
  have c1 := tx.J1Y.cl
  have k1 := tx.J13
  have k2 := tx.J0R
  have k3 := tx.J0N
  obtain ⟨⟨n0,n1⟩,⟨d0,d1⟩,hm⟩ := ho
  obtain ⟨m1,m2⟩ := J4e hm
  have n2 : n ≤ 9 := by omega
  have d2 : d ≤ 9 := by omega
  have d3 : 0 ≤ d := by omega
  have hp' : H p = some (.ins J7 dx [("many",.int n),("marks",T m),("days",.int d)]) := hp
  clear hp
  walk_at "rd"
  exact q
theorem J3V (tx : Tx K mg J8 Jb J7 Ja J3 Jh J2 J1) {n : Nat} (G : ∀ r : R,r.ok → r.sz ≤ n → r.sz ≤ 25 → MtG P w K mg base (r.cls (cs6 J8 Jb J7 Ja J3 Jh J2 J1)) "text" (2 + 2 * n) ["self"] (J9k (cs6 J8 Jb J7 Ja J3 Jh J2 J1) r)) : FnG P w K mg base "part_text" (3 + 2 * n) ["rule","in_brackets"] (Jg7 (cs6 J8 Jb J7 Ja J3 Jh J2 J1) n) := by
 refine FnG.mono (j := (2 + 2 * n) + 1) (tx.J9p.g J4R (fun _ _ _ _ _ _ us hl => match us,hl with | [_,_],_ => rfl) (fun vs H Q E h => ?_) (fun f cdv A outer s H vs Q E hr h => ?_)) (by omega)
 ·obtain ⟨r,p,b,rfl,_⟩ := h
  rfl
 ·obtain ⟨r,p,b,rfl,hR,ho,hz,hz2,q⟩ := h
  refine ⟨_,(J5 (Jj (i := 2) J4R.nd rfl (Or.inl rfl) (J6g (P := P) (w := w) (K := K) (mg := mg) (base := base) hr (pv 0) rfl rfl rfl rfl rfl))
   (Jc (Jp (Jar (J3Z (pv 1)) (J6j (J0o (J4G (l := [40,32]) (by decide +kernel)) (J0o (J4E (pv 2)) (J0o (J4G (l := [32,41]) (by decide +kernel)) J6h)))) (pv 2))))),?_⟩
  walk_at "st"
  obtain ⟨dx,fs,ob,_,_,nt⟩ := hR.obj
  have Gr := G r ho hz hz2
  have hl := R.tx_len ho
  have hl2 : r.tx.length ≤ 960 := by omega
  clear G
  walk_at "rd"
  refine ite2 (fun c => ?_) (fun c => ?_)
  ·rw [c] at q
   walk_at "rd"
   exact q
  ·rw [Bool.eq_false_iff.mpr c] at q
   walk_at "rd"
   exact q
theorem JbY (tx : Tx K mg J8 Jb J7 Ja J3 Jh J2 J1) : ∀ (n : Nat) (r : R),r.ok → r.sz ≤ n → r.sz ≤ 25 → MtG P w K mg base (r.cls (cs6 J8 Jb J7 Ja J3 Jh J2 J1)) "text" (2 + 2 * n) ["self"] (J9k (cs6 J8 Jb J7 Ja J3 Jh J2 J1) r)
 | 0,r,_,hz,_ => by have := r.sz_pos; omega
 | n + 1,.nev w,ho,_,_ => (J8r tx w ho).mono (by omega)
 | n + 1,.most a m d,ho,_,_ => (J9I tx a m d ho).mono (by omega)
 | n + 1,.least a m d,ho,_,_ => (J8p tx a m d ho).mono (by omega)
 | n + 1,.neg i,ho,hz,h24 => by
  have hi : i.sz ≤ n := by have : i.sz + 1 ≤ n + 1 := hz; omega
  have hi2 : i.sz ≤ 25 := by have : i.sz + 1 ≤ 25 := h24; omega
  have hoi : i.ok := ho
  have J0L := J3V (P := P) (w := w) (base := base) tx (n := n) fun r h1 h2 => JbY tx n r h1 h2
  have J2H := J5Q (P := P) (w := w) (base := base) tx
  refine MtG.mono (j := (3 + 2 * n) + 1) (tx.JaW.g tx.J6y.cl J9l (fun _ _ _ _ _ _ us hl => match us,hl with | [_],_ => rfl) (fun vs H Q E h => ?_) (fun f cdv A outer s H vs Q E hr h => ?_)) (by omega)
  ·obtain ⟨p,rfl,_⟩ := h
   rfl
  ·obtain ⟨p,rfl,⟨dx,a,e,ha⟩,q⟩ := h
   refine ⟨_,(Jc (Jp (Jf J0F (Jv (l := [110,111,116,32]) (by decide +kernel)) (Jw J0L (hr.mono (by omega)) (J0 (Jg (K := K) rfl (pv 0) rfl) (J0 (Jw J2H (hr.mono (by omega)) (J0 (Jg (K := K) rfl (pv 0) rfl) J6)) J6)))))),?_⟩
   walk_at "st"
   have c1 := tx.J6y.cl
   have n1 := tx.J1p
   have hl := R.tx_len hoi
   have hb := J6m (decide (0 < i.lvl)) i.tx
   have hb2 : (brT (decide (0 < i.lvl)) i.tx).length ≤ 964 := by omega
   have e' : H p = some (.ins Jh dx [("inner",.ref a)]) := e
   clear e J0L J2H
   walk_at "rd"
   exact q
 | n + 1,.both l r,ho,hz,h24 => by
  have z1 : l.sz + r.sz + 1 ≤ n + 1 := hz
  have z2 : l.sz + r.sz + 1 ≤ 25 := h24
  have hl1 : l.sz ≤ n := by omega
  have hl2 : l.sz ≤ 25 := by omega
  have hr1 : r.sz ≤ n := by omega
  have hr2 : r.sz ≤ 25 := by omega
  obtain ⟨ol,or⟩ : l.ok ∧ r.ok := ho
  have tl := R.tx_len ol
  have tr := R.tx_len or
  have J0L := J3V (P := P) (w := w) (base := base) tx (n := n) fun r h1 h2 => JbY tx n r h1 h2
  have J2H := J5Q (P := P) (w := w) (base := base) tx
  refine MtG.mono (j := (3 + 2 * n) + 1) (tx.J9q.g tx.J3m.cl J3A (fun _ _ _ _ _ _ us hl => match us,hl with | [_],_ => rfl) (fun vs H Q E h => ?_) (fun f cdv A outer s H vs Q E hr h => ?_)) (by omega)
  ·obtain ⟨p,rfl,_⟩ := h
   rfl
  ·obtain ⟨p,rfl,⟨dx,a,b,e,ha,hb⟩,q⟩ := h
   refine ⟨_,(J5 (Jj (i := 1) J3A.nd rfl (Or.inl rfl) (Jw J0L (hr.mono (by omega)) (J0 (Jg (K := K) rfl (pv 0) rfl) (J0 (Jt (J3J (K := K) rfl) rfl tx.J0K J2C (J0 (Jg (K := K) rfl (pv 0) rfl) (J0 (J5a (v := .ref J3) rfl tx.J18.mg rfl) J6))) J6))))
   (J5 (Jj (i := 2) J3A.nd rfl (Or.inl rfl) (Jw J0L (hr.mono (by omega)) (J0 (Jg (K := K) rfl (pv 0) rfl) (J0 (Jw J2H (hr.mono (by omega)) (J0 (Jg (K := K) rfl (pv 0) rfl) J6)) J6))))
   (Jc (Jp (J6j (J0o (J4E (pv 1)) (J0o (J4G (l := [32,97,110,100,32]) (by decide +kernel)) (J0o (J4E (pv 2)) J6h)))))))),?_⟩
   walk_at "st"
   have c1 := tx.J3m.cl
   have n1 := tx.J1x
   have n2 := tx.J14
   have e' : H p = some (.ins Ja dx [("left",.ref a),("right",.ref b)]) := e
   clear e
   obtain ⟨dxl,fsl,b1,b2,obl,yl,il1,il2,el1,el2,_⟩ := R.kinds tx ha
   have w1 := J6m b2 l.tx
   have w2 := J6m (decide (0 < r.lvl)) r.tx
   have w3 : (brT b2 l.tx).length + (brT (decide (0 < r.lvl)) r.tx).length ≤ 930 := by omega
   have w4 : (brT b2 l.tx).length ≤ 930 := by omega
   have w5 : (brT (decide (0 < r.lvl)) r.tx).length ≤ 930 := by omega
   clear J0L J2H
   walk_at "rd"
   have eq : brT b2 l.tx ++ [32,97,110,100,32] ++ brT (decide (0 < r.lvl)) r.tx = (R.both l r).tx := by rw [el2]; rfl
   rw [← eq] at q
   exact q
 | n + 1,.either l r,ho,hz,h24 => by
  have z1 : l.sz + r.sz + 1 ≤ n + 1 := hz
  have z2 : l.sz + r.sz + 1 ≤ 25 := h24
  have hl1 : l.sz ≤ n := by omega
  have hl2 : l.sz ≤ 25 := by omega
  have hr1 : r.sz ≤ n := by omega
  have hr2 : r.sz ≤ 25 := by omega
  obtain ⟨ol,or⟩ : l.ok ∧ r.ok := ho
  have tl := R.tx_len ol
  have tr := R.tx_len or
  have J0L := J3V (P := P) (w := w) (base := base) tx (n := n) fun r h1 h2 => JbY tx n r h1 h2
  have Gl := JbY tx n l ol hl1 hl2
  refine MtG.mono (j := (3 + 2 * n) + 1) (tx.J7F.g tx.J18.cl J33 (fun _ _ _ _ _ _ us hl => match us,hl with | [_],_ => rfl) (fun vs H Q E h => ?_) (fun f cdv A outer s H vs Q E hr h => ?_)) (by omega)
  ·obtain ⟨p,rfl,_⟩ := h
   rfl
  ·obtain ⟨p,rfl,⟨dx,a,b,e,ha,hb⟩,q⟩ := h
   refine ⟨_,(J5 (Jj (i := 1) J33.nd rfl (Or.inl rfl) (J6g (P := P) (w := w) (K := K) (mg := mg) (base := base) hr (Jg (K := K) rfl (pv 0) rfl) rfl rfl rfl rfl rfl))
   (J5 (Jj (i := 2) J33.nd rfl (Or.inl rfl) (Jw J0L (hr.mono (by omega)) (J0 (Jg (K := K) rfl (pv 0) rfl) (J0 (Jt (J3J (K := K) rfl) rfl tx.J0K J2C (J0 (Jg (K := K) rfl (pv 0) rfl) (J0 (J5a (v := .ref J3) rfl tx.J18.mg rfl) J6))) J6))))
   (Jc (Jp (J6j (J0o (J4E (pv 1)) (J0o (J4G (l := [32,111,114,32]) (by decide +kernel)) (J0o (J4E (pv 2)) J6h)))))))),?_⟩
   walk_at "st"
   have c1 := tx.J18.cl
   have n1 := tx.J0S
   have n2 := tx.J0A
   have e' : H p = some (.ins J3 dx [("left",.ref a),("right",.ref b)]) := e
   clear e
   obtain ⟨dxl,fsl,obl,_,_,ntl⟩ := ha.obj
   obtain ⟨dxr,fsr,b1,b2,obr,yr,ir1,ir2,er1,er2,_⟩ := R.kinds tx hb
   have w2 := J6m b2 r.tx
   have w3 : l.tx.length + (brT b2 r.tx).length ≤ 930 := by omega
   have w4 : l.tx.length ≤ 930 := by omega
   have w5 : (brT b2 r.tx).length ≤ 930 := by omega
   clear J0L
   walk_at "rd"
   have eq : l.tx ++ [32,111,114,32] ++ brT b2 r.tx = (R.either l r).tx := by
    have el : brT (decide (2 < l.lvl)) l.tx = l.tx := by rw [decide_eq_false (by have := l.lvl2; omega)]; rfl
    rw [er2,← el]
    show _ = brT (decide (2 < l.lvl)) l.tx ++ [32,111,114,32] ++ brT (decide (1 < r.lvl)) r.tx
    rw [el]
   rw [← eq] at q
   exact q
end
noncomputable def dayB (r : R) (past row : List Nat) (d : Nat) : Bool := r.bad (past ++ row.take (d + 1))
noncomputable def badL (r : R) (past row : List Nat) : List Nat := (List.range row.length).filter (dayB r past row)
noncomputable def dL (ds : List Nat) : List V := (ds.map fun (d : Nat) => (d : Int)).map V.int
noncomputable def Je9 (c6 : Cs) : Sp := fun vs H Q _ => ∃ p past row r,vs = [.ref p,T past,T row] ∧ JD c6 H r p ∧ r.depth ≤ 23 ∧ past.length ≤ 300 ∧ row.length ≤ 300 ∧ ∀ D H',Same H H' → H D = none → H' D = some (.lst (dL (badL r past row))) → Q (.ref D) H'
section
variable {P : Program} {w : World} {K : PySem.W.Frag} {mg : Str → Option Value} {base : Heap} {J8 Jb J7 Ja J3 Jh J2 J1 : Addr}
theorem JaS (tx : Tx K mg J8 Jb J7 Ja J3 Jh J2 J1) : FnG P w K mg base "bad_days" 30 ["rule","past","row"] (Je9 (cs6 J8 Jb J7 Ja J3 Jh J2 J1)) := by
 refine tx.JaY.g J9O (fun _ _ _ _ _ _ us hl => match us,hl with | [_,_,_],_ => rfl) (fun vs H Q E h => ?_) (fun f cdv A outer s H vs Q E hr h => ?_)
 ·obtain ⟨p,past,row,r,rfl,_⟩ := h
  rfl
 ·obtain ⟨p,past,row,r,rfl,hR,hd,hp,hw,q⟩ := h
  refine ⟨_,(Jc (Jp (J05 (osc := J4 J1Z) (ON := ["rule","past","row"]) (N := ["day","rule","past","row"]) (js := [none,some 0,some 1,some 2]) ⟨rfl,by decide +kernel,by decide +kernel,by decide +kernel,rfl,by decide +kernel⟩ rfl rfl rfl (JW rfl tx.JY (J0 (Jt J03 rfl tx.J0c PySem.boot_len (J0 (pv 2) J6)) J6)) (fun _ _ _ _ _ => Jo (i := 0) (show List.Nodup (["day","rule","past","row"] : List Str) from by decide +kernel) rfl (Or.inl rfl)) (fun _ _ _ _ _ => J06 (J3Z (J4A (P := P) (w := w) (K := K) (mg := mg) (base := base) hr (pv 1) (J0 (Jf J0F (pv 2) (J0e J2N (pv 3) J15 (J0q (Jf JL (pv 0) Jd)))) J6) rfl rfl rfl rfl rfl))) (fun _ _ _ _ _ => (pv 0))))),?_⟩
  walk_at "st"
  have Gb := J6M (P := P) (w := w) (base := base) tx r
  walk_at "rd"
  refine J3C (fun x => match x with | .int d => dayB r past row d.toNat | _ => false) (fun x => x) (J2c 0 (row.length : Int).toNat) ?_ (fun x hx H' s' R hR' => ?_) (fun x hx hp H' s' R hR' => ?_) (fun D H' hD s' hDD => ?_)
  ·rw [List.length_map,List.length_range]; omega
  ·obtain ⟨k,hk,rfl⟩ := List.mem_map.mp hx
   have hk := List.mem_range.mp hk
   have rp := hR.same s'
   obtain ⟨dx,fs,ob,nb,_⟩ := rp.obj
   have hcl := J2B row none (some (0 + (k : Int) + 1))
   have e : cutN row none (some (0 + (k : Int) + 1)) = row.take (((0 : Int) + (k : Int)).toNat + 1) := by
    rw [J45 _ _ (by omega),show (0 + (k : Int) + 1).toNat = (0 + (k : Int)).toNat + 1 by omega]
   walk_at "rd"
   intro H2 s2
   walk_at "rd"
   have q2 := hR' H2 s2
   show R (r.bad (past ++ cutN row none (some (0 + (k : Int) + 1)))) H2
   rw [e]
   exact q2
  ·walk_at "rd"
   exact hR' H' (Same.refl _)
  refine q D H' s' hD ?_
  rw [hDD]
  congr 2
  rw [List.map_id',List.filter_map]
  unfold dL badL
  rw [List.map_map]
  have e : (fun (d : Nat) => (V.int ((d : Int)))) = fun (i : Nat) => V.int (0 + (i : Int)) := by funext i; rw [Int.zero_add]
  show List.map _ _ = List.map (fun d : Nat => V.int (d : Int)) _
  rw [e,Int.toNat_natCast]
  congr 1
  refine List.filter_congr fun d _ => ?_
  show dayB r past row (0 + (d : Int)).toNat = dayB r past row d
  congr 1
  omega
end
section
variable {P : Program} {w : World} {K : PySem.W.Frag} {mg : Str → Option Value} {base : Heap} {J8 Jb J7 Ja J3 Jh J2 J1 : Addr}
theorem J4k (tx : Tx K mg J8 Jb J7 Ja J3 Jh J2 J1) : MtG P w K mg base J2 "__init__" 1 ["self","name","skills","most","carried","past"] (J9G J2) := by
 refine tx.J7M.g tx.JS.cl J6D (fun _ _ _ _ _ _ us hl => match us,hl with | [_,_,_,_,_,_],_ => rfl) (fun vs H Q E h => ?_) (fun f cdv A outer s H vs Q E hr h => ?_)
 ·obtain ⟨p,dx,a,b,c,d,e,rfl,_⟩ := h
  rfl
 ·obtain ⟨p,dx,a,b,c,d,e,rfl,hp,q⟩ := h
  refine ⟨_,(J5 (J0m (pv 0) (pv 1) rfl)
   (J5 (J0m (pv 0) (pv 2) rfl)
   (J5 (J0m (pv 0) (pv 3) rfl)
   (J5 (J0m (pv 0) (pv 4) rfl)
   (Jc (J0m (pv 0) (pv 5) rfl)))))),?_⟩
  walk_at "st"
  refine ⟨_,rfl,_,rfl,p,J2,dx,[],rfl,hp,tx.JS.cl,tx.Jy,(by show 0 < 1000; decide),?_⟩
  refine ⟨_,rfl,_,rfl,p,J2,dx,[("name",a)],rfl,J9,tx.JS.cl,tx.J04,(by show 1 < 1000; decide),?_⟩
  rw [putN (fs := [("name",a)]) (show ∀ g ∈ [("name" : Str)],g ≠ "skills" from by decide +kernel)]
  refine ⟨_,rfl,_,rfl,p,J2,dx,[("name",a),("skills",b)],rfl,J9,tx.JS.cl,tx.J0r,(by show 2 < 1000; decide),?_⟩
  rw [putN (fs := [("name",a),("skills",b)]) (show ∀ g ∈ [("name" : Str),"skills"],g ≠ "most" from by decide +kernel)]
  refine ⟨_,rfl,_,rfl,p,J2,dx,[("name",a),("skills",b),("most",c)],rfl,J9,tx.JS.cl,tx.J08,(by show 3 < 1000; decide),?_⟩
  rw [putN (fs := [("name",a),("skills",b),("most",c)]) (show ∀ g ∈ [("name" : Str),"skills","most"],g ≠ "carried" from by decide +kernel)]
  refine ⟨_,rfl,_,rfl,p,J2,dx,[("name",a),("skills",b),("most",c),("carried",d)],rfl,J9,tx.JS.cl,tx.J0d,(by show 4 < 1000; decide),?_⟩
  rw [putN (fs := [("name",a),("skills",b),("most",c),("carried",d)]) (show ∀ g ∈ [("name" : Str),"skills","most","carried"],g ≠ "past" from by decide +kernel)]
  exact q _ (But.refl p H).at.at.at.at.at J9
theorem J4V (tx : Tx K mg J8 Jb J7 Ja J3 Jh J2 J1) : MtG P w K mg base J1 "__init__" 1 ["self","days","kinds","needs","persons","leave","wishes","rules","pairs"] (J9v J1) := by
 refine tx.J8E.g tx.JP.cl J7L (fun _ _ _ _ _ _ us hl => match us,hl with | [_,_,_,_,_,_,_,_,_],_ => rfl) (fun vs H Q E h => ?_) (fun f cdv A outer s H vs Q E hr h => ?_)
 ·obtain ⟨p,dx,d,k,b1,b2,b3,b4,b5,b6,x1,x2,x3,x4,x5,x6,rfl,_⟩ := h
  rfl
 ·obtain ⟨p,dx,d,k,b1,b2,b3,b4,b5,b6,x1,x2,x3,x4,x5,x6,rfl,hp,h1,h2,h3,h4,h5,h6,q⟩ := h
  refine ⟨_,(J5 (J0m (pv 0) (pv 1) rfl)
   (J5 (J0m (pv 0) (pv 2) rfl)
   (J5 (J0m (pv 0) (J1N J16 rfl tx.J2M J1z (J0 (pv 3) J6)) rfl)
   (J5 (J0m (pv 0) (J1N J16 rfl tx.J2M J1z (J0 (pv 4) J6)) rfl)
   (J5 (J0m (pv 0) (J1N J16 rfl tx.J2M J1z (J0 (pv 5) J6)) rfl)
   (J5 (J0m (pv 0) (J1N J16 rfl tx.J2M J1z (J0 (pv 6) J6)) rfl)
   (J5 (J0m (pv 0) (J1N J16 rfl tx.J2M J1z (J0 (pv 7) J6)) rfl)
   (Jc (J0m (pv 0) (J1N J16 rfl tx.J2M J1z (J0 (pv 8) J6)) rfl))))))))),?_⟩
  walk_at "st"
  have nb : ∀ {b : Addr} {x : List V},H b = some (.lst x) → b ≠ p := fun e => JeY e hp (by intro z; cases z)
  refine ⟨_,rfl,_,rfl,p,J1,dx,[],rfl,hp,tx.JP.cl,tx.J0M,(by show 0 < 1000; decide),?_⟩
  refine ⟨_,rfl,_,rfl,p,J1,dx,[("days",d)],rfl,J9,tx.JP.cl,tx.J0v,(by show 1 < 1000; decide),?_⟩
  rw [putN (fs := [("days",d)]) (show ∀ g ∈ [("days" : Str)],g ≠ "kinds" from by decide +kernel)]
  have B0 : But p H (upd (upd H p (.ins J1 dx (putF "days" d []))) p (.ins J1 dx ([(("days" : Str),d)] ++ [(("kinds" : Str),k)]))) := (But.refl p H).at.at
  have e0 : upd (upd H p (.ins J1 dx (putF "days" d []))) p (.ins J1 dx ([(("days" : Str),d)] ++ [(("kinds" : Str),k)])) p = some (.ins J1 dx [("days",d),("kinds",k)]) := J9
  generalize upd (upd H p (.ins J1 dx (putF "days" d []))) p (.ins J1 dx ([(("days" : Str),d)] ++ [(("kinds" : Str),k)])) = H0 at B0 e0 ⊢
  refine ⟨_,rfl,b1,x1,rfl,.inl (SqL.of (B0 _ _ (nb h1) h1)),fun a1 n1 => ?_⟩
  refine ⟨_,rfl,p,J1,dx,[("days",d),("kinds",k)],rfl,(Ji (Je e0 n1)).trans e0,tx.JP.cl,tx.J0u,(by show 2 < 1000; decide),?_⟩
  rw [putN (fs := [("days",d),("kinds",k)]) (show ∀ g ∈ [("days" : Str),"kinds"],g ≠ "needs" from by decide +kernel)]
  have z1 : a1 ≠ p := (Je e0 n1).symm
  have B1 : But p H (upd (upd H0 a1 (.lst x1)) p (.ins J1 dx ([(("days" : Str),d),("kinds",k)] ++ [(("needs" : Str),.ref a1)]))) := (B0.new n1).at
  have e1 : upd (upd H0 a1 (.lst x1)) p (.ins J1 dx ([(("days" : Str),d),("kinds",k)] ++ [(("needs" : Str),.ref a1)])) p = some (.ins J1 dx [("days",d),("kinds",k),("needs",.ref a1)]) := J9
  have y1 : upd (upd H0 a1 (.lst x1)) p (.ins J1 dx ([(("days" : Str),d),("kinds",k)] ++ [(("needs" : Str),.ref a1)])) a1 = some (.lst x1) := by rw [Ji z1]; exact J9
  have m1 : H a1 = none := by cases hh : H a1 with | none => rfl | some o => rw [B0 _ _ z1 hh] at n1; cases n1
  generalize upd (upd H0 a1 (.lst x1)) p (.ins J1 dx ([(("days" : Str),d),("kinds",k)] ++ [(("needs" : Str),.ref a1)])) = H1 at B1 e1 y1 ⊢
  refine ⟨_,rfl,b2,x2,rfl,.inl (SqL.of (B1 _ _ (nb h2) h2)),fun a2 n2 => ?_⟩
  refine ⟨_,rfl,p,J1,dx,[("days",d),("kinds",k),("needs",.ref a1)],rfl,(Ji (Je e1 n2)).trans e1,tx.JP.cl,tx.JJ,(by show 3 < 1000; decide),?_⟩
  rw [putN (fs := [("days",d),("kinds",k),("needs",.ref a1)]) (show ∀ g ∈ [("days" : Str),"kinds","needs"],g ≠ "persons" from by decide +kernel)]
  have z2 : a2 ≠ p := (Je e1 n2).symm
  have B2 : But p H (upd (upd H1 a2 (.lst x2)) p (.ins J1 dx ([(("days" : Str),d),("kinds",k),("needs",.ref a1)] ++ [(("persons" : Str),.ref a2)]))) := (B1.new n2).at
  have e2 : upd (upd H1 a2 (.lst x2)) p (.ins J1 dx ([(("days" : Str),d),("kinds",k),("needs",.ref a1)] ++ [(("persons" : Str),.ref a2)])) p = some (.ins J1 dx [("days",d),("kinds",k),("needs",.ref a1),("persons",.ref a2)]) := J9
  have y2 : upd (upd H1 a2 (.lst x2)) p (.ins J1 dx ([(("days" : Str),d),("kinds",k),("needs",.ref a1)] ++ [(("persons" : Str),.ref a2)])) a2 = some (.lst x2) := by rw [Ji z2]; exact J9
  have y12 : upd (upd H1 a2 (.lst x2)) p (.ins J1 dx ([(("days" : Str),d),("kinds",k),("needs",.ref a1)] ++ [(("persons" : Str),.ref a2)])) a1 = some (.lst x1) := by rw [Ji z1,Ji (Je y1 n2)]; exact y1
  have m2 : H a2 = none := by cases hh : H a2 with | none => rfl | some o => rw [B1 _ _ z2 hh] at n2; cases n2
  generalize upd (upd H1 a2 (.lst x2)) p (.ins J1 dx ([(("days" : Str),d),("kinds",k),("needs",.ref a1)] ++ [(("persons" : Str),.ref a2)])) = H2 at B2 e2 y2 y12 ⊢
  refine ⟨_,rfl,b3,x3,rfl,.inl (SqL.of (B2 _ _ (nb h3) h3)),fun a3 n3 => ?_⟩
  refine ⟨_,rfl,p,J1,dx,[("days",d),("kinds",k),("needs",.ref a1),("persons",.ref a2)],rfl,(Ji (Je e2 n3)).trans e2,tx.JP.cl,tx.J0s,(by show 4 < 1000; decide),?_⟩
  rw [putN (fs := [("days",d),("kinds",k),("needs",.ref a1),("persons",.ref a2)]) (show ∀ g ∈ [("days" : Str),"kinds","needs","persons"],g ≠ "leave" from by decide +kernel)]
  have z3 : a3 ≠ p := (Je e2 n3).symm
  have B3 : But p H (upd (upd H2 a3 (.lst x3)) p (.ins J1 dx ([(("days" : Str),d),("kinds",k),("needs",.ref a1),("persons",.ref a2)] ++ [(("leave" : Str),.ref a3)]))) := (B2.new n3).at
  have e3 : upd (upd H2 a3 (.lst x3)) p (.ins J1 dx ([(("days" : Str),d),("kinds",k),("needs",.ref a1),("persons",.ref a2)] ++ [(("leave" : Str),.ref a3)])) p = some (.ins J1 dx [("days",d),("kinds",k),("needs",.ref a1),("persons",.ref a2),("leave",.ref a3)]) := J9
  have y3 : upd (upd H2 a3 (.lst x3)) p (.ins J1 dx ([(("days" : Str),d),("kinds",k),("needs",.ref a1),("persons",.ref a2)] ++ [(("leave" : Str),.ref a3)])) a3 = some (.lst x3) := by rw [Ji z3]; exact J9
  have y13 : upd (upd H2 a3 (.lst x3)) p (.ins J1 dx ([(("days" : Str),d),("kinds",k),("needs",.ref a1),("persons",.ref a2)] ++ [(("leave" : Str),.ref a3)])) a1 = some (.lst x1) := by rw [Ji z1,Ji (Je y12 n3)]; exact y12
  have y23 : upd (upd H2 a3 (.lst x3)) p (.ins J1 dx ([(("days" : Str),d),("kinds",k),("needs",.ref a1),("persons",.ref a2)] ++ [(("leave" : Str),.ref a3)])) a2 = some (.lst x2) := by rw [Ji z2,Ji (Je y2 n3)]; exact y2
  have m3 : H a3 = none := by cases hh : H a3 with | none => rfl | some o => rw [B2 _ _ z3 hh] at n3; cases n3
  generalize upd (upd H2 a3 (.lst x3)) p (.ins J1 dx ([(("days" : Str),d),("kinds",k),("needs",.ref a1),("persons",.ref a2)] ++ [(("leave" : Str),.ref a3)])) = H3 at B3 e3 y3 y13 y23 ⊢
  refine ⟨_,rfl,b4,x4,rfl,.inl (SqL.of (B3 _ _ (nb h4) h4)),fun a4 n4 => ?_⟩
  refine ⟨_,rfl,p,J1,dx,[("days",d),("kinds",k),("needs",.ref a1),("persons",.ref a2),("leave",.ref a3)],rfl,(Ji (Je e3 n4)).trans e3,tx.JP.cl,tx.J0y,(by show 5 < 1000; decide),?_⟩
  rw [putN (fs := [("days",d),("kinds",k),("needs",.ref a1),("persons",.ref a2),("leave",.ref a3)]) (show ∀ g ∈ [("days" : Str),"kinds","needs","persons","leave"],g ≠ "wishes" from by decide +kernel)]
  have z4 : a4 ≠ p := (Je e3 n4).symm
  have B4 : But p H (upd (upd H3 a4 (.lst x4)) p (.ins J1 dx ([(("days" : Str),d),("kinds",k),("needs",.ref a1),("persons",.ref a2),("leave",.ref a3)] ++ [(("wishes" : Str),.ref a4)]))) := (B3.new n4).at
  have e4 : upd (upd H3 a4 (.lst x4)) p (.ins J1 dx ([(("days" : Str),d),("kinds",k),("needs",.ref a1),("persons",.ref a2),("leave",.ref a3)] ++ [(("wishes" : Str),.ref a4)])) p = some (.ins J1 dx [("days",d),("kinds",k),("needs",.ref a1),("persons",.ref a2),("leave",.ref a3),("wishes",.ref a4)]) := J9
  have y4 : upd (upd H3 a4 (.lst x4)) p (.ins J1 dx ([(("days" : Str),d),("kinds",k),("needs",.ref a1),("persons",.ref a2),("leave",.ref a3)] ++ [(("wishes" : Str),.ref a4)])) a4 = some (.lst x4) := by rw [Ji z4]; exact J9
  have y14 : upd (upd H3 a4 (.lst x4)) p (.ins J1 dx ([(("days" : Str),d),("kinds",k),("needs",.ref a1),("persons",.ref a2),("leave",.ref a3)] ++ [(("wishes" : Str),.ref a4)])) a1 = some (.lst x1) := by rw [Ji z1,Ji (Je y13 n4)]; exact y13
  have y24 : upd (upd H3 a4 (.lst x4)) p (.ins J1 dx ([(("days" : Str),d),("kinds",k),("needs",.ref a1),("persons",.ref a2),("leave",.ref a3)] ++ [(("wishes" : Str),.ref a4)])) a2 = some (.lst x2) := by rw [Ji z2,Ji (Je y23 n4)]; exact y23
  have y34 : upd (upd H3 a4 (.lst x4)) p (.ins J1 dx ([(("days" : Str),d),("kinds",k),("needs",.ref a1),("persons",.ref a2),("leave",.ref a3)] ++ [(("wishes" : Str),.ref a4)])) a3 = some (.lst x3) := by rw [Ji z3,Ji (Je y3 n4)]; exact y3
  have m4 : H a4 = none := by cases hh : H a4 with | none => rfl | some o => rw [B3 _ _ z4 hh] at n4; cases n4
  generalize upd (upd H3 a4 (.lst x4)) p (.ins J1 dx ([(("days" : Str),d),("kinds",k),("needs",.ref a1),("persons",.ref a2),("leave",.ref a3)] ++ [(("wishes" : Str),.ref a4)])) = H4 at B4 e4 y4 y14 y24 y34 ⊢
  refine ⟨_,rfl,b5,x5,rfl,.inl (SqL.of (B4 _ _ (nb h5) h5)),fun a5 n5 => ?_⟩
  refine ⟨_,rfl,p,J1,dx,[("days",d),("kinds",k),("needs",.ref a1),("persons",.ref a2),("leave",.ref a3),("wishes",.ref a4)],rfl,(Ji (Je e4 n5)).trans e4,tx.JP.cl,tx.J0t,(by show 6 < 1000; decide),?_⟩
  rw [putN (fs := [("days",d),("kinds",k),("needs",.ref a1),("persons",.ref a2),("leave",.ref a3),("wishes",.ref a4)]) (show ∀ g ∈ [("days" : Str),"kinds","needs","persons","leave","wishes"],g ≠ "rules" from by decide +kernel)]
  have z5 : a5 ≠ p := (Je e4 n5).symm
  have B5 : But p H (upd (upd H4 a5 (.lst x5)) p (.ins J1 dx ([(("days" : Str),d),("kinds",k),("needs",.ref a1),("persons",.ref a2),("leave",.ref a3),("wishes",.ref a4)] ++ [(("rules" : Str),.ref a5)]))) := (B4.new n5).at
  have e5 : upd (upd H4 a5 (.lst x5)) p (.ins J1 dx ([(("days" : Str),d),("kinds",k),("needs",.ref a1),("persons",.ref a2),("leave",.ref a3),("wishes",.ref a4)] ++ [(("rules" : Str),.ref a5)])) p = some (.ins J1 dx [("days",d),("kinds",k),("needs",.ref a1),("persons",.ref a2),("leave",.ref a3),("wishes",.ref a4),("rules",.ref a5)]) := J9
  have y5 : upd (upd H4 a5 (.lst x5)) p (.ins J1 dx ([(("days" : Str),d),("kinds",k),("needs",.ref a1),("persons",.ref a2),("leave",.ref a3),("wishes",.ref a4)] ++ [(("rules" : Str),.ref a5)])) a5 = some (.lst x5) := by rw [Ji z5]; exact J9
  have y15 : upd (upd H4 a5 (.lst x5)) p (.ins J1 dx ([(("days" : Str),d),("kinds",k),("needs",.ref a1),("persons",.ref a2),("leave",.ref a3),("wishes",.ref a4)] ++ [(("rules" : Str),.ref a5)])) a1 = some (.lst x1) := by rw [Ji z1,Ji (Je y14 n5)]; exact y14
  have y25 : upd (upd H4 a5 (.lst x5)) p (.ins J1 dx ([(("days" : Str),d),("kinds",k),("needs",.ref a1),("persons",.ref a2),("leave",.ref a3),("wishes",.ref a4)] ++ [(("rules" : Str),.ref a5)])) a2 = some (.lst x2) := by rw [Ji z2,Ji (Je y24 n5)]; exact y24
  have y35 : upd (upd H4 a5 (.lst x5)) p (.ins J1 dx ([(("days" : Str),d),("kinds",k),("needs",.ref a1),("persons",.ref a2),("leave",.ref a3),("wishes",.ref a4)] ++ [(("rules" : Str),.ref a5)])) a3 = some (.lst x3) := by rw [Ji z3,Ji (Je y34 n5)]; exact y34
  have y45 : upd (upd H4 a5 (.lst x5)) p (.ins J1 dx ([(("days" : Str),d),("kinds",k),("needs",.ref a1),("persons",.ref a2),("leave",.ref a3),("wishes",.ref a4)] ++ [(("rules" : Str),.ref a5)])) a4 = some (.lst x4) := by rw [Ji z4,Ji (Je y4 n5)]; exact y4
  have m5 : H a5 = none := by cases hh : H a5 with | none => rfl | some o => rw [B4 _ _ z5 hh] at n5; cases n5
  generalize upd (upd H4 a5 (.lst x5)) p (.ins J1 dx ([(("days" : Str),d),("kinds",k),("needs",.ref a1),("persons",.ref a2),("leave",.ref a3),("wishes",.ref a4)] ++ [(("rules" : Str),.ref a5)])) = H5 at B5 e5 y5 y15 y25 y35 y45 ⊢
  refine ⟨_,rfl,b6,x6,rfl,.inl (SqL.of (B5 _ _ (nb h6) h6)),fun a6 n6 => ?_⟩
  refine ⟨_,rfl,p,J1,dx,[("days",d),("kinds",k),("needs",.ref a1),("persons",.ref a2),("leave",.ref a3),("wishes",.ref a4),("rules",.ref a5)],rfl,(Ji (Je e5 n6)).trans e5,tx.JP.cl,tx.J0w,(by show 7 < 1000; decide),?_⟩
  rw [putN (fs := [("days",d),("kinds",k),("needs",.ref a1),("persons",.ref a2),("leave",.ref a3),("wishes",.ref a4),("rules",.ref a5)]) (show ∀ g ∈ [("days" : Str),"kinds","needs","persons","leave","wishes","rules"],g ≠ "pairs" from by decide +kernel)]
  have z6 : a6 ≠ p := (Je e5 n6).symm
  have m6 : H a6 = none := by cases hh : H a6 with | none => rfl | some o => rw [B5 _ _ z6 hh] at n6; cases n6
  refine q _ a1 a2 a3 a4 a5 a6 (B5.new n6).at J9 ?_ ?_ ?_ ?_ ?_ ?_ m1 m2 m3 m4 m5 m6
  ·rw [Ji z1,Ji (Je y15 n6)]; exact y15
  ·rw [Ji z2,Ji (Je y25 n6)]; exact y25
  ·rw [Ji z3,Ji (Je y35 n6)]; exact y35
  ·rw [Ji z4,Ji (Je y45 n6)]; exact y45
  ·rw [Ji z5,Ji (Je y5 n6)]; exact y5
  ·rw [Ji z6]; exact J9
end
theorem lH_m {m : Str} (a b c d e f g h : V) (h1 : m ≠ "days") (h2 : m ≠ "kinds") (h3 : m ≠ "needs") (h4 : m ≠ "persons") (h5 : m ≠ "leave") (h6 : m ≠ "wishes") (h7 : m ≠ "rules") (h8 : m ≠ "pairs") : List.lookup m (fH a b c d e f g h) = none := by
 rw [JK h1,JK h2,JK h3,JK h4,JK h5,JK h6,JK h7,JK h8]
 rfl
theorem J8O (a b c d e f g h : V) : List.lookup ("need" : Str) (fH a b c d e f g h) = none := lH_m _ _ _ _ _ _ _ _ (by decide +kernel) (by decide +kernel) (by decide +kernel) (by decide +kernel) (by decide +kernel) (by decide +kernel) (by decide +kernel) (by decide +kernel)
noncomputable def Hk (C1 C2 : Addr) (H : Hp) (h : Addr) (dd : Int) (ks : List Nat) (nds : List Nd) (ps : List Ps) (ls : List (List Nat × Int)) : Prop :=
 ∃ a1 a2 a3 a4 a5 a6 xs ys zs ws,J5n C2 H h dd ks a1 a2 a3 a4 a5 a6 ∧ H a1 = some (.lst xs) ∧ All2 NdAt H nds xs ∧ H a2 = some (.lst ys) ∧ All2 (PsO C1) H ps ys ∧ H a3 = some (.lst zs) ∧ All2 LvT H ls zs ∧ H a4 = some (.lst ws)
noncomputable def JcN (C1 C2 : Addr) : Sp := fun vs H Q _ => ∃ (h : Addr) (d : Int) (k : Nat) (dd : Int) (ks : List Nat) (nds : List Nd) (ps : List Ps) (ls : List (List Nat × Int)),vs = [.ref h,.int d,T [k]] ∧ Hk C1 C2 H h dd ks nds ps ls ∧ ∀ (t : Addr) (H' : Hp),Same H H' → H' t = some (.tup [.int (J0k nds d k).1,.int (J0k nds d k).2]) → Q (.ref t) H'
theorem at0 (a b : V) : atI [a,b] 0 = some a := by simp [atI,ixN]
theorem at1 (a b : V) : atI [a,b] 1 = some b := by simp [atI,ixN]
section
variable {P : Program} {w : World} {K : PySem.W.Frag} {mg : Str → Option Value} {base : Heap} {J8 Jb J7 Ja J3 Jh J2 J1 : Addr}
local macro_rules | `(tactic| walk_at "lk") => `(tactic| first | exact J2n _ _ _ _ _ | exact J3t _ _ _ _ _ | exact J5i _ _ _ _ _ | exact J4C _ _ _ _ _ | exact J23 _ _ _ _ _ _ _ _ | exact J44 _ _ _ _ _ _ _ _ | exact J42 _ _ _ _ _ _ _ _ | exact J47 _ _ _ _ _ _ _ _ | exact J5L _ _ _ _ _ _ _ _ | exact J8O _ _ _ _ _ _ _ _ | exact Or.inr (SqT.of (by with_reducible assumption)))
theorem Jf8 (tx : Tx K mg J8 Jb J7 Ja J3 Jh J2 J1) : MtG P w K mg base J1 "need" 1 ["self","day","kind"] (JcN J2 J1) := by
 refine tx.J8e.g tx.JP.cl J1W (fun _ _ _ _ _ _ us hl => match us,hl with | [_,_,_],_ => rfl) (fun vs H Q E h => ?_) (fun f cdv A outer s H vs Q E hr h => ?_)
 ·obtain ⟨h,d,k,dd,ks,nds,pns,ls,rfl,_⟩ := h
  rfl
 ·obtain ⟨h,d,k,dd,ks,nds,pns,ls,rfl,⟨a1,a2,a3,a4,a5,a6,xs,ys,zs,ws,⟨dx,h1⟩,h2,h3,_⟩,q⟩ := h
  refine ⟨_,(J5 (J0l PassesOwn.never rfl (J07 (K := K) rfl (Jg (K := K) rfl (pv 0) rfl)) (J2P rfl (Jz (Jo (i := 3) J1W.nd rfl (Or.inl rfl)) (Jz (Jo (i := 4) J1W.nd rfl (Or.inl rfl)) (Jz (Jo (i := 5) J1W.nd rfl (Or.inl rfl)) (Jz (Jo (i := 6) J1W.nd rfl (Or.inl rfl)) J1P))))) (Jc (J01 (PW.pt (J3D (Jl J0f (pv 3) (pv 1) (Jq _)) (J3I (Jl J0f (pv 4) (pv 2) (Jq _))))) (Jc (Jp (J0a (J0 (pv 5) (J0 (pv 6) J6))))) JA)))
   (Jc (Jp (J0a (J0 Jd (J0 Jd J6)))))),?_⟩
  walk_at "st"
  have cH := tx.JP.cl
  have nH := tx.J0u
  walk_at "rd"
  refine J3y (K := K) (xs := xs) (fun i σ H2 => Here (∃ v1 v2 v3 v4,σ = [some (.ref h),some (.int d),some (T [k]),v1,v2,v3,v4] ∧ (∀ j < i,∀ n,nds[j]? = some n → ¬ (n.day = d ∧ n.kind = k)) ∧ H2 = H)) (Here.mk ⟨none,none,none,none,rfl,fun j hj => absurd hj (Nat.not_lt_zero _),rfl⟩) (fun i σ H2 _ hv => by obtain ⟨_,_,_,_,_,_,e⟩ := hv.out; rw [e]; exact SqL.of h2) ?_ ?_
  ·rintro i x σ H2 hx hv
   obtain ⟨v1,v2,v3,v4,rfl,hno,rfl⟩ := hv.out
   obtain ⟨n,hn,t,rfl,ht⟩ := h3.back hx
   have nx : ¬ (n.day = d ∧ n.kind = k) → ∀ j < i + 1,∀ m,nds[j]? = some m → ¬ (m.day = d ∧ m.kind = k) := fun z j hj m hm => by
    rcases Nat.lt_or_ge j i with y | y
    ·exact hno j y m hm
    ·have : j = i := by omega
     subst this
     rw [hn] at hm
     cases hm
     exact z
   walk_at "rd"
   refine ite2 (fun e1 => ?_) (fun e1 => ?_)
   ·have e1' : n.day = d := by have := of_decide_eq_true e1; injection this
    walk_at "rd"
    refine ite2 (fun e2 => ?_) (fun e2 => ?_)
    ·have e2' : n.kind = k := by have := J2p (of_decide_eq_true e2); simpa using this
     walk_at "rd"
     intro t2 ht2
     refine q t2 _ (Jr ht2 _) ?_
     rw [J9,Jcn hno hn ⟨e1',e2'⟩]
    ·exact Here.mk ⟨_,_,_,_,rfl,nx fun z => e2 (decide_eq_true (by rw [z.2])),rfl⟩
   ·walk_at "rd"
    exact Here.mk ⟨_,_,_,_,rfl,nx fun z => e1 (decide_eq_true (by rw [z.1])),rfl⟩
  ·rintro σ H2 hv
   obtain ⟨v1,v2,v3,v4,rfl,hno,rfl⟩ := hv.out
   walk_at "rd"
   intro t2 ht2
   refine q t2 _ (Jr ht2 _) ?_
   rw [J9,Jbm (by rw [← h3.len]; exact hno)]
end
section
variable {P : Program} {w : World} {K : PySem.W.Frag} {mg : Str → Option Value} {base : Heap} {J8 Jb J7 Ja J3 Jh J2 J1 : Addr}
local macro_rules | `(tactic| walk_at "lk") => `(tactic| first | exact J2n _ _ _ _ _ | exact J23 _ _ _ _ _ _ _ _)
theorem J5T (tx : Tx K mg J8 Jb J7 Ja J3 Jh J2 J1) : FnG P w K mg base "duties_in" 1 ["marks"] Jfd := by
 refine tx.J9K.g J8v (fun _ _ _ _ _ _ us hl => match us,hl with | [_],_ => rfl) (fun vs H Q E h => ?_) (fun f cdv A outer s H vs Q E hr h => ?_)
 ·obtain ⟨l,rfl,_⟩ := h
  rfl
 ·obtain ⟨l,rfl,hl,q⟩ := h
  refine ⟨_,(Jc (Jp (Jt (JC (K := K) rfl) rfl tx.J0c PySem.boot_len (J0 (J05 (osc := J4 J1r) (ON := ["marks"]) (N := ["mark"]) (js := [none]) ⟨rfl,by decide +kernel,by decide +kernel,by decide +kernel,rfl,by decide +kernel⟩ rfl rfl rfl (J4H (pv 0)) (fun _ _ _ _ _ => Jo (i := 0) (show List.Nodup (["mark"] : List Str) from by decide +kernel) rfl (Or.inl rfl)) (fun _ _ _ _ _ => J06 (Jl J34 (pv 0) (Jv (l := [45]) (by decide +kernel)) (Jq _))) (fun _ _ _ _ _ => (pv 0))) J6)))),?_⟩
  walk_at "st"
  walk_at "rd"
  refine J3C (fun x => !decide (x = T [45])) (fun x => x) (J2X l) ?_ (fun x hx H' s' R hR => ?_) (fun x hx hp H' s' R hR => ?_) (fun D H' hD s' hDD => ?_)
  ·rw [List.length_map]; omega
  ·obtain ⟨k,_,rfl⟩ := List.mem_map.mp hx
   walk_at "rd"
   exact hR H' (Same.refl _)
  ·walk_at "rd"
   exact hR H' (Same.refl _)
  refine ⟨D,_,rfl,.inl (SqL.of hDD),?_⟩
  rw [J6i]
  exact q H' s'
theorem JaK (tx : Tx K mg J8 Jb J7 Ja J3 Jh J2 J1) : MtG P w K mg base J1 "place_of" 1 ["self","name"] (JcF J2 J1) := by
 refine tx.J5y.g tx.JP.cl J2i (fun _ _ _ _ _ _ us hl => match us,hl with | [_,_],_ => rfl) (fun vs H Q E h => ?_) (fun f cdv A outer s H vs Q E hr h => ?_)
 ·obtain ⟨h,nm,nms,i,rfl,_⟩ := h
  rfl
 ·obtain ⟨h,nm,nms,k,rfl,hC,hk,hb,q⟩ := h
  refine ⟨_,(J5 (J0l PassesOwn.never rfl (J4g (K := K) rfl rfl tx.J0Y (J0 (Jg (K := K) rfl (pv 0) rfl) J6)) (J2P rfl (Jz (Jo (i := 2) J2i.nd rfl (Or.inl rfl)) (Jz (Jo (i := 3) J2i.nd rfl (Or.inl rfl)) J1P))) (Jc (J01 (Jl J0f (Jg (K := K) rfl (pv 3) rfl) (pv 1) (Jq _)) (Jc (Jp (pv 2))) JA)))
   (Jc Jdo)),?_⟩
  walk_at "st"
  obtain ⟨d,kk,a1,a2,a3,a4,a5,a6,qs,⟨dx,h1⟩,h2,h3⟩ := hC
  have cH := tx.JP.cl
  have nH := tx.JJ
  have cP := tx.JS.cl
  have nP := tx.Jy
  walk_at "rd"
  refine J5G (K := K) (xs := qs) (fun i σ H2 => Here (∃ v1 v2,σ = [some (.ref h),some (T nm),v1,v2] ∧ i ≤ k ∧ Same H H2)) (Here.mk ⟨none,none,rfl,Nat.zero_le _,Same.refl _⟩) (fun i σ H2 _ hv => by obtain ⟨_,_,_,_,s2⟩ := hv.out; exact SqL.of (s2 _ _ h2)) ?_ ?_
  ·rintro i x p σ H2 hx hp hv
   obtain ⟨v1,v2,rfl,hi,s2⟩ := hv.out
   obtain ⟨n2,hn2,p1,sk,m,c,pa,rfl,dx2,hp2⟩ := h3.back hx
   have s3 : Same H2 (upd H2 p (.tup [.int i,.ref p1])) := Jr hp _
   have hp3 := s3 _ _ (s2 _ _ hp2)
   walk_at "rd"
   refine ite2 (fun e => ?_) (fun e => ?_)
   ·have e' : n2 = nm := J2p (of_decide_eq_true e)
    subst e'
    have hik : i = k := by
     rcases Nat.lt_or_ge i k with z | z
     ·exact absurd hn2 (hb i z)
     ·omega
    subst hik
    walk_at "rd"
    exact q _ (s2.trans s3)
   ·have e' : ¬ n2 = nm := fun z => e (decide_eq_true (by rw [z]))
    refine Here.mk ⟨_,_,rfl,?_,s2.trans s3⟩
    rcases Nat.lt_or_ge i k with z | z
    ·exact z
    ·have : i = k := by omega
     subst this
     rw [hk] at hn2
     exact absurd (Option.some.inj hn2).symm e'
  ·rintro σ H2 hv
   obtain ⟨v1,v2,rfl,hi,s2⟩ := hv.out
   have := h3.len
   have hkl := (List.getElem?_eq_some_iff.mp hk).1
   exact absurd hi (by omega)
end
theorem J5j (a b c d e f g h : V) : List.lookup ("rules_for" : Str) (fH a b c d e f g h) = none := by
 rw [JK (by decide +kernel),JK (by decide +kernel),JK (by decide +kernel),JK (by decide +kernel),JK (by decide +kernel),JK (by decide +kernel),JK (by decide +kernel),JK (by decide +kernel)]
 rfl
noncomputable def TpV : List V → V → Hp → Prop := fun xs y H => ∃ t,y = .ref t ∧ H t = some (.tup xs)
noncomputable def OnT (C : Addr) : Ps × List Nat → V → Hp → Prop := fun p y H => ∃ t a,y = .ref t ∧ H t = some (.tup [.ref a,T p.2]) ∧ J3O C H a p.1.nm p.1.sk p.1.most p.1.car p.1.past
theorem TpV.keeps (n : List V) (y : V) (Ha Hb : Hp) (k : JO Ha Hb) (h : TpV n y Ha) : TpV n y Hb := let ⟨t,e,h⟩ := h; ⟨t,e,k _ _ h fun zs z => by cases z⟩
theorem OnT.keeps {C : Addr} (n : Ps × List Nat) (y : V) (Ha Hb : Hp) (k : JO Ha Hb) (h : OnT C n y Ha) : OnT C n y Hb := let ⟨t,a,e,h,g⟩ := h; ⟨t,a,e,k _ _ h (fun zs z => by cases z),g.keeps k⟩
noncomputable def mkA (row : List Nat) (d : Int) : Nat := row.getD d.toNat 0
theorem mk_at {row : List Nat} {d : Int} (h0 : 0 ≤ d) (h : d < row.length) : atI row d = some (mkA row d) := by
 obtain ⟨c,h1,h2⟩ := J2E row d h0 h
 rw [h1]
 unfold mkA
 rw [List.getD_eq_getElem?_getD,h2]
 rfl
structure Ru where
 nm : List Nat
 B : List Nat → Bool
structure Pr where
 wd : List Nat
 one : List Nat
 two : List Nat
 i : Nat
 j : Nat
noncomputable def BadQ (P : Program) (w : World) (K : PySem.W.Frag) (mg : Str → Option Value) (base : Heap) (H : Hp) (a : Addr) (B : List Nat → Bool) : Prop := ∃ (C dx : Addr) (fs : List (Str × V)) (k : Nat) (ps : List Str) (sp : Sp),H a = some (.ins C dx fs) ∧ fs.lookup ("bad" : Str) = none ∧ MtG P w K mg base C "bad" k ps sp ∧ k ≤ 9 ∧ ∀ (m : List Nat),m.length ≤ 200 → ∀ (H' : Hp) (Q' : VK),JO H H' → (∀ H'',Same H' H'' → Q' (.bl (B m)) H'') → sp [.ref a,T m] H' Q' E0
theorem BadQ.keeps {P : Program} {w : World} {K : PySem.W.Frag} {mg : Str → Option Value} {base : Heap} {H H' : Hp} {a : Addr} {B : List Nat → Bool} (x : BadQ P w K mg base H a B) (k : JO H H') : BadQ P w K mg base H' a B := by
 obtain ⟨C,dx,fs,n,ps,sp,h1,h2,h3,h4,h5⟩ := x
 exact ⟨C,dx,fs,n,ps,sp,k _ _ h1 (fun zs z => by cases z),h2,h3,h4,fun m hm H2 Q' k2 q => h5 m hm H2 Q' (k.trans k2) q⟩
noncomputable def RuT (P : Program) (w : World) (K : PySem.W.Frag) (mg : Str → Option Value) (base : Heap) : Ru → V → Hp → Prop := fun r y H => ∃ t a,y = .ref t ∧ H t = some (.tup [T r.nm,.ref a]) ∧ BadQ P w K mg base H a r.B
theorem RuT.keeps {P : Program} {w : World} {K : PySem.W.Frag} {mg : Str → Option Value} {base : Heap} (r : Ru) (y : V) (Ha Hb : Hp) (k : JO Ha Hb) (h : RuT P w K mg base r y Ha) : RuT P w K mg base r y Hb := let ⟨t,a,e,h1,h2⟩ := h; ⟨t,a,e,k _ _ h1 (fun zs z => by cases z),h2.keeps k⟩
noncomputable def PrT : Pr → V → Hp → Prop := fun p y H => ∃ t,y = .ref t ∧ H t = some (.tup [T p.wd,T p.one,T p.two])
theorem PrT.keeps (r : Pr) (y : V) (Ha Hb : Hp) (k : JO Ha Hb) (h : PrT r y Ha) : PrT r y Hb := let ⟨t,e,h1⟩ := h; ⟨t,e,k _ _ h1 (fun zs z => by cases z)⟩
noncomputable def PrIn (ps : List Ps) (p : Pr) : Prop := ((ps.map (·.nm))[p.i]? = some p.one ∧ ∀ j < p.i,¬ (ps.map (·.nm))[j]? = some p.one) ∧ (ps.map (·.nm))[p.j]? = some p.two ∧ ∀ j < p.j,¬ (ps.map (·.nm))[j]? = some p.two
noncomputable abbrev wAll : List Nat := [97,108,108]
noncomputable abbrev Jbv : List Nat := [114,117,108,101]
noncomputable abbrev J6U : List Nat := [112,97,105,114]
noncomputable abbrev J2o : List Nat := [97,112,97,114,116]
noncomputable def ruAt (rls : List Ru) (i : Nat) : Ru := rls.getD i ⟨[],fun _ => false⟩
theorem J8Z {rls : List Ru} {i : Nat} {a : Ru} (h : rls[i]? = some a) : ruAt rls i = a := by
 unfold ruAt
 rw [List.getD_eq_getElem?_getD,h]
 rfl
noncomputable def J9Z (rls : List Ru) (nm : List Nat) (i : Nat) : Bool := decide ((ruAt rls i).nm ∈ [wAll,nm])
noncomputable def ruI (rls : List Ru) (nm : List Nat) : List Nat := (List.range rls.length).filter (J9Z rls nm)
noncomputable def FdT (P : Program) (w : World) (K : PySem.W.Frag) (mg : Str → Option Value) (base : Heap) (rls : List Ru) : Nat → V → Hp → Prop := fun i y H => ∃ t a,y = .ref t ∧ H t = some (.tup [.int (i : Nat),.ref a]) ∧ BadQ P w K mg base H a (ruAt rls i).B
theorem FdT.keeps {P : Program} {w : World} {K : PySem.W.Frag} {mg : Str → Option Value} {base : Heap} {rls : List Ru} (i : Nat) (y : V) (Ha Hb : Hp) (k : JO Ha Hb) (h : FdT P w K mg base rls i y Ha) : FdT P w K mg base rls i y Hb := let ⟨t,a,e,h1,h2⟩ := h; ⟨t,a,e,k _ _ h1 (fun zs z => by cases z),h2.keeps k⟩
noncomputable def ruV (d : Int) (nm : List Nat) (i : Nat) : List V := [.int d,T Jbv,T nm,.int (i : Nat)]
noncomputable def ruB (rls : List Ru) (m : List Nat) (i : Nat) : Bool := (ruAt rls i).B m
noncomputable def ruP (rls : List Ru) (d : Int) (a : Ps × List Nat) : List (List V) := ((ruI rls a.1.nm).filter (ruB rls (a.1.past ++ cutN a.2 none (some (d + 1))))).map (ruV d a.1.nm)
noncomputable def ruF (rls : List Ru) (ps : List Ps) (rows : List (List Nat)) (d : Int) : List (List V) := ((ps.zip rows).map (ruP rls d)).flatten
theorem Jbu (rls : List Ru) (nm : List Nat) : (ruI rls nm).length ≤ rls.length := Nat.le_trans (List.length_filter_le _ _) (by rw [List.length_range]; exact Nat.le_refl _)
theorem Jew (rls : List Ru) (d : Int) (a : Ps × List Nat) : (ruP rls d a).length ≤ rls.length := by
 unfold ruP
 rw [List.length_map]
 exact Nat.le_trans (List.length_filter_le _ _) (Jbu _ _)
theorem J9e (rls : List Ru) (d : Int) (h6 : rls.length ≤ 8) : ∀ l : List (Ps × List Nat),((l.map (ruP rls d)).flatten).length ≤ 8 * l.length
 | [] => Nat.le_refl _
 | a :: l => by
  have h1 := Jew rls d a
  have h2 := J9e rls d h6 l
  rw [List.map_cons,List.flatten_cons,List.length_append,List.length_cons]
  omega
theorem Jbx {rls : List Ru} {ps : List Ps} {rows : List (List Nat)} {d : Int} (h6 : rls.length ≤ 8) (hp : ps.length ≤ 8) : (ruF rls ps rows d).length ≤ 64 := by
 have h := J9e rls d h6 (ps.zip rows)
 rw [List.length_zip] at h
 unfold ruF
 omega
noncomputable def brkB (wd : List Nat) (m o : Nat) : Bool := !decide (m = 45) && (if wd = J2o then decide (m = o) else !decide (m = o))
noncomputable def paB (rows : List (List Nat)) (d : Int) (p : Pr) : Bool := brkB p.wd (mkA (rows.getD p.i []) d) (mkA (rows.getD p.j []) d)
noncomputable def prAt (prs : List Pr) (i : Nat) : Pr := prs.getD i ⟨[],[],[],0,0⟩
noncomputable def paV (d : Int) (prs : List Pr) (i : Nat) : List V := [.int d,T J6U,T (prAt prs i).one,.int (i : Nat)]
noncomputable def paL (prs : List Pr) (rows : List (List Nat)) (d : Int) (n : Nat) : List (List V) := ((List.range n).filter fun i => paB rows d (prAt prs i)).map (paV d prs)
noncomputable def paF (prs : List Pr) (rows : List (List Nat)) (d : Int) : List (List V) := paL prs rows d prs.length
theorem J9f (prs : List Pr) (rows : List (List Nat)) (d : Int) (n : Nat) : (paL prs rows d n).length ≤ n := by
 unfold paL
 rw [List.length_map]
 exact Nat.le_trans (List.length_filter_le _ _) (by rw [List.length_range]; exact Nat.le_refl _)
noncomputable def Hq (C1 C2 : Addr) (H : Hp) (h : Addr) (dd : Int) (ks : List Nat) (nds : List Nd) (ps : List Ps) (ls : List (List Nat × Int)) (u5 u6 : List V) : Prop :=
 ∃ a1 a2 a3 a4 a5 a6 xs ys zs ws,J5n C2 H h dd ks a1 a2 a3 a4 a5 a6 ∧ H a1 = some (.lst xs) ∧ All2 NdAt H nds xs ∧ H a2 = some (.lst ys) ∧ All2 (PsO C1) H ps ys ∧ H a3 = some (.lst zs) ∧ All2 LvT H ls zs ∧ H a4 = some (.lst ws) ∧ H a5 = some (.lst u5) ∧ H a6 = some (.lst u6)
theorem Hq.same {C1 C2 : Addr} {H H' : Hp} {h : Addr} {dd : Int} {ks : List Nat} {nds : List Nd} {ps : List Ps} {ls : List (List Nat × Int)} {u5 u6 : List V} (x : Hq C1 C2 H h dd ks nds ps ls u5 u6) (s : Same H H') : Hq C1 C2 H' h dd ks nds ps ls u5 u6 := by
 obtain ⟨a1,a2,a3,a4,a5,a6,xs,ys,zs,ws,h1,h2,h3,h4,h5,h6,h7,h8,h9,h10⟩ := x
 exact ⟨a1,a2,a3,a4,a5,a6,xs,ys,zs,ws,h1.keeps s.keeps,s _ _ h2,h3.imp fun a y => NdAt.keeps a y _ _ s.keeps,s _ _ h4,h5.imp fun a y => PsO.keeps a y _ _ s.keeps,s _ _ h6,h7.imp fun a y => LvT.keeps a y _ _ s.keeps,s _ _ h8,s _ _ h9,s _ _ h10⟩
theorem Hq.k {C1 C2 : Addr} {H : Hp} {h : Addr} {dd : Int} {ks : List Nat} {nds : List Nd} {ps : List Ps} {ls : List (List Nat × Int)} {u5 u6 : List V} (x : Hq C1 C2 H h dd ks nds ps ls u5 u6) : Hk C1 C2 H h dd ks nds ps ls := by
 obtain ⟨a1,a2,a3,a4,a5,a6,xs,ys,zs,ws,h1,h2,h3,h4,h5,h6,h7,h8,h9,h10⟩ := x
 exact ⟨a1,a2,a3,a4,a5,a6,xs,ys,zs,ws,h1,h2,h3,h4,h5,h6,h7,h8⟩
theorem Hq.n {C1 C2 : Addr} {H : Hp} {h : Addr} {dd : Int} {ks : List Nat} {nds : List Nd} {ps : List Ps} {ls : List (List Nat × Int)} {u5 u6 : List V} (x : Hq C1 C2 H h dd ks nds ps ls u5 u6) : HouN C1 C2 H h (ps.map (·.nm)) := by
 obtain ⟨a1,a2,a3,a4,a5,a6,xs,ys,zs,ws,h1,h2,h3,h4,h5,_⟩ := x
 exact ⟨_,_,a1,a2,a3,a4,a5,a6,ys,h1,h4,All2.mapL (P := PerN C1) (h5.imp fun a y ⟨b,e,hp⟩ => ⟨b,_,_,_,_,e,hp⟩)⟩
noncomputable abbrev J99 : List Nat := [115,107,105,108,108]
noncomputable abbrev J92 : List Nat := [108,101,97,118,101]
noncomputable abbrev J3Q : List Nat := [110,101,101,100]
noncomputable abbrev wMoF : List Nat := [109,111,115,116]
noncomputable def onB (d : Int) (p : Ps × List Nat) : Bool := !decide (mkA p.2 d = 45)
noncomputable def skB (d : Int) (p : Ps × List Nat) : Bool := !decide (mkA p.2 d ∈ p.1.sk)
noncomputable def lvB (ls : List (List Nat × Int)) (d : Int) (p : Ps × List Nat) : Bool := J7Y ls p.1.nm d
noncomputable def moB (d : Int) (p : Ps × List Nat) : Bool := decide (p.1.most < (dut (cutN p.2 none (some (d + 1))) : Int))
noncomputable def cntF (rows : List (List Nat)) (d : Int) (k : Nat) : Nat := (rows.filter fun r => decide (mkA r d = k)).length
noncomputable def neB (nds : List Nd) (rows : List (List Nat)) (d : Int) (k : Nat) : Bool := decide ((cntF rows d k : Int) < (J0k nds d k).1) || decide ((J0k nds d k).2 < (cntF rows d k : Int))
noncomputable def skV (d : Int) (p : Ps × List Nat) : List V := [.int d,T J99,T p.1.nm,T [mkA p.2 d]]
noncomputable def lvV (d : Int) (p : Ps × List Nat) : List V := [.int d,T J92,T p.1.nm,T [mkA p.2 d]]
noncomputable def moV (d : Int) (p : Ps × List Nat) : List V := [.int d,T wMoF,T p.1.nm,.int (dut (cutN p.2 none (some (d + 1))) : Int)]
noncomputable def neV (rows : List (List Nat)) (d : Int) (k : Nat) : List V := [.int d,T J3Q,T [k],.int (cntF rows d k : Int)]
noncomputable def skF (ps : List Ps) (rows : List (List Nat)) (d : Int) : List (List V) := (((ps.zip rows).filter (onB d)).filter (skB d)).map (skV d)
noncomputable def lvF (ls : List (List Nat × Int)) (ps : List Ps) (rows : List (List Nat)) (d : Int) : List (List V) := (((ps.zip rows).filter (onB d)).filter (lvB ls d)).map (lvV d)
noncomputable def moF (ps : List Ps) (rows : List (List Nat)) (d : Int) : List (List V) := (((ps.zip rows).filter (onB d)).filter (moB d)).map (moV d)
noncomputable def neF (ks : List Nat) (nds : List Nd) (rows : List (List Nat)) (d : Int) : List (List V) := (ks.filter (neB nds rows d)).map (neV rows d)
noncomputable def dayF (ks : List Nat) (nds : List Nd) (ls : List (List Nat × Int)) (rls : List Ru) (prs : List Pr) (ps : List Ps) (rows : List (List Nat)) (d : Int) : List (List V) := skF ps rows d ++ lvF ls ps rows d ++ neF ks nds rows d ++ moF ps rows d ++ ruF rls ps rows d ++ paF prs rows d
noncomputable def allF (ks : List Nat) (nds : List Nd) (ls : List (List Nat × Int)) (rls : List Ru) (prs : List Pr) (ps : List Ps) (rows : List (List Nat)) : Nat → List (List V)
 | 0 => []
 | n + 1 => allF ks nds ls rls prs ps rows n ++ dayF ks nds ls rls prs ps rows (0 + (n : Int))
theorem J5F {ps : List Ps} {rows : List (List Nat)} (f g : Ps × List Nat → Bool) (v : Ps × List Nat → List V) (hp : ps.length ≤ 8) : ((((ps.zip rows).filter f).filter g).map v).length ≤ 8 := by
 rw [List.length_map]
 have h1 := List.length_filter_le g ((ps.zip rows).filter f)
 have h2 := List.length_filter_le f (ps.zip rows)
 rw [List.length_zip] at h2
 omega
theorem Jd2 {ks : List Nat} {nds : List Nd} {rows : List (List Nat)} {d : Int} (hk : ks.length ≤ 4) : (neF ks nds rows d).length ≤ 4 := by
 unfold neF
 rw [List.length_map]
 have h1 := List.length_filter_le (neB nds rows d) ks
 omega
theorem Jet {ks : List Nat} {nds : List Nd} {ls : List (List Nat × Int)} {rls : List Ru} {prs : List Pr} {ps : List Ps} {rows : List (List Nat)} {d : Int} (hp : ps.length ≤ 8) (hk : ks.length ≤ 4) (h6 : rls.length ≤ 8) (h2' : prs.length ≤ 8) : (dayF ks nds ls rls prs ps rows d).length ≤ 100 := by
 unfold dayF
 have h1 : (skF ps rows d).length ≤ 8 := J5F _ _ _ hp
 have h2 : (lvF ls ps rows d).length ≤ 8 := J5F _ _ _ hp
 have h3 : (moF ps rows d).length ≤ 8 := J5F _ _ _ hp
 have h4 := Jd2 (nds := nds) (rows := rows) (d := d) hk
 have h5 := Jbx (rows := rows) (d := d) h6 hp
 have h7 : (paF prs rows d).length ≤ prs.length := J9f _ _ _ _
 simp only [List.length_append]
 omega
theorem J8N {ks : List Nat} {nds : List Nd} {ls : List (List Nat × Int)} {rls : List Ru} {prs : List Pr} {ps : List Ps} {rows : List (List Nat)} (hp : ps.length ≤ 8) (hk : ks.length ≤ 4) (h6 : rls.length ≤ 8) (h2' : prs.length ≤ 8) : ∀ n,(allF ks nds ls rls prs ps rows n).length ≤ 100 * n
 | 0 => Nat.le_refl _
 | n + 1 => by
  have h := J8N (nds := nds) (ls := ls) (rows := rows) hp hk h6 h2' n
  have h2 := Jet (nds := nds) (ls := ls) (rows := rows) (d := 0 + (n : Int)) hp hk h6 h2'
  rw [allF,List.length_append]
  omega
noncomputable def ROk (rows : List (List Nat)) (d : Int) : Prop := 0 ≤ d ∧ ∀ r ∈ rows,d < (r.length : Int) ∧ r.length ≤ 100
noncomputable def Jg4 (C1 C2 : Addr) : Sp := fun vs H Q _ => ∃ (h r : Addr) (d dd : Int) (ks : List Nat) (nds : List Nd) (ps : List Ps) (ls : List (List Nat × Int)) (u5 u6 : List V) (rows : List (List Nat)),vs = [.ref h,.ref r,.int d] ∧ Hq C1 C2 H h dd ks nds ps ls u5 u6 ∧ H r = some (.lst (rows.map T)) ∧ rows.length = ps.length ∧ ps.length ≤ 8 ∧ ROk rows d ∧
 ∀ (D : Addr) (H' : Hp) (ys : List V),Same H H' → H D = none → H' D = some (.lst ys) → All2 (OnT C1) H' ((ps.zip rows).filter (onB d)) ys → Q (.ref D) H'
noncomputable def Jej (C1 C2 : Addr) (F : List Nat → List Nd → List (List Nat × Int) → List Ps → List (List Nat) → Int → List (List V)) : Sp := fun vs H Q _ => ∃ (h r : Addr) (d dd : Int) (ks : List Nat) (nds : List Nd) (ps : List Ps) (ls : List (List Nat × Int)) (u5 u6 : List V) (rows : List (List Nat)),vs = [.ref h,.ref r,.int d] ∧ Hq C1 C2 H h dd ks nds ps ls u5 u6 ∧ H r = some (.lst (rows.map T)) ∧ rows.length = ps.length ∧ ps.length ≤ 8 ∧ ks.length ≤ 4 ∧ ROk rows d ∧
 ∀ (D : Addr) (H' : Hp) (ys : List V),Same H H' → H D = none → H' D = some (.lst ys) → All2 TpV H' (F ks nds ls ps rows d) ys → Q (.ref D) H'
noncomputable def Jea (P : Program) (w : World) (K : PySem.W.Frag) (mg : Str → Option Value) (base : Heap) (C1 C2 : Addr) : Sp := fun vs H Q _ => ∃ (h : Addr) (p dd : Int) (ks : List Nat) (nds : List Nd) (ps : List Ps) (ls : List (List Nat × Int)) (u5 u6 : List V) (n : Ps) (rls : List Ru),vs = [.ref h,.int p] ∧ Hq C1 C2 H h dd ks nds ps ls u5 u6 ∧ 0 ≤ p ∧ ps[p.toNat]? = some n ∧ All2 (RuT P w K mg base) H rls u5 ∧ rls.length ≤ 8 ∧ ∀ (D : Addr) (H' : Hp) (ys : List V),Same H H' → H' D = some (.lst ys) → All2 (FdT P w K mg base rls) H' (ruI rls n.nm) ys → Q (.ref D) H'
noncomputable def Jg5 (P : Program) (w : World) (K : PySem.W.Frag) (mg : Str → Option Value) (base : Heap) (C1 C2 : Addr) : Sp := fun vs H Q _ => ∃ (h r : Addr) (d dd : Int) (ks : List Nat) (nds : List Nd) (ps : List Ps) (ls : List (List Nat × Int)) (u5 u6 : List V) (rows : List (List Nat)) (rls : List Ru),vs = [.ref h,.ref r,.int d] ∧ Hq C1 C2 H h dd ks nds ps ls u5 u6 ∧ H r = some (.lst (rows.map T)) ∧ rows.length = ps.length ∧ ps.length ≤ 8 ∧ ROk rows d ∧ (∀ n ∈ ps,n.past.length ≤ 100) ∧ All2 (RuT P w K mg base) H rls u5 ∧ rls.length ≤ 8 ∧
 ∀ (D : Addr) (H' : Hp) (ys : List V),Same H H' → H D = none → H' D = some (.lst ys) → All2 TpV H' (ruF rls ps rows d) ys → Q (.ref D) H'
noncomputable def Jg6 (C1 C2 : Addr) : Sp := fun vs H Q _ => ∃ (h r : Addr) (d dd : Int) (ks : List Nat) (nds : List Nd) (ps : List Ps) (ls : List (List Nat × Int)) (u5 u6 : List V) (rows : List (List Nat)) (prs : List Pr),vs = [.ref h,.ref r,.int d] ∧ Hq C1 C2 H h dd ks nds ps ls u5 u6 ∧ H r = some (.lst (rows.map T)) ∧ rows.length = ps.length ∧ ps.length ≤ 8 ∧ ROk rows d ∧ All2 PrT H prs u6 ∧ prs.length ≤ 8 ∧ (∀ p ∈ prs,PrIn ps p) ∧
 ∀ (D : Addr) (H' : Hp) (ys : List V),Same H H' → H D = none → H' D = some (.lst ys) → All2 TpV H' (paF prs rows d) ys → Q (.ref D) H'
noncomputable def Jfb : Sp := fun vs H Q _ => ∃ (wd : List Nat) (m o : Nat),vs = [T wd,T [m],T [o]] ∧ Q (.bl (brkB wd m o)) H
noncomputable def JbU (P : Program) (w : World) (K : PySem.W.Frag) (mg : Str → Option Value) (base : Heap) (C1 C2 : Addr) : Sp := fun vs H Q _ => ∃ (h r : Addr) (dd : Int) (ks : List Nat) (nds : List Nd) (ps : List Ps) (ls : List (List Nat × Int)) (u5 u6 : List V) (rows : List (List Nat)) (rls : List Ru) (prs : List Pr),vs = [.ref h,.ref r] ∧ Hq C1 C2 H h dd ks nds ps ls u5 u6 ∧ H r = some (.lst (rows.map T)) ∧ rows.length = ps.length ∧ ps.length ≤ 8 ∧ ks.length ≤ 4 ∧ 0 ≤ dd ∧ dd ≤ 14 ∧ (∀ r ∈ rows,(r.length : Int) = dd) ∧ (∀ n ∈ ps,n.past.length ≤ 100) ∧ All2 (RuT P w K mg base) H rls u5 ∧ rls.length ≤ 8 ∧ All2 PrT H prs u6 ∧ prs.length ≤ 8 ∧ (∀ p ∈ prs,PrIn ps p) ∧
 ∀ (D : Addr) (H' : Hp) (ys : List V),Same H H' → H D = none → H' D = some (.lst ys) → All2 TpV H' (allF ks nds ls rls prs ps rows dd.toNat) ys → Q (.ref D) H'
theorem J5V (a b c d e f g h : V) : List.lookup ("place_of" : Str) (fH a b c d e f g h) = none := lH_m _ _ _ _ _ _ _ _ (by decide +kernel) (by decide +kernel) (by decide +kernel) (by decide +kernel) (by decide +kernel) (by decide +kernel) (by decide +kernel) (by decide +kernel)
section
variable {P : Program} {w : World} {K : PySem.W.Frag} {mg : Str → Option Value} {base : Heap} {J8 Jb J7 Ja J3 Jh J2 J1 : Addr}
local macro_rules | `(tactic| walk_at "lk") => `(tactic| first | exact J2n _ _ _ _ _ | exact J3t _ _ _ _ _ | exact J5i _ _ _ _ _ | exact J5g _ _ _ _ _ | exact J23 _ _ _ _ _ _ _ _ | exact J44 _ _ _ _ _ _ _ _ | exact J42 _ _ _ _ _ _ _ _ | exact J47 _ _ _ _ _ _ _ _ | exact J6l _ _ _ _ _ _ _ _ | exact J5o _ _ _ _ _ _ _ _ | exact J5l _ _ _ _ _ _ _ _ | exact J8O _ _ _ _ _ _ _ _ | exact J5j _ _ _ _ _ _ _ _ | exact J5V _ _ _ _ _ _ _ _ | exact Or.inr (SqT.of (by with_reducible assumption)))
theorem J5B (tx : Tx K mg J8 Jb J7 Ja J3 Jh J2 J1) : FnG P w K mg base "on_duty" 1 ["house","rota","day"] (Jg4 J2 J1) := by
 refine tx.JbW.g JaT (fun _ _ _ _ _ _ us hl => match us,hl with | [_,_,_],_ => rfl) (fun vs H Q E h => ?_) (fun f cdv A outer s H vs Q E hr h => ?_)
 ·obtain ⟨h,r,d,dd,ks,nds,ps,ls,u5,u6,rows,rfl,_⟩ := h
  rfl
 ·obtain ⟨h,r,d,dd,ks,nds,ps,ls,u5,u6,rows,rfl,⟨a1,a2,a3,a4,a5,a6,xs,ys,zs,ws,⟨dx,h1⟩,h2,h3,h4,h5,_⟩,hr1,hl,hp8,hR,q⟩ := h
  refine ⟨_,(Jc (Jp (J05 (osc := J4 J2r) (ON := ["house","rota","day"]) (N := ["person","row","day"]) (js := [none,none,some 2]) ⟨rfl,by decide +kernel,by decide +kernel,by decide +kernel,rfl,by decide +kernel⟩ rfl rfl rfl (J5h (K := K) rfl rfl tx.J4q (J0 (Jg (K := K) rfl (pv 0) rfl) (J0 (pv 1) J6))) (fun _ _ _ _ _ => J3q (K := K) (i := 0) (j := 1) rfl rfl (show List.Nodup (["person","row","day"] : List Str) from by decide +kernel) rfl rfl (Or.inl rfl) (Or.inl rfl)) (fun _ _ _ _ _ => J06 (Jl J34 (JE J0V (pv 1) (pv 2) (fun _ _ => rfl)) (Jv (l := [45]) (by decide +kernel)) (Jq _))) (fun _ _ _ _ _ => (J0a (J0 (pv 0) (J0 (pv 1) J6))))))),?_⟩
  walk_at "st"
  have cH := tx.JP.cl
  have nH := tx.JJ
  have hyl := h5.len
  walk_at "rd"
  refine J7d (ps.zip rows) (onB d) (OnT J2) (fun σ => ∃ v1 v2,σ = [v1,v2,some (.int d)]) (SqL.of h4) (SqL.of hr1) ?_ ?_ ?_ ⟨_,_,rfl⟩ (fun a y Ha Hb k h => OnT.keeps a y Ha Hb k h) (fun i a u v p σ H' ha hu hv hσ s' hp Rf Rt hF hR' => ?_) (fun D H' ys hD s' hys hDD => ?_)
  ·rw [List.length_zip]; omega
  ·rw [List.length_zip,List.length_map]; omega
  ·rw [List.length_zip]; omega
  ·obtain ⟨v1,v2,rfl⟩ := hσ
   obtain ⟨n,row⟩ := a
   obtain ⟨hn,hrow⟩ := List.getElem?_zip_eq_some.mp ha
   obtain ⟨y,hy,pa,rfl,hpa⟩ := h5.get hn
   rw [hu] at hy
   cases hy
   rw [List.getElem?_map,hrow] at hv
   cases hv
   obtain ⟨hd,hrl⟩ := hR.2 row (List.mem_of_getElem? hrow)
   have e := mk_at hR.1 hd
   have s2 : Same H' (upd H' p (.tup [V.ref pa,T row])) := Jr hp _
   walk_at "rd"
   refine ite2 (fun c => ?_) (fun c => ?_)
   ·walk_at "rd"
    intro t ht
    have s3 := s2.trans (Jr ht (.tup [V.ref pa,T row]))
    refine hR' _ _ _ ?_ ⟨_,_,rfl⟩ s3 ⟨t,pa,rfl,J9,hpa.keeps (s'.trans s3).keeps⟩
    unfold onB
    rw [decide_eq_false fun z => ?_]
    ·rfl
    ·have z' : mkA row d = 45 := z
     rw [z'] at c
     exact absurd c (by decide)
   ·refine hF _ _ ?_ ⟨_,_,rfl⟩ s2
    unfold onB
    have : mkA row d = 45 := Decidable.byContradiction fun z => c (by rw [decide_eq_false fun y => z (by simpa using J2p y)]; rfl)
    rw [decide_eq_true this]
    rfl
  ·exact q D H' ys s' hD hDD hys
theorem J6R (tx : Tx K mg J8 Jb J7 Ja J3 Jh J2 J1) : FnG P w K mg base "skill_faults" 2 ["house","rota","day"] (Jej J2 J1 fun _ _ _ ps rows d => skF ps rows d) := by
 have J2b := J5B (P := P) (w := w) (base := base) tx
 refine tx.J6I.g J3M (fun _ _ _ _ _ _ us hl => match us,hl with | [_,_,_],_ => rfl) (fun vs H Q E h => ?_) (fun f cdv A outer s H vs Q E hr h => ?_)
 ·obtain ⟨h,r,d,dd,ks,nds,ps,ls,u5,u6,rows,rfl,_⟩ := h
  rfl
 ·obtain ⟨h,r,d,dd,ks,nds,ps,ls,u5,u6,rows,rfl,hq,hr1,hl,hp8,hk4,hR,q⟩ := h
  refine ⟨_,(J5 (Jj (i := 3) J3M.nd rfl (Or.inl rfl) (Jw J2b (hr.mono (by decide)) (J0 (pv 0) (J0 (pv 1) (J0 (pv 2) J6)))))
   (Jc (Jp (J05 (osc := J4 J0z) (ON := ["house","rota","day","having"]) (N := ["person","row","day"]) (js := [none,none,some 2]) ⟨rfl,by decide +kernel,by decide +kernel,by decide +kernel,rfl,by decide +kernel⟩ rfl rfl rfl (J07 (K := K) rfl (pv 3)) (fun _ _ _ _ _ => J3q (K := K) (i := 0) (j := 1) rfl rfl (show List.Nodup (["person","row","day"] : List Str) from by decide +kernel) rfl rfl (Or.inl rfl) (Or.inl rfl)) (fun _ _ _ _ _ => J06 (Jl Jcg (JE J0V (pv 1) (pv 2) (fun _ _ => rfl)) (Jg (K := K) rfl (pv 0) rfl) rfl)) (fun _ _ _ _ _ => (J0a (J0 (pv 2) (J0 (Jv (l := [115,107,105,108,108]) (by decide +kernel)) (J0 (Jg (K := K) rfl (pv 0) rfl) (J0 (JE J0V (pv 1) (pv 2) (fun _ _ => rfl)) J6)))))))))),?_⟩
  walk_at "st"
  clear J2b
  have cP := tx.JS.cl
  have nP1 := tx.Jy
  have nP2 := tx.J04
  walk_at "rd"
  intro D1 H1 ys s1 nD1 hD1 hA
  have hyl := hA.len
  have hfl := List.length_filter_le (onB d) (ps.zip rows)
  rw [List.length_zip] at hfl
  walk_at "rd"
  refine J0b ((ps.zip rows).filter (onB d)) (skB d) (fun p y H => TpV (skV d p) y H) (fun σ => ∃ v1 v2,σ = [v1,v2,some (.int d)]) (J0n (SqL.of hD1)) hyl ?_ ⟨_,_,rfl⟩ (fun a y Ha Hb k h => TpV.keeps _ y Ha Hb k h) (fun i a v σ H' ha hv hσ s' Rf Rt hF hR' => ?_) (fun D H' zs hD s' hzs hDD => ?_)
  ·omega
  ·obtain ⟨v1,v2,rfl⟩ := hσ
   obtain ⟨n,row⟩ := a
   obtain ⟨y,hy,t,pa,rfl,ht,dxp,hpa⟩ := hA.get ha
   rw [hv] at hy
   cases hy
   have hm := (List.mem_filter.mp (List.mem_of_getElem? ha)).1
   obtain ⟨hd,hrl⟩ := hR.2 row (List.of_mem_zip hm).2
   have e := mk_at hR.1 hd
   have ht' := s' _ _ ht
   have hpa' := s' _ _ hpa
   walk_at "rd"
   refine ite2 (fun c => ?_) (fun c => ?_)
   ·walk_at "rd"
    intro t2 ht2
    exact hR' _ _ _ c ⟨_,_,rfl⟩ (Jr ht2 _) ⟨t2,rfl,J9⟩
   ·exact hF _ _ (Bool.eq_false_iff.mpr c) ⟨_,_,rfl⟩ (Same.refl _)
  ·exact q D H' zs (s1.trans s') (s1.free hD) hDD hzs.mapL
theorem J6S (tx : Tx K mg J8 Jb J7 Ja J3 Jh J2 J1) : FnG P w K mg base "leave_faults" 2 ["house","rota","day"] (Jej J2 J1 fun _ _ ls ps rows d => lvF ls ps rows d) := by
 have J2b := J5B (P := P) (w := w) (base := base) tx
 refine tx.J6Q.g J3N (fun _ _ _ _ _ _ us hl => match us,hl with | [_,_,_],_ => rfl) (fun vs H Q E h => ?_) (fun f cdv A outer s H vs Q E hr h => ?_)
 ·obtain ⟨h,r,d,dd,ks,nds,ps,ls,u5,u6,rows,rfl,_⟩ := h
  rfl
 ·obtain ⟨h,r,d,dd,ks,nds,ps,ls,u5,u6,rows,rfl,hq,hr1,hl,hp8,hk4,hR,q⟩ := h
  refine ⟨_,(J5 (Jj (i := 3) J3N.nd rfl (Or.inl rfl) (Jw J2b (hr.mono (by decide)) (J0 (pv 0) (J0 (pv 1) (J0 (pv 2) J6)))))
   (Jc (Jp (J05 (osc := J4 J0C) (ON := ["house","rota","day","having"]) (N := ["person","row","day","house"]) (js := [none,none,some 2,some 0]) ⟨rfl,by decide +kernel,by decide +kernel,by decide +kernel,rfl,by decide +kernel⟩ rfl rfl rfl (J07 (K := K) rfl (pv 3)) (fun _ _ _ _ _ => J3q (K := K) (i := 0) (j := 1) rfl rfl (show List.Nodup (["person","row","day","house"] : List Str) from by decide +kernel) rfl rfl (Or.inl rfl) (Or.inl rfl)) (fun _ _ _ _ _ => J06 (Jl (Jfy (K := K) rfl (J5k hr)) (J0a (J0 (Jg (K := K) rfl (pv 0) rfl) (J0 (pv 2) J6))) (Jg (K := K) rfl (pv 3) rfl) rfl)) (fun _ _ _ _ _ => (J0a (J0 (pv 2) (J0 (Jv (l := [108,101,97,118,101]) (by decide +kernel)) (J0 (Jg (K := K) rfl (pv 0) rfl) (J0 (JE J0V (pv 1) (pv 2) (fun _ _ => rfl)) J6)))))))))),?_⟩
  walk_at "st"
  clear J2b
  have cH := tx.JP.cl
  have nH := tx.J0s
  have cP := tx.JS.cl
  have nP1 := tx.Jy
  walk_at "rd"
  intro D1 H1 ys s1 nD1 hD1 hA
  have hyl := hA.len
  have hfl := List.length_filter_le (onB d) (ps.zip rows)
  rw [List.length_zip] at hfl
  obtain ⟨a1,a2,a3,a4,a5,a6,xs',ys',zs',ws',⟨dx,h1⟩,_,_,_,_,h6,h7,_⟩ := hq
  walk_at "rd"
  refine J0b ((ps.zip rows).filter (onB d)) (lvB ls d) (fun p y H => TpV (lvV d p) y H) (fun σ => ∃ v1 v2,σ = [v1,v2,some (.int d),some (.ref h)]) (J0n (SqL.of hD1)) hyl ?_ ⟨_,_,rfl⟩ (fun a y Ha Hb k h => TpV.keeps _ y Ha Hb k h) (fun i a v σ H' ha hv hσ s' Rf Rt hF hR' => ?_) (fun D H' zs hD s' hzs hDD => ?_)
  ·omega
  ·obtain ⟨v1,v2,rfl⟩ := hσ
   obtain ⟨n,row⟩ := a
   obtain ⟨y,hy,t,pa,rfl,ht,dxp,hpa⟩ := hA.get ha
   rw [hv] at hy
   cases hy
   have hm := (List.mem_filter.mp (List.mem_of_getElem? ha)).1
   obtain ⟨hd,hrl⟩ := hR.2 row (List.of_mem_zip hm).2
   have e := mk_at hR.1 hd
   have ht' := s' _ _ ht
   have hpa' := s' _ _ hpa
   have t1 := s1.trans s'
   walk_at "rd"
   intro t2 ht2
   obtain ⟨H2,e2,ht22,s2⟩ := newt (xs := [T n.nm,V.int d]) ht2
   rw [← e2]
   have k1 := s2 _ _ (t1 _ _ h1)
   have k6 := s2 _ _ (t1 _ _ h6)
   have kp := s2 _ _ hpa'
   have k7 := JeS (K := K) (h7.imp fun a y => LvT.keeps a y _ _ (t1.trans s2).keeps)
   have fl : ([T n.nm,V.int d] : List V).all J0j = true := rfl
   walk_at "rd"
   refine ite2 (fun c => ?_) (fun c => ?_)
   ·walk_at "rd"
    intro t3 ht3
    exact hR' _ _ _ c ⟨_,_,rfl⟩ (s2.trans (Jr ht3 _)) ⟨t3,rfl,J9⟩
   ·exact hF _ _ (Bool.eq_false_iff.mpr c) ⟨_,_,rfl⟩ s2
  ·exact q D H' zs (s1.trans s') (s1.free hD) hDD hzs.mapL
theorem J7m (tx : Tx K mg J8 Jb J7 Ja J3 Jh J2 J1) : FnG P w K mg base "need_faults" 2 ["house","rota","day"] (Jej J2 J1 fun ks nds _ _ rows d => neF ks nds rows d) := by
 have JcP := Jf8 (P := P) (w := w) (base := base) tx
 refine tx.J7s.g J1l (fun _ _ _ _ _ _ us hl => match us,hl with | [_,_,_],_ => rfl) (fun vs H Q E h => ?_) (fun f cdv A outer s H vs Q E hr h => ?_)
 ·obtain ⟨h,r,d,dd,ks,nds,ps,ls,u5,u6,rows,rfl,_⟩ := h
  rfl
 ·obtain ⟨h,r,d,dd,ks,nds,ps,ls,u5,u6,rows,rfl,hq,hr1,hl,hp8,hk4,hR,q⟩ := h
  refine ⟨_,(J5 (Jj (i := 3) J1l.nd rfl (Or.inl rfl) (J17 J6))
   (J5 (J0l PassesOwn.never rfl (J4H (Jg (K := K) rfl (pv 0) rfl)) (Jo (i := 4) J1l.nd rfl (Or.inr rfl)) (J5 (Jj (i := 5) J1l.nd rfl (Or.inl rfl) (JbI JcP (hr.mono (by decide)) (pv 0) (J0 (pv 2) (J0 (pv 4) J6))))
   (J5 (Jj (i := 6) J1l.nd rfl (Or.inl rfl) (Jt (JC (K := K) rfl) rfl tx.J0c PySem.boot_len (J0 (J05 (osc := J4 J0T) (ON := ["house","rota","day","found","kind","need","many"]) (N := ["row","kind","day"]) (js := [none,some 4,some 2]) ⟨rfl,by decide +kernel,by decide +kernel,by decide +kernel,rfl,by decide +kernel⟩ rfl rfl rfl (J07 (K := K) rfl (pv 1)) (fun _ _ _ _ _ => Jo (i := 0) (show List.Nodup (["row","kind","day"] : List Str) from by decide +kernel) rfl (Or.inl rfl)) (fun _ _ _ _ _ => J06 (Jl J0f (JE J0V (pv 0) (pv 2) (fun _ _ => rfl)) (pv 1) (Jq _))) (fun _ _ _ _ _ => (pv 0))) J6)))
   (Jc (J2z (J01 (PW.pt (J5f (Jl Jal (pv 6) (JE (J2D (K := K) rfl) (pv 5) Jd (fun _ _ => rfl)) (Jq _)) (J4F (Jl J7e (pv 6) (JE (J2D (K := K) rfl) (pv 5) Jd (fun _ _ => rfl)) (Jq _))))) (Jc (J1O (J3k PySem.F.plainAttrs_list PySem.F.slot_list_append PySem.F.type_list_append J09 (pv 3) (J0 (J0a (J0 (pv 2) (J0 (Jv (l := [110,101,101,100]) (by decide +kernel)) (J0 (pv 4) (J0 (pv 6) J6))))) J6)))) JA))))))
   (Jc (Jp (pv 3))))),?_⟩
  walk_at "st"
  clear JcP
  have cH := tx.JP.cl
  have nH := tx.J0v
  have hq0 := hq
  obtain ⟨a1,a2,a3,a4,a5,a6,xs',ys',zs',ws',⟨dx,h1⟩,_⟩ := hq0
  walk_at "rd"
  intro fl nfl
  have k1 := Jr nfl (.lst []) _ _ h1
  walk_at "rd"
  refine JeM (l := ks) (fun i σ H2 => Here (∃ v1 v2 v3 xs,σ = [some (.ref h),some (.ref r),some (.int d),some (.ref fl),v1,v2,v3] ∧ H2 fl = some (.lst xs) ∧ All2 TpV H2 (((ks.take i).filter (neB nds rows d)).map (neV rows d)) xs ∧ Same H H2)) (Here.mk ⟨none,none,none,[],rfl,J9,trivial,Jr nfl _⟩) ?_ ?_
  ·rintro i k σ H2 hk hv
   obtain ⟨v1,v2,v3,xs,rfl,hf2,hA2,s2⟩ := hv.out
   have hq2 := (hq.same s2).k
   have ob2 := s2 _ _ h1
   have hxl : xs.length ≤ 10 := by
    have h1 := hA2.len
    have h2 := List.length_filter_le (neB nds rows d) (ks.take i)
    rw [List.length_map] at h1
    rw [List.length_take] at h2
    omega
   walk_at "rd"
   intro t1 H3 s3 ht1
   have hr3 := s3 _ _ (s2 _ _ hr1)
   walk_at "rd"
   refine J0b rows (fun r => decide (mkA r d = k)) (fun _ _ _ => True) (fun σ => ∃ v,σ = [v,some (T [k]),some (.int d)]) (J0n (SqL.of hr3)) (by rw [List.length_map]) (by omega) ⟨_,rfl⟩ (fun _ _ _ _ _ z => z) (fun j row v σ H' hj hv hσ s' Rf Rt hF hR' => ?_) (fun D H4 ys hD s4 hys hDD => ?_)
   ·obtain ⟨w1,rfl⟩ := hσ
    rw [List.getElem?_map,hj] at hv
    cases hv
    obtain ⟨hd,hrl⟩ := hR.2 row (List.mem_of_getElem? hj)
    have e := mk_at hR.1 hd
    walk_at "rd"
    refine ite2 (fun c => ?_) (fun c => ?_)
    ·have c' : mkA row d = k := by simpa using J2p (of_decide_eq_true c)
     walk_at "rd"
     exact hR' _ _ _ (decide_eq_true c') ⟨_,rfl⟩ (Same.refl _) trivial
    ·exact hF _ _ (decide_eq_false fun z => c (decide_eq_true (by rw [z]))) ⟨_,rfl⟩ (Same.refl _)
   have hyl : ys.length = cntF rows d k := hys.len
   have ht4 := s4 _ _ ht1
   have hf4 := s4 _ _ (s3 _ _ hf2)
   have e0 := at0 (V.int (J0k nds d k).1) (V.int (J0k nds d k).2)
   have e1 := at1 (V.int (J0k nds d k).1) (V.int (J0k nds d k).2)
   have t24 := s3.trans s4
   have ek : ((ks.take (i + 1)).filter (neB nds rows d)).map (neV rows d) = ((ks.take i).filter (neB nds rows d)).map (neV rows d) ++ (if neB nds rows d k = true then [neV rows d k] else []) := by
    rw [List.take_add_one,hk,List.filter_append,List.map_append]
    congr 1
    show (List.filter (neB nds rows d) [k]).map _ = _
    rw [List.filter_cons]
    split <;> rfl
   walk_at "rd"
   rw [hyl]
   refine tCut.mk (fun σ' H' => Here (∃ v1 v2 v3 xs',σ' = [some (.ref h),some (.ref r),some (.int d),some (.ref fl),v1,v2,v3] ∧ H' fl = some (.lst xs') ∧ All2 TpV H' (((ks.take (i + 1)).filter (neB nds rows d)).map (neV rows d)) xs' ∧ Same H H')) ?_ (fun σ' H' hv => hv)
   have put : neB nds rows d k = true → ∀ t2,H4 t2 = none → Here (∃ v1 v2 v3 xs',[some (V.ref h),some (.ref r),some (.int d),some (.ref fl),some (T [k]),some (.ref t1),some (.int (cntF rows d k : Nat))] = [some (.ref h),some (.ref r),some (.int d),some (.ref fl),v1,v2,v3] ∧ upd (upd H4 t2 (.tup [.int d,T J3Q,T [k],.int (cntF rows d k : Nat)])) fl (.lst (xs ++ [.ref t2])) fl = some (.lst xs') ∧ All2 TpV (upd (upd H4 t2 (.tup [.int d,T J3Q,T [k],.int (cntF rows d k : Nat)])) fl (.lst (xs ++ [.ref t2]))) (((ks.take (i + 1)).filter (neB nds rows d)).map (neV rows d)) xs' ∧ Same H (upd (upd H4 t2 (.tup [.int d,T J3Q,T [k],.int (cntF rows d k : Nat)])) fl (.lst (xs ++ [.ref t2])))) := fun hb t2 ht2 => by
    have s5 : Same H4 (upd H4 t2 (.tup [.int d,T J3Q,T [k],.int (cntF rows d k : Nat)])) := Jr ht2 _
    have kk : JO (upd H4 t2 (.tup [.int d,T J3Q,T [k],.int (cntF rows d k : Nat)])) (upd (upd H4 t2 (.tup [.int d,T J3Q,T [k],.int (cntF rows d k : Nat)])) fl (.lst (xs ++ [.ref t2]))) := JR (s5 _ _ hf4)
    refine Here.mk ⟨_,_,_,xs ++ [.ref t2],rfl,J9,?_,((s2.trans t24).trans s5).upd nfl⟩
    rw [ek,if_pos hb]
    exact All2.snoc (hA2.imp fun a y => TpV.keeps a y _ _ ((t24.trans s5).keeps.trans kk)) ⟨t2,rfl,kk _ _ J9 (fun zs z => by cases z)⟩
   walk_at "rd"
   refine ite2 (fun c1 => ?_) (fun c1 => ?_)
   ·walk_at "rd"
    intro t2 ht2
    have hf5 := Jr ht2 (.tup [.int d,T J3Q,T [k],.int (cntF rows d k : Nat)]) _ _ hf4
    walk_at "rd"
    exact put (by unfold neB; rw [c1]; rfl) t2 ht2
   ·walk_at "rd"
    refine ite2 (fun c2 => ?_) (fun c2 => ?_)
    ·walk_at "rd"
     intro t2 ht2
     have hf5 := Jr ht2 (.tup [.int d,T J3Q,T [k],.int (cntF rows d k : Nat)]) _ _ hf4
     walk_at "rd"
     exact put (by unfold neB; rw [c2,Bool.or_true]) t2 ht2
    ·have hb : ¬ neB nds rows d k = true := by unfold neB; rw [Bool.eq_false_iff.mpr c1,Bool.eq_false_iff.mpr c2]; decide
     walk_at "rd"
     refine Here.mk ⟨_,_,_,xs,rfl,hf4,?_,s2.trans t24⟩
     rw [ek,if_neg hb,List.append_nil]
     exact hA2.imp fun a y => TpV.keeps a y _ _ t24.keeps
  ·rintro σ H2 hv
   obtain ⟨v1,v2,v3,xs,rfl,hf2,hA2,s2⟩ := hv.out
   rw [List.take_of_length_le (Nat.le_refl _)] at hA2
   walk_at "rd"
   exact q fl H2 xs s2 nfl hf2 hA2
theorem J7H (tx : Tx K mg J8 Jb J7 Ja J3 Jh J2 J1) : FnG P w K mg base "most_faults" 2 ["house","rota","day"] (Jej J2 J1 fun _ _ _ ps rows d => moF ps rows d) := by
 have J2b := J5B (P := P) (w := w) (base := base) tx
 have J2G := J5T (P := P) (w := w) (base := base) tx
 refine tx.J7E.g J1o (fun _ _ _ _ _ _ us hl => match us,hl with | [_,_,_],_ => rfl) (fun vs H Q E h => ?_) (fun f cdv A outer s H vs Q E hr h => ?_)
 ·obtain ⟨h,r,d,dd,ks,nds,ps,ls,u5,u6,rows,rfl,_⟩ := h
  rfl
 ·obtain ⟨h,r,d,dd,ks,nds,ps,ls,u5,u6,rows,rfl,hq,hr1,hl,hp8,hk4,hR,q⟩ := h
  refine ⟨_,(J5 (Jj (i := 3) J1o.nd rfl (Or.inl rfl) (J17 J6))
   (J5 (J0l PassesOwn.never rfl (J07 (K := K) rfl (Jw J2b (hr.mono (by decide)) (J0 (pv 0) (J0 (pv 1) (J0 (pv 2) J6))))) (J2P rfl (Jz (Jo (i := 4) J1o.nd rfl (Or.inl rfl)) (Jz (Jo (i := 5) J1o.nd rfl (Or.inl rfl)) J1P))) (J5 (Jj (i := 6) J1o.nd rfl (Or.inl rfl) (Jw J2G (hr.mono (by decide)) (J0 (J0e J2N (pv 5) J15 (J0q (Jf JL (pv 2) Jd))) J6)))
   (Jc (J2z (J01 (Jl J7e (pv 6) (Jg (K := K) rfl (pv 4) rfl) (Jq _)) (Jc (J1O (J3k PySem.F.plainAttrs_list PySem.F.slot_list_append PySem.F.type_list_append J09 (pv 3) (J0 (J0a (J0 (pv 2) (J0 (Jv (l := [109,111,115,116]) (by decide +kernel)) (J0 (Jg (K := K) rfl (pv 4) rfl) (J0 (pv 6) J6))))) J6)))) JA)))))
   (Jc (Jp (pv 3))))),?_⟩
  walk_at "st"
  clear J2b J2G
  have cP := tx.JS.cl
  have nP1 := tx.Jy
  have nP2 := tx.J0r
  walk_at "rd"
  intro fl nfl
  obtain ⟨H0,e0,hf0,s0⟩ := newl (xs := []) nfl
  rw [← e0]
  have hq0 := hq.same s0
  have hr0 := s0 _ _ hr1
  walk_at "rd"
  intro D1 H1 ys s1 nD1 hD1 hA
  have hyl := hA.len
  have hfl := List.length_filter_le (onB d) (ps.zip rows)
  rw [List.length_zip] at hfl
  have hf1 := s1 _ _ hf0
  have nfD : D1 ≠ fl := (Je hf0 nD1).symm
  walk_at "rd"
  generalize hon : (ps.zip rows).filter (onB d) = on at hA hyl hfl
  refine J3y (K := K) (xs := ys) (fun i σ H2 => Here (∃ v1 v2 v3 xs,σ = [some (.ref h),some (.ref r),some (.int d),some (.ref fl),v1,v2,v3] ∧ H2 fl = some (.lst xs) ∧ All2 TpV H2 (((on.take i).filter (moB d)).map (moV d)) xs ∧ H2 D1 = some (.lst ys) ∧ JO H1 H2 ∧ Same H H2)) (Here.mk ⟨none,none,none,[],rfl,hf1,trivial,hD1,(Same.refl _).keeps,s0.trans s1⟩) (fun i σ H2 _ hv => by obtain ⟨_,_,_,_,_,_,_,e,_⟩ := hv.out; exact SqL.of e) ?_ ?_
  ·rintro i x σ H2 hx hv
   obtain ⟨v1,v2,v3,xs,rfl,hf2,hA2,hD2,k2,s2⟩ := hv.out
   obtain ⟨p,hp,hpt⟩ := hA.back hx
   have hm : p ∈ ps.zip rows := by rw [← hon] at hp; exact (List.mem_filter.mp (List.mem_of_getElem? hp)).1
   obtain ⟨n,row⟩ := p
   obtain ⟨t,pa,rfl,ht,dxp,hpa⟩ := OnT.keeps _ _ _ _ k2 hpt
   obtain ⟨hd,hrl⟩ := hR.2 row (List.of_mem_zip hm).2
   have hxl : xs.length ≤ 10 := by
    have h1 := hA2.len
    have h2 := List.length_filter_le (moB d) (on.take i)
    rw [List.length_map] at h1
    rw [List.length_take] at h2
    omega
   have cl := J2B row none (some (d + 1))
   have ek : ((on.take (i + 1)).filter (moB d)).map (moV d) = ((on.take i).filter (moB d)).map (moV d) ++ (if moB d (n,row) = true then [moV d (n,row)] else []) := by
    rw [List.take_add_one,hp,List.filter_append,List.map_append]
    congr 1
    show (List.filter (moB d) [(n,row)]).map _ = _
    rw [List.filter_cons]
    split <;> rfl
   walk_at "rd"
   intro H3 s3
   have hpa3 := s3 _ _ hpa
   have hf3 := s3 _ _ hf2
   walk_at "rd"
   refine tCut.mk (fun σ' H' => Here (∃ v1 v2 v3 xs',σ' = [some (.ref h),some (.ref r),some (.int d),some (.ref fl),v1,v2,v3] ∧ H' fl = some (.lst xs') ∧ All2 TpV H' (((on.take (i + 1)).filter (moB d)).map (moV d)) xs' ∧ H' D1 = some (.lst ys) ∧ JO H1 H' ∧ Same H H')) ?_ (fun σ' H' hv => hv)
   walk_at "rd"
   refine ite2 (fun c1 => ?_) (fun c1 => ?_)
   ·walk_at "rd"
    intro t2 ht2
    obtain ⟨H4,e4,ht4,s4⟩ := newt (xs := [.int d,T wMoF,T n.nm,.int (dut (cutN row none (some (d + 1))) : Nat)]) ht2
    rw [← e4]
    have hf4 := s4 _ _ hf3
    walk_at "rd"
    have kk : JO H4 (upd H4 fl (.lst (xs ++ [.ref t2]))) := JR hf4
    refine Here.mk ⟨_,_,_,xs ++ [.ref t2],rfl,J9,?_,?_,k2.trans ((s3.trans s4).keeps.trans kk),((s2.trans s3).trans s4).upd nfl⟩
    ·rw [ek,if_pos (show moB d (n,row) = true from c1)]
     exact All2.snoc (hA2.imp fun a y => TpV.keeps a y _ _ ((s3.trans s4).keeps.trans kk)) ⟨t2,rfl,kk _ _ ht4 (fun zs z => by cases z)⟩
    ·rw [Ji nfD]
     exact s4 _ _ (s3 _ _ hD2)
   ·walk_at "rd"
    refine Here.mk ⟨_,_,_,xs,rfl,hf3,?_,s3 _ _ hD2,k2.trans s3.keeps,s2.trans s3⟩
    rw [ek,if_neg (show ¬ moB d (n,row) = true from c1),List.append_nil]
    exact hA2.imp fun a y => TpV.keeps a y _ _ s3.keeps
  ·rintro σ H2 hv
   obtain ⟨v1,v2,v3,xs,rfl,hf2,hA2,hD2,k2,s2⟩ := hv.out
   rw [hyl,List.take_of_length_le (Nat.le_refl _),← hon] at hA2
   walk_at "rd"
   exact q fl H2 xs s2 nfl hf2 hA2
end
theorem Jgf (a b : List Nat) : eqV (T a) (T b) = decide (a = b) := by
 by_cases h : a = b
 ·subst h
  rw [decide_eq_true rfl]
  exact decide_eq_true rfl
 ·rw [decide_eq_false h]
  exact decide_eq_false fun z => h (J2p (congrArg V.str z))
theorem Jdl (nm : List Nat) : ∀ nms : List (List Nat),inV (T nm) (nms.map T) = decide (nm ∈ nms)
 | [] => rfl
 | n :: r => by
  have ih := Jdl nm r
  unfold inV at ih ⊢
  rw [List.map_cons,List.any_cons,ih,Jgf]
  have h : decide (n = nm) = decide (nm = n) := by
   by_cases z : n = nm
   ·subst z; rfl
   ·rw [decide_eq_false z,decide_eq_false fun y => z y.symm]
  rw [h]
  simp [List.mem_cons,Bool.decide_or]
section
variable {P : Program} {w : World} {K : PySem.W.Frag} {mg : Str → Option Value} {base : Heap} {J8 Jb J7 Ja J3 Jh J2 J1 : Addr}
local macro_rules | `(tactic| walk_at "lk") => `(tactic| first | exact J2n _ _ _ _ _ | exact J3t _ _ _ _ _ | exact J5i _ _ _ _ _ | exact J5g _ _ _ _ _ | exact J23 _ _ _ _ _ _ _ _ | exact J44 _ _ _ _ _ _ _ _ | exact J42 _ _ _ _ _ _ _ _ | exact J47 _ _ _ _ _ _ _ _ | exact J6l _ _ _ _ _ _ _ _ | exact J5o _ _ _ _ _ _ _ _ | exact J5l _ _ _ _ _ _ _ _ | exact J8O _ _ _ _ _ _ _ _ | exact J5j _ _ _ _ _ _ _ _ | exact J5V _ _ _ _ _ _ _ _ | exact Or.inr (SqT.of (by with_reducible assumption)))
theorem J9s (tx : Tx K mg J8 Jb J7 Ja J3 Jh J2 J1) : MtG P w K mg base J1 "rules_for" 1 ["self","p"] (Jea P w K mg base J2 J1) := by
 refine tx.J50.g tx.JP.cl J32 (fun _ _ _ _ _ _ us hl => match us,hl with | [_,_],_ => rfl) (fun vs H Q E h => ?_) (fun f cdv A outer s H vs Q E hr h => ?_)
 ·obtain ⟨h,p,dd,ks,nds,ps,ls,u5,u6,n,rls,rfl,_⟩ := h
  rfl
 ·obtain ⟨h,p,dd,ks,nds,ps,ls,u5,u6,n,rls,rfl,hq,p0,hn,hR,h6,q⟩ := h
  refine ⟨_,(J5 (Jj (i := 2) J32.nd rfl (Or.inr rfl) (J0a (J0 (Jv (l := [97,108,108]) (by decide +kernel)) (J0 (Jg (K := K) rfl (JE (JG (K := K) rfl) (Jg (K := K) rfl (pv 0) rfl) (pv 1) (fun _ _ => rfl)) rfl) J6))))
   (Jc (Jp (J05 (osc := J4 JZ) (ON := ["self","p","names"]) (N := ["number","told","names"]) (js := [none,none,some 2]) ⟨rfl,by decide +kernel,by decide +kernel,by decide +kernel,rfl,by decide +kernel⟩ rfl rfl rfl (J4g (K := K) rfl rfl tx.J0Y (J0 (Jg (K := K) rfl (pv 0) rfl) J6)) (fun _ _ _ _ _ => J3q (K := K) (i := 0) (j := 1) rfl rfl (show List.Nodup (["number","told","names"] : List Str) from by decide +kernel) rfl rfl (Or.inl rfl) (Or.inl rfl)) (fun _ _ _ _ _ => J06 (Jl (J97 (K := K) rfl) (JE (J2D (K := K) rfl) (pv 1) Jd (fun _ _ => rfl)) (pv 2) rfl)) (fun _ _ _ _ _ => (J0a (J0 (pv 0) (J0 (JE (J2D (K := K) rfl) (pv 1) Jd (fun _ _ => rfl)) J6)))))))),?_⟩
  walk_at "st"
  obtain ⟨a1,a2,a3,a4,a5,a6,xs,ys,zs,ws,⟨dx,h0⟩,y1,y1',y2,hP,y3,y3',y4,y5,y6⟩ := hq
  have cH := tx.JP.cl
  have nH1 := tx.JJ
  have nH2 := tx.J0t
  have cP := tx.JS.cl
  have nP := tx.Jy
  obtain ⟨y,hy,pa,rfl,dxp,hpp⟩ := hP.get hn
  have hix : atI ys p = some (.ref pa) := by have := J0E hy; rwa [Int.toNat_of_nonneg p0] at this
  walk_at "rd"
  intro t ht
  obtain ⟨H1,e1,ht1,s1⟩ := newt (xs := [T wAll,T n.nm]) ht
  rw [← e1]
  have h01 := s1 _ _ h0
  have y51 := s1 _ _ y5
  clear e1
  walk_at "rd"
  refine Jb9 (List.range rls.length) (J9Z rls n.nm) (FdT P w K mg base rls) (fun σ => ∃ v1 v2,σ = [v1,v2,some (.ref t)]) (SqL.of y51) (by rw [List.length_range]; exact hR.len) (by rw [List.length_range]; omega) ⟨_,_,rfl⟩ FdT.keeps (fun i a v qq σ H' ha hv hσ s' hq Rf Rt hf hT => ?_) (fun D H' ys hD s' hys hDD => q D H' ys (s1.trans s') hDD hys)
  obtain ⟨w1,w2,rfl⟩ := hσ
  obtain ⟨rfl,hil⟩ := JdO ha
  obtain ⟨r0,hr0,tt,pp,rfl,htt,hru⟩ := hR.back hv
  have sA : Same H H' := s1.trans s'
  have sQ : Same H' (upd H' qq (.tup [.int (a : Nat),.ref tt])) := Jr hq _
  have htt2 := (sA.trans sQ) _ _ htt
  have ht2 := (s'.trans sQ) _ _ ht1
  have eB : J9Z rls n.nm a = inV (T r0.nm) [T wAll,T n.nm] := by
   unfold J9Z
   rw [J8Z hr0]
   exact (Jdl r0.nm [wAll,n.nm]).symm
  have u0 := at0 (T r0.nm) (V.ref pp)
  have u1 := at1 (T r0.nm) (V.ref pp)
  have f1 : J0j (T r0.nm) = true := rfl
  have f2 : [T wAll,T n.nm].all J0j = true := rfl
  have hI2 : SqL K (upd H' qq (.tup [.int (a : Nat),.ref tt])) t [T wAll,T n.nm] ∨ SqT K (upd H' qq (.tup [.int (a : Nat),.ref tt])) t [T wAll,T n.nm] := .inr (SqT.of ht2)
  walk_at "rd"
  refine ite2 (fun c => ?_) (fun c => ?_)
  ·walk_at "rd"
   intro t3 ht3
   have s3 := sQ.trans (Jr ht3 (.tup [.int (a : Nat),.ref pp]))
   exact hT _ _ _ (eB.trans c) ⟨_,_,rfl⟩ s3 ⟨t3,pp,rfl,J9,by rw [J8Z hr0]; exact hru.keeps (sA.trans s3).keeps⟩
  ·exact hf _ _ (eB.trans (Bool.eq_false_iff.mpr c)) ⟨_,_,rfl⟩ sQ
theorem J7G (tx : Tx K mg J8 Jb J7 Ja J3 Jh J2 J1) : FnG P w K mg base "rule_faults" 11 ["house","rota","day"] (Jg5 P w K mg base J2 J1) := by
 have J5S := J9s (P := P) (w := w) (base := base) tx
 refine tx.J7w.g J0B (fun _ _ _ _ _ _ us hl => match us,hl with | [_,_,_],_ => rfl) (fun vs H Q E h => ?_) (fun f cdv A outer s H vs Q E hr h => ?_)
 ·obtain ⟨h,r,d,dd,ks,nds,ps,ls,u5,u6,rows,rls,rfl,_⟩ := h
  rfl
 ·obtain ⟨h,r,d,dd,ks,nds,ps,ls,u5,u6,rows,rls,rfl,hq,hr1,hl,hp8,hR,hpast,hRu,h6,q⟩ := h
  refine ⟨_,(J5 (Jj (i := 3) J0B.nd rfl (Or.inl rfl) (J17 J6))
   (J5 (J0l PassesOwn.never rfl (J4g (K := K) rfl rfl tx.J0Y (J0 (Jg (K := K) rfl (pv 0) rfl) J6)) (J2P rfl (Jz (Jo (i := 4) J0B.nd rfl (Or.inl rfl)) (Jz (Jo (i := 5) J0B.nd rfl (Or.inr rfl)) J1P))) (J5 (Jj (i := 6) J0B.nd rfl (Or.inr rfl) (Jf J0F (Jg (K := K) rfl (pv 5) rfl) (J0e J2N (JE (JG (K := K) rfl) (pv 1) (pv 4) (fun _ _ => rfl)) J15 (J0q (Jf JL (pv 2) Jd)))))
   (J5 (Jj (i := 7) J0B.nd rfl (Or.inl rfl) (JbI J5S (hr.mono (by decide)) (pv 0) (J0 (pv 4) J6)))
   (Jc (J4D (i := 3) J0B.nd rfl (Or.inl rfl) (J05 (osc := J4 J0U) (ON := ["house","rota","day","found","p","person","marks","bound"]) (N := ["number","rule","day","person","marks"]) (js := [none,none,some 2,some 5,some 6]) ⟨rfl,by decide +kernel,by decide +kernel,by decide +kernel,rfl,by decide +kernel⟩ rfl rfl rfl (J07 (K := K) rfl (pv 7)) (fun _ _ _ _ _ => J3q (K := K) (i := 0) (j := 1) rfl rfl (show List.Nodup (["number","rule","day","person","marks"] : List Str) from by decide +kernel) rfl rfl (Or.inl rfl) (Or.inl rfl)) (fun _ _ _ _ _ => J06 (J3Z (J4A (P := P) (w := w) (K := K) (mg := mg) (base := base) hr (pv 1) (J0 (pv 4) J6) rfl rfl rfl rfl rfl))) (fun _ _ _ _ _ => (J0a (J0 (pv 2) (J0 (Jv (l := [114,117,108,101]) (by decide +kernel)) (J0 (Jg (K := K) rfl (pv 3) rfl) (J0 (pv 0) J6))))))) J3G)))))
   (Jc (Jp (pv 3))))),?_⟩
  walk_at "st"
  clear J5S
  have cH := tx.JP.cl
  have nH := tx.JJ
  have cP := tx.JS.cl
  have nP := tx.J0d
  have nP2 := tx.Jy
  have hq0 := hq
  obtain ⟨a1,a2,a3,a4,a5,a6,xs',ys',zs',ws',⟨dx,h1⟩,_,_,h4,h5,_⟩ := hq0
  have hyl := h5.len
  walk_at "rd"
  intro fl nfl
  have s1 : Same H (upd H fl (.lst [])) := Jr nfl _
  have k1 := s1 _ _ h1
  have k4 := s1 _ _ h4
  walk_at "rd"
  refine J5G (K := K) (xs := ys') (fun i σ H2 => Here (∃ v1 v2 v3 v4 xs,σ = [some (.ref h),some (.ref r),some (.int d),some (.ref fl),v1,v2,v3,v4] ∧ H2 fl = some (.lst xs) ∧ All2 TpV H2 ((((ps.zip rows).take i).map (ruP rls d)).flatten) xs ∧ Same H H2)) (Here.mk ⟨none,none,none,none,[],rfl,J9,trivial,s1⟩) (fun i σ H2 _ hv => by obtain ⟨_,_,_,_,_,_,_,_,s2⟩ := hv.out; exact SqL.of (s2 _ _ h4)) ?_ ?_
  ·rintro i x p σ H2 hx hp hv
   obtain ⟨v1,v2,v3,v4,xs,rfl,hf2,hA2,s2⟩ := hv.out
   have hi : i < ys'.length := (List.getElem?_eq_some_iff.mp hx).1
   obtain ⟨n,hn,pa,rfl,dxp,hpa⟩ := h5.back hx
   have hpl := hpast n (List.mem_of_getElem? hn)
   obtain ⟨H3,e3,hp3,s3⟩ := newt (xs := [V.int (i : Int),V.ref pa]) hp
   rw [← e3]
   have S3 := s2.trans s3
   have hpa3 := S3 _ _ hpa
   have hr3 := S3 _ _ hr1
   have hq3 := hq.same S3
   have ob3 := S3 _ _ h1
   have hRu3 := hRu.imp fun a y => RuT.keeps a y _ _ S3.keeps
   have hrow : rows[i]? = some (rows[i]'(by omega)) := List.getElem?_eq_getElem (by omega)
   generalize rows[i]'(by omega) = row at hrow
   have er : atI (rows.map T) (i : Int) = some (T row) := J0E (by rw [List.getElem?_map,hrow]; rfl)
   obtain ⟨hd,hrl⟩ := hR.2 row (List.mem_of_getElem? hrow)
   have cl := J2B row none (some (d + 1))
   have hsum : n.past.length + (cutN row none (some (d + 1))).length ≤ sizeLine := Nat.le_trans (show _ ≤ 1100 by omega) (by decide)
   have hm2 : (n.past ++ cutN row none (some (d + 1))).length ≤ 200 := by rw [List.length_append]; omega
   have i0 : (0 : Int) ≤ (i : Int) := by omega
   have hn' : ps[((i : Int)).toNat]? = some n := by rw [Int.toNat_natCast]; exact hn
   have hzl := J9e rls d h6 ((ps.zip rows).take i)
   have hxl : xs.length ≤ 64 := by
    have h1 := hA2.len
    rw [List.length_take,List.length_zip] at hzl
    omega
   have ek : (((ps.zip rows).take (i + 1)).map (ruP rls d)).flatten = (((ps.zip rows).take i).map (ruP rls d)).flatten ++ ruP rls d (n,row) := by
    rw [List.take_add_one,show (ps.zip rows)[i]? = some (n,row) from List.getElem?_zip_eq_some.mpr ⟨hn,hrow⟩,List.map_append,List.flatten_append]
    simp
   have eRu : ruP rls d (n,row) = ((ruI rls n.nm).filter (ruB rls (n.past ++ cutN row none (some (d + 1))))).map (ruV d n.nm) := rfl
   rw [ek,eRu]
   walk_at "rd"
   intro D2 H4 ys4 s4 hD2 hF4
   have hf4 := s4 _ _ (s3 _ _ hf2)
   have hpa4 := s4 _ _ hpa3
   have hil := Jbu rls n.nm
   have hyl4 := hF4.len
   generalize n.past ++ cutN row none (some (d + 1)) = mm at hm2 ⊢
   walk_at "rd"
   refine J0b (ruI rls n.nm) (ruB rls mm) (fun i y H => TpV (ruV d n.nm i) y H) (fun σ => ∃ v1 v2,σ = [v1,v2,some (.int d),some (.ref pa),some (T mm)]) (J0n (SqL.of hD2)) hyl4 (by omega) ⟨_,_,rfl⟩ (fun a y Ha Hb k h => TpV.keeps _ y Ha Hb k h) (fun i' a v σ H' ha hv hσ s' Rf Rt hF hR' => ?_) (fun D H5 zs hD s5 hzs hDD => ?_)
   ·obtain ⟨v1,v2,rfl⟩ := hσ
    obtain ⟨a',ha',t1,ra,rfl,ht1,hbq⟩ := hF4.back hv
    rw [ha] at ha'
    cases ha'
    have ht1' := s' _ _ ht1
    obtain ⟨C,dxr,fs,kk,psr,spr,hra,lk1,M1,hk4,A1⟩ := hbq.keeps s'.keeps
    have hpa' := s' _ _ hpa4
    walk_at "rd"
    refine A1 mm hm2 _ _ (Same.refl _).keeps fun H6 s6 => ?_
    have hpa6 := s6 _ _ hpa'
    walk_at "rd"
    refine ite2 (fun c => ?_) (fun c => ?_)
    ·walk_at "rd"
     intro t3 ft3
     exact hR' _ _ _ c ⟨_,_,rfl⟩ (s6.trans (Jr ft3 _)) ⟨t3,rfl,J9⟩
    ·exact hF _ _ (Bool.eq_false_iff.mpr c) ⟨_,_,rfl⟩ s6
   have hf5 := s5 _ _ hf4
   have kk : JO H5 (upd H5 fl (.lst (xs ++ zs))) := JR hf5
   have hzl2 : zs.length ≤ 8 := by
    have h1 := hzs.len
    have h2 := List.length_filter_le (ruB rls mm) (ruI rls n.nm)
    omega
   walk_at "rd"
   exact Here.mk ⟨_,_,_,_,xs ++ zs,rfl,J9,All2.app (hA2.imp fun a y => TpV.keeps a y _ _ (((s3.trans s4).trans s5).keeps.trans kk)) ((All2.mapL (P := TpV) hzs).imp fun a y => TpV.keeps a y _ _ kk),((S3.trans s4).trans s5).upd nfl⟩
  ·rintro σ H2 hv
   obtain ⟨v1,v2,v3,v4,xs,rfl,hf2,hA2,s2⟩ := hv.out
   rw [List.take_of_length_le (by rw [List.length_zip]; omega)] at hA2
   walk_at "rd"
   exact q fl H2 xs s2 nfl hf2 hA2
theorem J7K (tx : Tx K mg J8 Jb J7 Ja J3 Jh J2 J1) : FnG P w K mg base "breaks_pair" 1 ["word","mark","other"] Jfb := by
 refine tx.J7x.g J6B (fun _ _ _ _ _ _ us hl => match us,hl with | [_,_,_],_ => rfl) (fun vs H Q E h => ?_) (fun f cdv A outer s H vs Q E hr h => ?_)
 ·obtain ⟨wd,m,o,rfl,_⟩ := h
  rfl
 ·obtain ⟨wd,m,o,rfl,q⟩ := h
  refine ⟨_,(J5 (J01 (Jl J0f (pv 1) (Jv (l := [45]) (by decide +kernel)) (Jq _)) (Jc (Jp J3h)) JA)
   (Jc (Jp (Jar (Jl J0f (pv 0) (Jv (l := [97,112,97,114,116]) (by decide +kernel)) (Jq _)) (J2m J0f (pv 1) (pv 2) (Jq _)) (J2m J34 (pv 1) (pv 2) (Jq _)))))),?_⟩
  walk_at "st"
  have dT : ∀ a b : Nat,decide (T [a] = T [b]) = decide (a = b) := fun a b => decide_eq_decide.mpr ⟨fun z => by simpa using J2p z,fun z => by rw [z]⟩
  walk_at "rd"
  refine ite2 (fun e => ?_) (fun e => ?_)
  ·have e' : m = 45 := by simpa using J2p (of_decide_eq_true e)
   unfold brkB at q
   rw [decide_eq_true e'] at q
   walk_at "rd"
   exact q
  have e1 : ¬ m = 45 := fun z => e (decide_eq_true (by rw [z]))
  unfold brkB at q
  rw [decide_eq_false e1,Bool.not_false,Bool.true_and] at q
  walk_at "rd"
  refine ite2 (fun e => ?_) (fun e => ?_)
  ·have e' : wd = J2o := J2p (of_decide_eq_true e)
   rw [if_pos e',← dT] at q
   walk_at "rd"
   exact q
  ·have e' : ¬ wd = J2o := fun z => e (decide_eq_true (by rw [z]))
   rw [if_neg e',← dT] at q
   walk_at "rd"
   exact q
theorem J7y (tx : Tx K mg J8 Jb J7 Ja J3 Jh J2 J1) : FnG P w K mg base "pair_faults" 2 ["house","rota","day"] (Jg6 J2 J1) := by
 have J4x := JaK (P := P) (w := w) (base := base) tx
 have J4r := J7K (P := P) (w := w) (base := base) tx
 refine tx.J7n.g J0W (fun _ _ _ _ _ _ us hl => match us,hl with | [_,_,_],_ => rfl) (fun vs H Q E h => ?_) (fun f cdv A outer s H vs Q E hr h => ?_)
 ·obtain ⟨h,r,d,dd,ks,nds,ps,ls,u5,u6,rows,prs,rfl,_⟩ := h
  rfl
 ·obtain ⟨h,r,d,dd,ks,nds,ps,ls,u5,u6,rows,prs,rfl,hq,hr1,hl,hp8,hR,hPr,h2,hIn,q⟩ := h
  refine ⟨_,(J5 (Jj (i := 3) J0W.nd rfl (Or.inl rfl) (J17 J6))
   (J5 (J0l PassesOwn.never rfl (J4g (K := K) rfl rfl tx.J0Y (J0 (Jg (K := K) rfl (pv 0) rfl) J6)) (J2P rfl (Jz (Jo (i := 4) J0W.nd rfl (Or.inl rfl)) (Jz (Jo (i := 5) J0W.nd rfl (Or.inl rfl)) J1P))) (J5 (Jj (i := 6) J0W.nd rfl (Or.inl rfl) (JE J0V (JE (JG (K := K) rfl) (pv 1) (JbI J4x (hr.mono (by decide)) (pv 0) (J0 (JE (J2D (K := K) rfl) (pv 5) Jd (fun _ _ => rfl)) J6)) (fun _ _ => rfl)) (pv 2) (fun _ _ => rfl)))
   (J5 (Jj (i := 7) J0W.nd rfl (Or.inl rfl) (JE J0V (JE (JG (K := K) rfl) (pv 1) (JbI J4x (hr.mono (by decide)) (pv 0) (J0 (JE (J2D (K := K) rfl) (pv 5) Jd (fun _ _ => rfl)) J6)) (fun _ _ => rfl)) (pv 2) (fun _ _ => rfl)))
   (Jc (J01 (J3Z (Jw J4r (hr.mono (by decide)) (J0 (JE (J2D (K := K) rfl) (pv 5) Jd (fun _ _ => rfl)) (J0 (pv 6) (J0 (pv 7) J6))))) (Jc (J1O (J3k PySem.F.plainAttrs_list PySem.F.slot_list_append PySem.F.type_list_append J09 (pv 3) (J0 (J0a (J0 (pv 2) (J0 (Jv (l := [112,97,105,114]) (by decide +kernel)) (J0 (JE (J2D (K := K) rfl) (pv 5) Jd (fun _ _ => rfl)) (J0 (pv 4) J6))))) J6)))) JA)))))
   (Jc (Jp (pv 3))))),?_⟩
  walk_at "st"
  clear J4x J4r
  have cH := tx.JP.cl
  have nH := tx.J0w
  have hN := hq.n
  obtain ⟨a1,a2,a3,a4,a5,a6,xs',ys',zs',ws',⟨dx,h1⟩,_,_,_,_,_,_,_,_,h10⟩ := hq
  have hul := hPr.len
  walk_at "rd"
  intro fl nfl
  have s1 : Same H (upd H fl (.lst [])) := Jr nfl _
  have k1 := s1 _ _ h1
  have k10 := s1 _ _ h10
  walk_at "rd"
  refine J5G (K := K) (xs := u6) (fun i σ H2 => Here (∃ v1 v2 v3 v4 xs,σ = [some (.ref h),some (.ref r),some (.int d),some (.ref fl),v1,v2,v3,v4] ∧ H2 fl = some (.lst xs) ∧ All2 TpV H2 (paL prs rows d i) xs ∧ Same H H2)) (Here.mk ⟨none,none,none,none,[],rfl,J9,trivial,s1⟩) (fun i σ H2 _ hv => by obtain ⟨_,_,_,_,_,_,_,_,s2⟩ := hv.out; exact SqL.of (s2 _ _ h10)) ?_ ?_
  ·rintro i x p σ H2 hx hp hv
   obtain ⟨v1,v2,v3,v4,xs,rfl,hf2,hA2,s2⟩ := hv.out
   have hi : i < u6.length := (List.getElem?_eq_some_iff.mp hx).1
   obtain ⟨pr,hpr,tp,rfl,htp⟩ := hPr.back hx
   have epr : prAt prs i = pr := by unfold prAt; rw [List.getD_eq_getElem?_getD,hpr]; rfl
   obtain ⟨⟨i1,i2⟩,j1,j2⟩ := hIn pr (List.mem_of_getElem? hpr)
   obtain ⟨H3,e3,hp3,s3⟩ := newt (xs := [V.int (i : Int),V.ref tp]) hp
   rw [← e3]
   have S3 := s2.trans s3
   have htp3 := S3 _ _ htp
   have hr3 := S3 _ _ hr1
   have ob3 := S3 _ _ h1
   have hN3 := hN.same S3
   have b0 : atI [T pr.wd,T pr.one,T pr.two] 0 = some (T pr.wd) := by simp [atI,ixN]
   have b1 : atI [T pr.wd,T pr.one,T pr.two] 1 = some (T pr.one) := by simp [atI,ixN]
   have b2 : atI [T pr.wd,T pr.one,T pr.two] 2 = some (T pr.two) := by simp [atI,ixN]
   have hil : pr.i < rows.length := by have := (List.getElem?_eq_some_iff.mp i1).1; rw [List.length_map] at this; omega
   have hjl : pr.j < rows.length := by have := (List.getElem?_eq_some_iff.mp j1).1; rw [List.length_map] at this; omega
   have ri : rows[pr.i]? = some (rows[pr.i]'hil) := List.getElem?_eq_getElem hil
   have rj : rows[pr.j]? = some (rows[pr.j]'hjl) := List.getElem?_eq_getElem hjl
   have gi : rows.getD pr.i [] = rows[pr.i]'hil := by rw [List.getD_eq_getElem?_getD,ri]; rfl
   have gj : rows.getD pr.j [] = rows[pr.j]'hjl := by rw [List.getD_eq_getElem?_getD,rj]; rfl
   have ai : atI (rows.map T) (pr.i : Int) = some (T (rows[pr.i]'hil)) := J0E (by rw [List.getElem?_map,ri]; rfl)
   have aj : atI (rows.map T) (pr.j : Int) = some (T (rows[pr.j]'hjl)) := J0E (by rw [List.getElem?_map,rj]; rfl)
   obtain ⟨di,li⟩ := hR.2 _ (List.mem_of_getElem? ri)
   obtain ⟨dj,lj⟩ := hR.2 _ (List.mem_of_getElem? rj)
   generalize rows[pr.i]'hil = rowi at ri gi ai di li
   generalize rows[pr.j]'hjl = rowj at rj gj aj dj lj
   have mi := mk_at hR.1 di
   have mj := mk_at hR.1 dj
   have li' : rowi.length ≤ 1000 := by omega
   have lj' : rowj.length ≤ 1000 := by omega
   have ek : paL prs rows d (i + 1) = paL prs rows d i ++ (if brkB pr.wd (mkA rowi d) (mkA rowj d) = true then [paV d prs i] else []) := by
    unfold paL
    rw [List.range_succ,List.filter_append,List.map_append]
    congr 1
    rw [List.filter_cons]
    have eb : paB rows d (prAt prs i) = brkB pr.wd (mkA rowi d) (mkA rowj d) := by unfold paB; rw [epr,gi,gj]
    rw [eb]
    split <;> rfl
   have eV : paV d prs i = [.int d,T J6U,T pr.one,.int (i : Nat)] := by unfold paV; rw [epr]
   have hxl : xs.length ≤ 8 := by
    have h1 := hA2.len
    have h2 := J9f prs rows d i
    omega
   walk_at "rd"
   intro H4 s4
   have hr4 := s4 _ _ hr3
   have htp4 := s4 _ _ htp3
   have ob4 := s4 _ _ ob3
   have hN4 := hN3.same s4
   walk_at "rd"
   intro H5 s5
   have hr5 := s5 _ _ hr4
   have htp5 := s5 _ _ htp4
   have hf5 := ((s3.trans s4).trans s5) _ _ hf2
   have S35 := (s3.trans s4).trans s5
   have S5 := s2.trans S35
   walk_at "rd"
   refine ite2 (fun c => ?_) (fun c => ?_)
   ·walk_at "rd"
    intro t2 ft2
    obtain ⟨H6,e6,yt6,s6⟩ := newt (xs := [.int d,T J6U,T pr.one,.int (i : Nat)]) ft2
    have e6' : upd H5 t2 (.tup [.int d,T J6U,T pr.one,.int (i : Nat)]) = H6 := e6.symm
    rw [e6']
    have hf6 := s6 _ _ hf5
    have kk : JO H6 (upd H6 fl (.lst (xs ++ [.ref t2]))) := JR hf6
    walk_at "rd"
    refine Here.mk ⟨_,_,_,_,xs ++ [.ref t2],rfl,J9,?_,(S5.trans s6).upd nfl⟩
    rw [ek,if_pos c]
    exact All2.snoc (hA2.imp fun a y => TpV.keeps a y _ _ ((S35.trans s6).keeps.trans kk)) ⟨t2,rfl,by rw [eV]; exact kk _ _ yt6 (fun zs z => by cases z)⟩
   ·walk_at "rd"
    refine Here.mk ⟨_,_,_,_,xs,rfl,hf5,?_,S5⟩
    rw [ek,if_neg c,List.append_nil]
    exact hA2.imp fun a y => TpV.keeps a y _ _ S35.keeps
  ·rintro σ H2 hv
   obtain ⟨v1,v2,v3,v4,xs,rfl,hf2,hA2,s2⟩ := hv.out
   rw [hul] at hA2
   walk_at "rd"
   exact q fl H2 xs s2 nfl hf2 hA2
theorem JcC (tx : Tx K mg J8 Jb J7 Ja J3 Jh J2 J1) : FnG P w K mg base "faults" 12 ["house","rota"] (JbU P w K mg base J2 J1) := by
 have J3R := J6R (P := P) (w := w) (base := base) tx
 have J3U := J6S (P := P) (w := w) (base := base) tx
 have J4j := J7m (P := P) (w := w) (base := base) tx
 have J4o := J7H (P := P) (w := w) (base := base) tx
 have J4m := J7G (P := P) (w := w) (base := base) tx
 have J4n := J7y (P := P) (w := w) (base := base) tx
 refine tx.JcJ.g J1H (fun _ _ _ _ _ _ us hl => match us,hl with | [_,_],_ => rfl) (fun vs H Q E h => ?_) (fun f cdv A outer s H vs Q E hr h => ?_)
 ·obtain ⟨h,r,dd,ks,nds,ps,ls,u5,u6,rows,rls,prs,rfl,_⟩ := h
  rfl
 ·obtain ⟨h,r,dd,ks,nds,ps,ls,u5,u6,rows,rls,prs,rfl,hq,hr1,hl,hp8,hk4,d0,d1,hrl,hpast,hRu,h6,hPr,hp2,hIn,q⟩ := h
  refine ⟨_,(J5 (Jj (i := 2) J1H.nd rfl (Or.inl rfl) (J17 J6))
   (J5 (J0l PassesOwn.never rfl (JW rfl tx.JY (J0 (Jg (K := K) rfl (pv 0) rfl) J6)) (Jo (i := 3) J1H.nd rfl (Or.inl rfl)) (J5 (J4D (i := 2) J1H.nd rfl (Or.inl rfl) (Jw J3R (hr.mono (by decide)) (J0 (pv 0) (J0 (pv 1) (J0 (pv 3) J6)))) J3G)
   (J5 (J4D (i := 2) J1H.nd rfl (Or.inl rfl) (Jw J3U (hr.mono (by decide)) (J0 (pv 0) (J0 (pv 1) (J0 (pv 3) J6)))) J3G)
   (J5 (J4D (i := 2) J1H.nd rfl (Or.inl rfl) (Jw J4j (hr.mono (by decide)) (J0 (pv 0) (J0 (pv 1) (J0 (pv 3) J6)))) J3G)
   (J5 (J4D (i := 2) J1H.nd rfl (Or.inl rfl) (Jw J4o (hr.mono (by decide)) (J0 (pv 0) (J0 (pv 1) (J0 (pv 3) J6)))) J3G)
   (J5 (J4D (i := 2) J1H.nd rfl (Or.inl rfl) (Jw J4m (hr.mono (by decide)) (J0 (pv 0) (J0 (pv 1) (J0 (pv 3) J6)))) J3G)
   (Jc (J4D (i := 2) J1H.nd rfl (Or.inl rfl) (Jw J4n (hr.mono (by decide)) (J0 (pv 0) (J0 (pv 1) (J0 (pv 3) J6)))) J3G))))))))
   (Jc (Jp (pv 2))))),?_⟩
  walk_at "st"
  clear J3R J3U J4j J4o J4m J4n
  have cH := tx.JP.cl
  have nH := tx.J0M
  have hq0 := hq
  obtain ⟨a1,a2,a3,a4,a5,a6,xs',ys',zs',ws',⟨dx,h1⟩,_⟩ := hq0
  walk_at "rd"
  intro fl nfl
  have k1 := Jr nfl (.lst []) _ _ h1
  walk_at "rd"
  refine J0I (n := dd.toNat) (fun i σ H2 => Here (∃ v1 xs,σ = [some (.ref h),some (.ref r),some (.ref fl),v1] ∧ H2 fl = some (.lst xs) ∧ All2 TpV H2 (allF ks nds ls rls prs ps rows i) xs ∧ Same H H2)) (Here.mk ⟨none,[],rfl,J9,trivial,Jr nfl _⟩) ?_ ?_
  ·rintro i σ H2 hi hv
   obtain ⟨v1,x0,rfl,hf0,hA0,s0⟩ := hv.out
   have hR : ROk rows (0 + (i : Int)) := ⟨by omega,fun r hr => by have := hrl r hr; omega⟩
   have hq0 := hq.same s0
   have hz0 := s0 _ _ hr1
   have l0 : x0.length ≤ 1400 := by
    have h1 := hA0.len
    have h2 := J8N (nds := nds) (ls := ls) (rows := rows) hp8 hk4 h6 hp2 i
    omega
   walk_at "rd"
   intro D1 G1 y1 t1 nD1 hD1 hB1
   have l1 : y1.length ≤ 8 := by rw [hB1.len]; exact (J5F _ _ _ hp8)
   have hf1' := t1 _ _ hf0
   have kk1 : JO G1 (upd G1 fl (.lst (x0 ++ y1))) := JR hf1'
   have hA1 : All2 TpV (upd G1 fl (.lst (x0 ++ y1))) (allF ks nds ls rls prs ps rows i ++ skF ps rows (0 + (i : Int))) (x0 ++ y1) := All2.app (hA0.imp fun a y => TpV.keeps a y _ _ (t1.keeps.trans kk1)) (hB1.imp fun a y => TpV.keeps a y _ _ kk1)
   have s1 : Same H (upd G1 fl (.lst (x0 ++ y1))) := (s0.trans t1).upd nfl
   have hf1 : (upd G1 fl (.lst (x0 ++ y1))) fl = some (.lst (x0 ++ y1)) := J9
   have hq1 := hq.same s1
   have hz1 := s1 _ _ hr1
   walk_at "rd"
   clear hq0 hz0
   intro D2 G2 y2 t2 nD2 hD2 hB2
   have l2 : y2.length ≤ 8 := by rw [hB2.len]; exact (J5F _ _ _ hp8)
   have hf2' := t2 _ _ hf1
   have kk2 : JO G2 (upd G2 fl (.lst (x0 ++ y1 ++ y2))) := JR hf2'
   have hA2 : All2 TpV (upd G2 fl (.lst (x0 ++ y1 ++ y2))) (allF ks nds ls rls prs ps rows i ++ skF ps rows (0 + (i : Int)) ++ lvF ls ps rows (0 + (i : Int))) (x0 ++ y1 ++ y2) := All2.app (hA1.imp fun a y => TpV.keeps a y _ _ (t2.keeps.trans kk2)) (hB2.imp fun a y => TpV.keeps a y _ _ kk2)
   have s2 : Same H (upd G2 fl (.lst (x0 ++ y1 ++ y2))) := (s1.trans t2).upd nfl
   have hf2 : (upd G2 fl (.lst (x0 ++ y1 ++ y2))) fl = some (.lst (x0 ++ y1 ++ y2)) := J9
   have hq2 := hq.same s2
   have hz2 := s2 _ _ hr1
   walk_at "rd"
   clear hq1 hz1
   intro D3 G3 y3 t3 nD3 hD3 hB3
   have l3 : y3.length ≤ 4 := by rw [hB3.len]; exact (Jd2 hk4)
   have hf3' := t3 _ _ hf2
   have kk3 : JO G3 (upd G3 fl (.lst (x0 ++ y1 ++ y2 ++ y3))) := JR hf3'
   have hA3 : All2 TpV (upd G3 fl (.lst (x0 ++ y1 ++ y2 ++ y3))) (allF ks nds ls rls prs ps rows i ++ skF ps rows (0 + (i : Int)) ++ lvF ls ps rows (0 + (i : Int)) ++ neF ks nds rows (0 + (i : Int))) (x0 ++ y1 ++ y2 ++ y3) := All2.app (hA2.imp fun a y => TpV.keeps a y _ _ (t3.keeps.trans kk3)) (hB3.imp fun a y => TpV.keeps a y _ _ kk3)
   have s3 : Same H (upd G3 fl (.lst (x0 ++ y1 ++ y2 ++ y3))) := (s2.trans t3).upd nfl
   have hf3 : (upd G3 fl (.lst (x0 ++ y1 ++ y2 ++ y3))) fl = some (.lst (x0 ++ y1 ++ y2 ++ y3)) := J9
   have hq3 := hq.same s3
   have hz3 := s3 _ _ hr1
   walk_at "rd"
   clear hq2 hz2
   intro D4 G4 y4 t4 nD4 hD4 hB4
   have l4 : y4.length ≤ 8 := by rw [hB4.len]; exact (J5F _ _ _ hp8)
   have hf4' := t4 _ _ hf3
   have kk4 : JO G4 (upd G4 fl (.lst (x0 ++ y1 ++ y2 ++ y3 ++ y4))) := JR hf4'
   have hA4 : All2 TpV (upd G4 fl (.lst (x0 ++ y1 ++ y2 ++ y3 ++ y4))) (allF ks nds ls rls prs ps rows i ++ skF ps rows (0 + (i : Int)) ++ lvF ls ps rows (0 + (i : Int)) ++ neF ks nds rows (0 + (i : Int)) ++ moF ps rows (0 + (i : Int))) (x0 ++ y1 ++ y2 ++ y3 ++ y4) := All2.app (hA3.imp fun a y => TpV.keeps a y _ _ (t4.keeps.trans kk4)) (hB4.imp fun a y => TpV.keeps a y _ _ kk4)
   have s4 : Same H (upd G4 fl (.lst (x0 ++ y1 ++ y2 ++ y3 ++ y4))) := (s3.trans t4).upd nfl
   have hf4 : (upd G4 fl (.lst (x0 ++ y1 ++ y2 ++ y3 ++ y4))) fl = some (.lst (x0 ++ y1 ++ y2 ++ y3 ++ y4)) := J9
   have hq4 := hq.same s4
   have hRu4 := hRu.imp fun a y => RuT.keeps a y _ _ s4.keeps
   have hz4 := s4 _ _ hr1
   walk_at "rd"
   clear hq3 hz3
   intro D5 G5 y5 t5 nD5 hD5 hB5
   have l5 : y5.length ≤ 64 := by rw [hB5.len]; exact Jbx h6 hp8
   have hf5' := t5 _ _ hf4
   have kk5 : JO G5 (upd G5 fl (.lst (x0 ++ y1 ++ y2 ++ y3 ++ y4 ++ y5))) := JR hf5'
   have hA5 : All2 TpV (upd G5 fl (.lst (x0 ++ y1 ++ y2 ++ y3 ++ y4 ++ y5))) (allF ks nds ls rls prs ps rows i ++ skF ps rows (0 + (i : Int)) ++ lvF ls ps rows (0 + (i : Int)) ++ neF ks nds rows (0 + (i : Int)) ++ moF ps rows (0 + (i : Int)) ++ ruF rls ps rows (0 + (i : Int))) (x0 ++ y1 ++ y2 ++ y3 ++ y4 ++ y5) := All2.app (hA4.imp fun a y => TpV.keeps a y _ _ (t5.keeps.trans kk5)) (hB5.imp fun a y => TpV.keeps a y _ _ kk5)
   have s5 : Same H (upd G5 fl (.lst (x0 ++ y1 ++ y2 ++ y3 ++ y4 ++ y5))) := (s4.trans t5).upd nfl
   have hf5 : (upd G5 fl (.lst (x0 ++ y1 ++ y2 ++ y3 ++ y4 ++ y5))) fl = some (.lst (x0 ++ y1 ++ y2 ++ y3 ++ y4 ++ y5)) := J9
   have hq5 := hq.same s5
   have hPr5 := hPr.imp fun a y => PrT.keeps a y _ _ s5.keeps
   have hz5 := s5 _ _ hr1
   walk_at "rd"
   clear hq4 hz4
   intro D6 G6 y6 t6 nD6 hD6 hB6
   have l6 : y6.length ≤ 8 := by rw [hB6.len]; exact Nat.le_trans (J9f _ _ _ _) hp2
   have hf6' := t6 _ _ hf5
   have kk6 : JO G6 (upd G6 fl (.lst (x0 ++ y1 ++ y2 ++ y3 ++ y4 ++ y5 ++ y6))) := JR hf6'
   have hA6 : All2 TpV (upd G6 fl (.lst (x0 ++ y1 ++ y2 ++ y3 ++ y4 ++ y5 ++ y6))) (allF ks nds ls rls prs ps rows i ++ skF ps rows (0 + (i : Int)) ++ lvF ls ps rows (0 + (i : Int)) ++ neF ks nds rows (0 + (i : Int)) ++ moF ps rows (0 + (i : Int)) ++ ruF rls ps rows (0 + (i : Int)) ++ paF prs rows (0 + (i : Int))) (x0 ++ y1 ++ y2 ++ y3 ++ y4 ++ y5 ++ y6) := All2.app (hA5.imp fun a y => TpV.keeps a y _ _ (t6.keeps.trans kk6)) (hB6.imp fun a y => TpV.keeps a y _ _ kk6)
   have s6 : Same H (upd G6 fl (.lst (x0 ++ y1 ++ y2 ++ y3 ++ y4 ++ y5 ++ y6))) := (s5.trans t6).upd nfl
   have hf6 : (upd G6 fl (.lst (x0 ++ y1 ++ y2 ++ y3 ++ y4 ++ y5 ++ y6))) fl = some (.lst (x0 ++ y1 ++ y2 ++ y3 ++ y4 ++ y5 ++ y6)) := J9
   have hq6 := hq.same s6
   have hz6 := s6 _ _ hr1
   walk_at "rd"
   clear hq5 hz5
   refine Here.mk ⟨_,_,rfl,J9,?_,s6⟩
   have e : allF ks nds ls rls prs ps rows (i + 1) = allF ks nds ls rls prs ps rows i ++ skF ps rows (0 + (i : Int)) ++ lvF ls ps rows (0 + (i : Int)) ++ neF ks nds rows (0 + (i : Int)) ++ moF ps rows (0 + (i : Int)) ++ ruF rls ps rows (0 + (i : Int)) ++ paF prs rows (0 + (i : Int)) := by
    rw [allF,dayF]
    simp only [List.append_assoc]
   rw [e]
   exact hA6
  ·rintro σ H2 hv
   obtain ⟨v1,x0,rfl,hf0,hA0,s0⟩ := hv.out
   walk_at "rd"
   exact q fl H2 x0 s0 nfl hf0 hA0
end
section
variable {P : Program} {w : World} {K : PySem.W.Frag} {mg : Str → Option Value} {base : Heap} {J8 Jb J7 Ja J3 Jh J2 J1 : Addr}
theorem J2A (tx : Tx K mg J8 Jb J7 Ja J3 Jh J2 J1) : FnG P w K mg base "_law_cell_at" 1 ["_law_script","_law_k"] (JcM K) := by
 refine tx.J7p.g J6O (fun _ _ _ _ _ _ us hl => match us,hl with | [_,_],_ => rfl) (fun vs H Q E h => ?_) (fun f cdv A outer s H vs Q E hr h => ?_)
 ·obtain ⟨a,ns,k,rfl,_⟩ := h
  rfl
 ·obtain ⟨a,ns,k,rfl,hS,h0,q⟩ := h
  refine ⟨_,(J5 (J01 (Jl Jal (pv 1) (Jt (JC (K := K) rfl) rfl tx.J0c PySem.boot_len (J0 (pv 0) J6)) (Jq _)) (Jc (Jp (JE (JG (K := K) rfl) (pv 0) (pv 1) (fun _ _ => rfl)))) JA)
   (Jc (Jp Jd))),?_⟩
  walk_at "st"
  walk_at "rd"
  refine ite2 (fun c => ?_) (fun c => ?_)
  ·have c' : k < ((ns.map V.int).length : Int) := of_decide_eq_true c
   rw [List.length_map] at c'
   have hv := Jdb h0 c'
   walk_at "rd"
   exact q
  ·have c' : ¬ k < ((ns.map V.int).length : Int) := of_decide_eq_false (Bool.eq_false_iff.mpr c)
   rw [List.length_map] at c'
   walk_at "rd"
   rw [JdL (by omega)] at q
   exact q
theorem J2k (tx : Tx K mg J8 Jb J7 Ja J3 Jh J2 J1) : FnG P w K mg base "_law_stream" 1 ["_law_cell","_law_many"] JaG := by
 refine tx.J8s.g J1T (fun _ _ _ _ _ _ us hl => match us,hl with | [_,_],_ => rfl) (fun vs H Q E h => ?_) (fun f cdv A outer s H vs Q E hr h => ?_)
 ·obtain ⟨c,m,rfl,_⟩ := h
  rfl
 ·obtain ⟨c,m,rfl,h0,h1,q⟩ := h
  refine ⟨_,(J5 (Jj (i := 2) J1T.nd rfl (Or.inl rfl) (J17 J6))
   (J5 (Jj (i := 3) J1T.nd rfl (Or.inl rfl) (Jf JL (Jf JF (pv 0) Jd) Jd))
   (J5 (J0l PassesOwn.never rfl (JW rfl tx.JY (J0 (Jf JL (pv 1) Jd) J6)) (Jo (i := 4) J1T.nd rfl (Or.inl rfl)) (J5 (Jj (i := 3) J1T.nd rfl (Or.inl rfl) (Jf JF (Jf JL (Jf JL (Jf J2y (pv 3) (pv 3)) (Jf J2y Jd (pv 3))) (pv 4)) Jd))
   (Jc (J1O (J3k PySem.F.plainAttrs_list PySem.F.slot_list_append PySem.F.type_list_append J09 (pv 2) (J0 (pv 3) J6))))))
   (Jc (Jp (J0e (J6W (K := K) rfl) (pv 2) (J0q Jd) J15)))))),?_⟩
  walk_at "st"
  have b0 : 0 ≤ c % 2147483647 := Int.emod_nonneg _ (by decide)
  have b1 : c % 2147483647 < 2147483647 := Int.emod_lt_of_pos _ (by decide)
  walk_at "rd"
  intro p hp
  walk_at "rd"
  refine J0I (n := (m + 1).toNat) (fun i σ H2 => Here (∃ (n : Int) (v : Option V) (ys : List Int),σ = [some (.int c),some (.int m),some (.ref p),some (.int n),v] ∧ 0 ≤ n ∧ n < 2147600000 ∧ ys.length = i ∧ H2 p = some (.lst (ys.map V.int)) ∧ Same H H2))
   (Here.mk ⟨_,none,[],rfl,by omega,by omega,rfl,J9,Jr hp _⟩) ?_ ?_
  ·rintro i σ H2 hi hv
   obtain ⟨n,v,ys,rfl,hn0,hn1,hy,hpp,hs⟩ := hv.out
   have z0 : 0 ≤ (n * n + 48271 * n + (0 + (i : Int))) % 2147483647 := Int.emod_nonneg _ (by decide)
   have z1 : (n * n + 48271 * n + (0 + (i : Int))) % 2147483647 < 2147483647 := Int.emod_lt_of_pos _ (by decide)
   have hl : (ys.map V.int).length ≤ 1000 := by rw [List.length_map]; omega
   walk_at "rd"
   refine Here.mk ⟨_,_,ys ++ [(n * n + 48271 * n + (0 + (i : Int))) % 2147483647],rfl,z0,by omega,?_,?_,hs.upd hp⟩
   ·rw [List.length_append,List.length_singleton,hy]
   ·rw [J9,List.map_append]
    rfl
  ·rintro σ H2 hv
   obtain ⟨n,v,ys,rfl,hn0,hn1,hy,hpp,hs⟩ := hv.out
   walk_at "rd"
   intro r hr'
   refine q r _ (ys.drop 1) (hs.trans (Jr hr' _)) (hs.free hr') ?_ ?_
   ·rw [J9]
    have e : cutV (ys.map V.int) (some 1) none = (ys.drop 1).map V.int := by
     rw [List.map_drop]
     exact J73 (ys.map V.int) 1 (by decide)
    rw [e]
   ·rw [List.length_drop,hy]
    omega
theorem J9P (tx : Tx K mg J8 Jb J7 Ja J3 Jh J2 J1) : FnG P w K mg base "_law_kinds" 1 ["_law_cell"] JcH := by
 refine tx.J9E.g J3B (fun _ _ _ _ _ _ us hl => match us,hl with | [_],_ => rfl) (fun vs H Q E h => ?_) (fun f cdv A outer s H vs Q E hr h => ?_)
 ·obtain ⟨c,rfl,_⟩ := h
  rfl
 ·obtain ⟨c,rfl,q⟩ := h
  refine ⟨_,(J5 (Jj (i := 1) J3B.nd rfl (Or.inr rfl) (Jv (l := [65,66,67,68,69,70,71,72,73,74,75,76,77,78,79,80,81,82,83,84,85,86,87,88,89,90]) (by decide +kernel)))
   (J5 (Jj (i := 2) J3B.nd rfl (Or.inl rfl) (Jf JL Jd (Jf JF (pv 0) Jd)))
   (Jc (Jp (J43 (K := K) rfl (Jv (l := []) (by decide +kernel)) (J0 (J05 (osc := J4 J1w) (ON := ["_law_cell","_law_some_here","_law_many"]) (N := ["_law_k","_law_some_here","_law_cell"]) (js := [none,some 1,some 0]) ⟨rfl,by decide +kernel,by decide +kernel,by decide +kernel,rfl,by decide +kernel⟩ rfl rfl rfl (JW rfl tx.JY (J0 (pv 2) J6)) (fun _ _ _ _ _ => Jo (i := 0) (show List.Nodup (["_law_k","_law_some_here","_law_cell"] : List Str) from by decide +kernel) rfl (Or.inl rfl)) (fun _ _ _ _ _ => J1X) (fun _ _ _ _ _ => (JE J0V (pv 1) (Jf JF (Jf JL (Jf JQ (pv 2) Jd) (Jf J2y (pv 0) (Jf JL Jd (Jf JF (Jf JQ (pv 2) Jd) Jd)))) Jd) (fun _ _ => rfl)))) J6)))))),?_⟩
  walk_at "st"
  have h0 : 0 ≤ c % 4 := Int.emod_nonneg _ (by decide)
  have h1 : c % 4 < 4 := Int.emod_lt_of_pos _ (by decide)
  walk_at "rd"
  refine J7i (onI fun i => cap ((c / 4 + i * (1 + c / 104 % 6)) % 26)) (J2c 0 (1 + c % 4).toNat) ?_ (fun x hx H' s' R hR => ?_) (fun D H2 hD s2 hDD => ?_)
  ·rw [List.length_map,List.length_range]; omega
  ·obtain ⟨k,hk,rfl⟩ := List.mem_map.mp hx
   have hk := List.mem_range.mp hk
   have ha := Jfp ((c / 4 + (0 + (k : Int)) * (1 + c / 104 % 6)) % 26) (Int.emod_nonneg _ (by decide)) (Int.emod_lt_of_pos _ (by decide))
   walk_at "rd"
   exact hR H' (Same.refl _)
  rw [J9W _ (fun i => cap ((c / 4 + i * (1 + c / 104 % 6)) % 26))] at hDD
  refine ⟨[],_,D,rfl,rfl,SqL.of hDD,?_,?_⟩
  ·rw [J3x,List.length_map,List.length_nil,Nat.mul_zero,List.length_range]
   omega
  rw [J2V,J2Y]
  exact q H2 s2
theorem JaQ (tx : Tx K mg J8 Jb J7 Ja J3 Jh J2 J1) : FnG P w K mg base "_law_name" 1 ["_law_cell","_law_p"] Jec := by
 refine tx.JaL.g J2F (fun _ _ _ _ _ _ us hl => match us,hl with | [_,_],_ => rfl) (fun vs H Q E h => ?_) (fun f cdv A outer s H vs Q E hr h => ?_)
 ·obtain ⟨c,p,rfl,_⟩ := h
  rfl
 ·obtain ⟨c,p,rfl,q⟩ := h
  refine ⟨_,(J5 (Jj (i := 2) J2F.nd rfl (Or.inr rfl) (Jv (l := [97,98,99,100,101,102,103,104,105,106,107,108,109,110,111,112,113,114,115,116,117,118,119,120,121,122]) (by decide +kernel)))
   (J5 (Jj (i := 3) J2F.nd rfl (Or.inl rfl) (J43 (K := K) rfl (Jv (l := []) (by decide +kernel)) (J0 (J05 (osc := J4 J20) (ON := ["_law_cell","_law_p","_law_some_here","_law_body","_law_at","_law_name_here"]) (N := ["_law_k","_law_some_here","_law_cell"]) (js := [none,some 2,some 0]) ⟨rfl,by decide +kernel,by decide +kernel,by decide +kernel,rfl,by decide +kernel⟩ rfl rfl rfl (JW rfl tx.JY (J0 (Jf JF (Jf JQ (pv 0) Jd) Jd) J6)) (fun _ _ _ _ _ => Jo (i := 0) (show List.Nodup (["_law_k","_law_some_here","_law_cell"] : List Str) from by decide +kernel) rfl (Or.inl rfl)) (fun _ _ _ _ _ => J1X) (fun _ _ _ _ _ => (JE J0V (pv 1) (Jf JF (Jf JQ (pv 2) (Jf JL Jd (Jf J2y Jd (pv 0)))) Jd) (fun _ _ => rfl)))) J6)))
   (J5 (Jj (i := 4) J2F.nd rfl (Or.inl rfl) (Jf JF (Jf JQ (pv 0) Jd) (Jf JL (Jt J03 rfl tx.J0c PySem.boot_len (J0 (pv 3) J6)) Jd)))
   (J5 (Jj (i := 5) J2F.nd rfl (Or.inl rfl) (Jf J0F (Jf J0F (J0e J2N (pv 3) J15 (J0q (pv 4))) (JE J0V (pv 2) (Jf JF (Jf JL (pv 0) (pv 1)) Jd) (fun _ _ => rfl))) (J0e J2N (pv 3) (J0q (pv 4)) J15)))
   (J5 (J01 (Jl J0f (pv 5) (Jv (l := [97,108,108]) (by decide +kernel)) (Jq _)) (Jc (Jp (Jv (l := [97,108,108,101]) (by decide +kernel)))) JA)
   (Jc (Jp (pv 5)))))))),?_⟩
  walk_at "st"
  have h0 : 0 ≤ c / 3 % 8 := Int.emod_nonneg _ (by decide)
  have h1 : c / 3 % 8 < 8 := Int.emod_lt_of_pos _ (by decide)
  walk_at "rd"
  refine J7i (onI fun i => ltr (c / (16 + 5 * i) % 26)) (J2c 0 (c / 3 % 8).toNat) ?_ (fun x hx H' s' R hR => ?_) (fun D H2 hD s2 hDD => ?_)
  ·rw [List.length_map,List.length_range]; omega
  ·obtain ⟨k,hk,rfl⟩ := List.mem_map.mp hx
   have hk := List.mem_range.mp hk
   have ha := Je0 (c / (16 + 5 * (0 + (k : Int))) % 26) (Int.emod_nonneg _ (by decide)) (Int.emod_lt_of_pos _ (by decide))
   walk_at "rd"
   exact hR H' (Same.refl _)
  rw [J9W _ (fun i => ltr (c / (16 + 5 * i) % 26))] at hDD
  refine ⟨[],_,D,rfl,rfl,SqL.of hDD,?_,?_⟩
  ·rw [J3x,List.length_map,List.length_nil,Nat.mul_zero,List.length_range]
   omega
  rw [J2V,J2Y]
  have hb := Jcp c
  have c1 := J2B (J3P c) none (some (c / 7 % ((J3P c).length + 1)))
  have c2 := J2B (J3P c) (some (c / 7 % ((J3P c).length + 1))) none
  have ha := Je0 ((c + p) % 26) (Int.emod_nonneg _ (by decide)) (Int.emod_lt_of_pos _ (by decide))
  have q' := q H2 s2
  clear q h0 h1 hD hDD s2
  show J3w _ (T (J3P c)) _ _ _
  unfold J4v at q'
  unfold J37 at q'
  generalize J3P c = b at hb c1 c2 q' ⊢
  walk_at "rd"
  refine ite2 (fun e => ?_) (fun e => ?_)
  ·have e' := J2p (of_decide_eq_true e)
   rw [if_pos e'] at q'
   walk_at "rd"
   exact q'
  ·have e' : ¬ cutN b none (some (c / 7 % ((b.length : Int) + 1))) ++ [ltr ((c + p) % 26)] ++ cutN b (some (c / 7 % ((b.length : Int) + 1))) none = [97,108,108] := fun z => e (decide_eq_true (by rw [z]))
   rw [if_neg e'] at q'
   walk_at "rd"
   exact q'
theorem JaC (tx : Tx K mg J8 Jb J7 Ja J3 Jh J2 J1) : FnG P w K mg base "_law_some" 1 ["_law_signs","_law_number"] Jeh := by
 refine tx.JaU.g J5N (fun _ _ _ _ _ _ us hl => match us,hl with | [_,_],_ => rfl) (fun vs H Q E h => ?_) (fun f cdv A outer s H vs Q E hr h => ?_)
 ·obtain ⟨l,n,rfl,_⟩ := h
  rfl
 ·obtain ⟨l,n,rfl,hl,q⟩ := h
  refine ⟨_,(J5 (Jj (i := 2) J5N.nd rfl (Or.inl rfl) (J43 (K := K) rfl (Jv (l := []) (by decide +kernel)) (J0 (J05 (osc := J4 J21) (ON := ["_law_signs","_law_number","_law_found"]) (N := ["_law_k","_law_signs","_law_number"]) (js := [none,some 0,some 1]) ⟨rfl,by decide +kernel,by decide +kernel,by decide +kernel,rfl,by decide +kernel⟩ rfl rfl rfl (JW rfl tx.JY (J0 (Jt J03 rfl tx.J0c PySem.boot_len (J0 (pv 0) J6)) J6)) (fun _ _ _ _ _ => Jo (i := 0) (show List.Nodup (["_law_k","_law_signs","_law_number"] : List Str) from by decide +kernel) rfl (Or.inl rfl)) (fun _ _ _ _ _ => J06 (Jl J0f (Jf J8M (Jf J9i (pv 2) (pv 0)) Jd) Jd (Jq _))) (fun _ _ _ _ _ => (JE J0V (pv 1) (pv 0) (fun _ _ => rfl)))) J6)))
   (J5 (J01 (Jl J0f (Jf J8M (Jf J9i (pv 1) (Jt J03 rfl tx.J0c PySem.boot_len (J0 (pv 0) J6))) Jd) Jd (Jq _)) (Jc (Jp (Jg1 (pv 2) (Jf1 JdA Jd)))) JA)
   (Jc (Jp (pv 2))))),?_⟩
  walk_at "st"
  walk_at "rd"
  refine J0b ((List.range l.length).map fun (i : Nat) => (0 + (i : Int))) (fun i => decide (V.int (Builtin.bitAnd (n / 2 ^ i.toNat) 1) = V.int 1)) (fun _ y _ => ∃ c,y = T [c]) (fun σ => ∃ v,σ = [v,some (T l),some (.int n)]) (J2c 0 l.length) ?_ ?_ ⟨_,rfl⟩ (fun _ _ _ _ _ z => z) (fun i a v σ H' ha hv hσ s' Rf Rt hF hR => ?_) (fun D H2 ys hD s2 hys hDD => ?_)
  ·rw [List.length_map,List.length_map]
  ·rw [List.length_map,List.length_range]; omega
  ·obtain ⟨w,rfl⟩ := hσ
   rw [List.getElem?_map] at ha hv
   have hi : i < l.length := by
    cases e : (List.range l.length)[i]? with
    | none => rw [e] at ha; cases ha
    | some j => have := (List.getElem?_eq_some_iff.mp e).1; rw [List.length_range] at this; exact this
   rw [List.getElem?_range hi] at ha hv
   cases ha
   cases hv
   obtain ⟨c,hc,_⟩ := J2E l (0 + (i : Int)) (by omega) (by omega)
   have i0 : (0 : Int) ≤ 0 + (i : Int) := by omega
   walk_at "rd"
   refine ite2 (fun e => ?_) (fun e => ?_)
   ·walk_at "rd"
    exact hR _ _ _ e ⟨_,rfl⟩ (Same.refl _) ⟨c,rfl⟩
   ·exact hF _ _ (Bool.eq_false_iff.mpr e) ⟨_,rfl⟩ (Same.refl _)
  have hlen := hys.len
  have hfl := List.length_filter_le (fun i : Int => decide (V.int (Builtin.bitAnd (n / 2 ^ i.toNat) 1) = V.int 1)) ((List.range l.length).map fun (i : Nat) => (0 + (i : Int)))
  rw [List.length_map,List.length_range] at hfl
  obtain ⟨cs,rfl,hcs⟩ := J77 (ys := ys) fun y hy => by
   obtain ⟨i,hi,rfl⟩ := List.mem_iff_getElem.mp hy
   obtain ⟨a,_,h⟩ := hys.back (List.getElem?_eq_getElem hi)
   exact h
  have hjl : (((cs.map fun c => [c]).map List.length).sum + (cs.map fun c => [c]).length * ([] : List Nat).length ≤ 16777216) := by
   rw [J3x,List.length_map,List.length_nil,Nat.mul_zero]
   omega
  have hD3 : SqL K H2 D ((cs.map fun c => [c]).map T) := SqL.of hDD
  have l0 : (0 : Int) ≤ (l.length : Int) := by omega
  walk_at "rd"
  rw [J2V,J2Y]
  walk_at "rd"
  have hcs' : cs.length ≤ l.length := by omega
  have hcs2 : cs.length ≤ 1000 := by omega
  refine ite2 (fun e => ?_) (fun e => ?_)
  ·walk_at "rd"
   exact q cs.reverse H2 s2 (by rw [List.length_reverse]; exact hcs')
  ·walk_at "rd"
   exact q cs H2 s2 hcs'
end
noncomputable def inKs (ks row : List Nat) : Prop := ∀ x ∈ row,x = 45 ∨ x ∈ ks
noncomputable def Jb0 (K : PySem.W.Frag) : Sp := fun vs H Q _ => ∃ (a : Addr) (ns : List Int) (m d : Int) (ks : List Nat),vs = [.ref a,.int m,.int d,T ks] ∧ SqL K H a (ns.map V.int) ∧ 1 ≤ m ∧ m ≤ 6 ∧ 1 ≤ d ∧ d ≤ 10 ∧ 1 ≤ ks.length ∧ ks.length ≤ 4 ∧
 ∀ (r : Addr) (H' : Hp) (rows : List (List Nat)),Same H H' → H r = none → H' r = some (.lst (rows.map T)) → (rows.length : Int) = m → (∀ row ∈ rows,(row.length : Int) = d ∧ inKs ks row) → Q (.ref r) H'
noncomputable def Jfl : Sp := fun vs H Q _ => ∃ (r : Addr) (d : Int) (ks : List Nat) (c : Int) (sl : Addr) (rows : List (List Nat)),vs = [.ref r,.int d,T ks,.int c,.ref sl] ∧ H r = some (.lst (rows.map T)) ∧ H sl = some (.lst ((List.range d.toNat).map fun (i : Nat) => V.int (i : Int))) ∧ 1 ≤ d ∧ d ≤ 10 ∧ ks.length ≤ 4 ∧ ks.Nodup ∧ rows.length ≤ 6 ∧ (∀ row ∈ rows,(row.length : Int) = d) ∧
 ∀ (a : Addr) (H' : Hp) (nds : List Nd) (xs : List V),Same H H' → H a = none → H' a = some (.lst xs) → All2 NdAt H' nds xs → xs.length ≤ 40 → (∀ e < d.toNat,∀ k ∈ ks,neB nds rows (e : Int) k = false) → Q (.ref a) H'
theorem J8P (c : Int) : (J3H c).Nodup := by
 unfold J3H
 rw [List.nodup_iff_pairwise_ne,List.pairwise_map]
 have h0 : 0 ≤ c % 4 := Int.emod_nonneg _ (by decide)
 have h1 : c % 4 < 4 := Int.emod_lt_of_pos _ (by decide)
 refine List.Pairwise.imp_of_mem ?_ (List.pairwise_lt_range (n := (1 + c % 4).toNat))
 intro a b ha hb hab e
 have ha := List.mem_range.mp ha
 have hb := List.mem_range.mp hb
 unfold cap at e
 generalize hs : 1 + c / 104 % 6 = s at e
 have s0 : 1 ≤ s := by omega
 have s1 : s ≤ 6 := by omega
 have a0 : 0 ≤ (c / 4 + (0 + (a : Int)) * s) % 26 := Int.emod_nonneg _ (by decide)
 have b0 : 0 ≤ (c / 4 + (0 + (b : Int)) * s) % 26 := Int.emod_nonneg _ (by decide)
 have e' : (c / 4 + (0 + (a : Int)) * s) % 26 = (c / 4 + (0 + (b : Int)) * s) % 26 := by omega
 have ab : a < 4 ∧ b < 4 := by omega
 obtain ⟨k,hk⟩ : ∃ k : Nat,b = a + k ∧ 1 ≤ k ∧ k ≤ 3 := ⟨b - a,by omega,by omega,by omega⟩
 obtain ⟨rfl,k1,k3⟩ := hk
 have ex : (0 + ((a + k : Nat) : Int)) * s = (0 + (a : Int)) * s + (k : Int) * s := by rw [Int.zero_add,Int.zero_add,Int.natCast_add,Int.add_mul]
 rw [ex] at e'
 generalize (0 + (a : Int)) * s = y at e'
 have kk : k = 1 ∨ k = 2 ∨ k = 3 := by omega
 rcases kk with rfl | rfl | rfl <;> omega
theorem J9h {nds : List Nd} {e : Nd} {d : Int} {k : Nat} (h : ¬ (e.day = d ∧ e.kind = k)) : J0k (nds ++ [e]) d k = J0k nds d k := by
 induction nds with
 | nil => show J0k [e] d k = (0,0); unfold J0k; rw [if_neg h]; rfl
 | cons n r ih =>
  show J0k (n :: (r ++ [e])) d k = J0k (n :: r) d k
  unfold J0k
  split
  ·rfl
  ·exact ih
theorem J7N {nds : List Nd} {e : Nd} (h : ∀ n ∈ nds,¬ (n.day = e.day ∧ n.kind = e.kind)) : J0k (nds ++ [e]) e.day e.kind = (e.least,e.most) := by
 induction nds with
 | nil => show J0k [e] e.day e.kind = _; unfold J0k; rw [if_pos ⟨rfl,rfl⟩]
 | cons n r ih =>
  show J0k (n :: (r ++ [e])) e.day e.kind = _
  unfold J0k
  rw [if_neg (h n List.mem_cons_self)]
  exact ih fun m hm => h m (List.mem_cons_of_mem _ hm)
theorem Je2 {nds : List Nd} {d : Int} {k : Nat} (h : ∀ n ∈ nds,¬ (n.day = d ∧ n.kind = k)) : J0k nds d k = (0,0) := by
 induction nds with
 | nil => rfl
 | cons n r ih =>
  unfold J0k
  rw [if_neg (h n List.mem_cons_self)]
  exact ih fun m hm => h m (List.mem_cons_of_mem _ hm)
noncomputable def Met (ks : List Nat) (i j : Nat) (d : Int) (k : Nat) : Prop := (0 ≤ d ∧ d < (i : Int) ∧ k ∈ ks) ∨ (d = (i : Int) ∧ k ∈ ks.take j)
structure NInv (rows : List (List Nat)) (ks : List Nat) (i j : Nat) (nds : List Nd) : Prop where
 mem : ∀ n ∈ nds,Met ks i j n.day n.kind
 ok : ∀ (d : Nat) (k : Nat),Met ks i j (d : Int) k → neB nds rows (d : Int) k = false
theorem Met.succ {ks : List Nat} {i j : Nat} {d : Int} {k0 k : Nat} (hk : ks[j]? = some k0) : Met ks i (j + 1) d k ↔ Met ks i j d k ∨ (d = (i : Int) ∧ k = k0) := by
 unfold Met
 rw [List.take_add_one,hk]
 simp only [List.mem_append,Option.toList_some,List.mem_singleton]
 constructor
 ·rintro (h | ⟨h1,h2 | h2⟩)
  ·exact .inl (.inl h)
  ·exact .inl (.inr ⟨h1,h2⟩)
  ·exact .inr ⟨h1,h2⟩
 ·rintro ((h | h) | h)
  ·exact .inl h
  ·exact .inr ⟨h.1,.inl h.2⟩
  ·exact .inr ⟨h.1,.inr h.2⟩
theorem Met.new {ks : List Nat} (hn : ks.Nodup) {i j : Nat} {k0 : Nat} (hk : ks[j]? = some k0) : ¬ Met ks i j (i : Int) k0 := by
 rintro (⟨_,h,_⟩ | ⟨_,h⟩)
 ·omega
 ·obtain ⟨a,ha⟩ := List.getElem?_of_mem h
  rw [List.getElem?_take] at ha
  split at ha
  ·rename_i hlt
   have h1 := (List.getElem?_eq_some_iff.mp ha).1
   have h2 := (List.getElem?_eq_some_iff.mp hk).1
   have e1 := (List.getElem?_eq_some_iff.mp ha).2
   have e2 := (List.getElem?_eq_some_iff.mp hk).2
   exact absurd (e1.trans e2.symm) ((List.pairwise_iff_getElem.mp hn) a j h1 h2 hlt)
  ·cases ha
theorem NInv.put {rows : List (List Nat)} {ks : List Nat} {i j : Nat} {nds : List Nd} {k0 : Nat} (x : NInv rows ks i j nds) (hn : ks.Nodup) (hk : ks[j]? = some k0) {l m : Int} (h1 : l ≤ (cntF rows (i : Int) k0 : Int)) (h2 : (cntF rows (i : Int) k0 : Int) ≤ m) : NInv rows ks i (j + 1) (nds ++ [⟨(i : Int),k0,l,m⟩]) := by
 refine ⟨fun n hm => ?_,fun d k hd => ?_⟩
 ·rw [Met.succ hk]
  rcases List.mem_append.mp hm with z | z
  ·exact .inl (x.mem n z)
  ·rw [List.mem_singleton.mp z]
   exact .inr ⟨rfl,rfl⟩
 ·rw [Met.succ hk] at hd
  rcases hd with hd | ⟨e1,e2⟩
  ·have ne : ¬ ((⟨(i : Int),k0,l,m⟩ : Nd).day = (d : Int) ∧ (⟨(i : Int),k0,l,m⟩ : Nd).kind = k) := fun z => by
    have z1 : (i : Int) = (d : Int) := z.1
    have z2 : k0 = k := z.2
    rw [← z1,← z2] at hd
    exact Met.new hn hk hd
   have := x.ok d k hd
   unfold neB at this ⊢
   rw [J9h ne]
   exact this
  ·have hd' : d = i := by omega
   subst hd' e2
   unfold neB
   rw [J7N (e := ⟨(d : Int),k,l,m⟩) fun n hm z => Met.new hn hk (by have := x.mem n hm; rw [z.1,z.2] at this; exact this)]
   show (decide ((cntF rows (d : Int) k : Int) < l) || decide (m < (cntF rows (d : Int) k : Int))) = false
   rw [decide_eq_false (by omega),decide_eq_false (by omega)]
   rfl
theorem NInv.skip {rows : List (List Nat)} {ks : List Nat} {i j : Nat} {nds : List Nd} {k0 : Nat} (x : NInv rows ks i j nds) (hn : ks.Nodup) (hk : ks[j]? = some k0) (h : cntF rows (i : Int) k0 = 0) : NInv rows ks i (j + 1) nds := by
 refine ⟨fun n hm => (Met.succ hk).mpr (.inl (x.mem n hm)),fun d k hd => ?_⟩
 rw [Met.succ hk] at hd
 rcases hd with hd | ⟨e1,e2⟩
 ·exact x.ok d k hd
 ·have hd' : d = i := by omega
  subst hd' e2
  unfold neB
  rw [Je2 fun n hm z => Met.new hn hk (by have := x.mem n hm; rw [z.1,z.2] at this; exact this),h]
  rfl
theorem NInv.day {rows : List (List Nat)} {ks : List Nat} {i : Nat} {nds : List Nd} (x : NInv rows ks i ks.length nds) : NInv rows ks (i + 1) 0 nds := by
 have e : ∀ (d : Int) (k : Nat),Met ks (i + 1) 0 d k ↔ Met ks i ks.length d k := fun d k => by
  unfold Met
  rw [List.take_zero,List.take_length]
  constructor
  ·rintro (⟨h0,h1,h2⟩ | ⟨_,h⟩)
   ·by_cases z : d = (i : Int)
    ·exact .inr ⟨z,h2⟩
    ·exact .inl ⟨h0,by omega,h2⟩
   ·cases h
  ·rintro (⟨h0,h1,h2⟩ | ⟨h1,h2⟩)
   ·exact .inl ⟨h0,by omega,h2⟩
   ·exact .inl ⟨by omega,by omega,h2⟩
 exact ⟨fun n hm => (e _ _).mpr (x.mem n hm),fun d k hd => x.ok d k ((e _ _).mp hd)⟩
section
variable {P : Program} {w : World} {K : PySem.W.Frag} {mg : Str → Option Value} {base : Heap} {J8 Jb J7 Ja J3 Jh J2 J1 : Addr}
theorem J7t (tx : Tx K mg J8 Jb J7 Ja J3 Jh J2 J1) : FnG P w K mg base "_law_planted" 2 ["_law_script","_law_many","_law_days","_law_kinds_here"] (Jb0 K) := by
 have JU := J2k (P := P) (w := w) (base := base) tx
 have Ju := J2A (P := P) (w := w) (base := base) tx
 refine tx.J7v.g J00 (fun _ _ _ _ _ _ us hl => match us,hl with | [_,_,_,_],_ => rfl) (fun vs H Q E h => ?_) (fun f cdv A outer s H vs Q E hr h => ?_)
 ·obtain ⟨a,ns,m,d,ks,rfl,_⟩ := h
  rfl
 ·obtain ⟨a,ns,m,d,ks,rfl,hS,m0,m1,d0,d1,l0,l1,q⟩ := h
  refine ⟨_,(J5 (Jj (i := 4) J00.nd rfl (Or.inl rfl) (Jf J0F (Jv (l := [45]) (by decide +kernel)) (pv 3)))
   (J5 (Jj (i := 5) J00.nd rfl (Or.inl rfl) (Jw JU (hr.mono (by decide)) (J0 (Jw Ju (hr.mono (by decide)) (J0 (pv 0) (J0 Jd J6))) (J0 (Jf J2y (pv 1) (pv 2)) J6))))
   (J5 (Jj (i := 6) J00.nd rfl (Or.inl rfl) (J17 J6))
   (J5 (J0l PassesOwn.never rfl (JW rfl tx.JY (J0 (pv 1) J6)) (Jo (i := 7) J00.nd rfl (Or.inl rfl)) (J5 (Jj (i := 8) J00.nd rfl (Or.inl rfl) (Jv (l := []) (by decide +kernel)))
   (J5 (J0l PassesOwn.never rfl (JW rfl tx.JY (J0 (pv 2) J6)) (Jo (i := 9) J00.nd rfl (Or.inl rfl)) (J5 (Jj (i := 10) J00.nd rfl (Or.inl rfl) (Jf JL (JE (JG (K := K) rfl) (pv 5) (Jf JL (Jf J2y (pv 7) (pv 2)) (pv 9)) (fun _ _ => rfl)) (Jw Ju (hr.mono (by decide)) (J0 (pv 0) (J0 (Jf JL (Jf JL Jd (Jf J2y (pv 7) (pv 2))) (pv 9)) J6)))))
   (Jc (Jj (i := 8) J00.nd rfl (Or.inl rfl) (Jf J0F (pv 8) (JE J0V (pv 4) (Jf JF (pv 10) (Jt J03 rfl tx.J0c PySem.boot_len (J0 (pv 4) J6))) (fun _ _ => rfl)))))))
   (Jc (J1O (J3k PySem.F.plainAttrs_list PySem.F.slot_list_append PySem.F.type_list_append J09 (pv 6) (J0 (pv 8) J6)))))))
   (Jc (Jp (pv 6))))))),?_⟩
  walk_at "st"
  have md0 : 0 ≤ m * d := Int.mul_nonneg (by omega) (by omega)
  have md1 : m * d ≤ 60 := by
   have := Int.mul_le_mul m1 d1 (by omega) (by decide)
   omega
  walk_at "rd"
  intro nl H1 xs s1 nnl hn hxs
  walk_at "rd"
  intro rl hrl
  obtain ⟨H2,e2,hrl2,s2⟩ := newl (xs := []) hrl
  rw [← e2]
  clear e2
  have fr : H rl = none := s1.free hrl
  have hn2 := s2 _ _ hn
  have nnr : nl ≠ rl := Je hn hrl
  walk_at "rd"
  refine J0I (n := m.toNat) (fun i σ H3 => Here (∃ (v1 v2 v3 v4 : Option V) (rows : List (List Nat)),σ = [some (.ref a),some (.int m),some (.int d),some (T ks),some (T ([45] ++ ks)),some (.ref nl),some (.ref rl),v1,v2,v3,v4] ∧ rows.length = i ∧ (∀ row ∈ rows,(row.length : Int) = d ∧ inKs ks row) ∧ H3 rl = some (.lst (rows.map T)) ∧ H3 nl = some (.lst (xs.map V.int)) ∧ Same H H3))
   (Here.mk ⟨none,none,none,none,[],rfl,rfl,fun r hr => absurd hr List.not_mem_nil,hrl2,hn2,s1.trans s2⟩) ?_ ?_
  ·rintro i σ H3 hi hv
   obtain ⟨v1,v2,v3,v4,rows,rfl,hl,hrows,h3r,h3n,s3⟩ := hv.out
   have hS3 := s3.seq hS
   have hlen : (rows.map T).length ≤ 100 := by rw [List.length_map]; omega
   walk_at "rd"
   refine J0I (n := d.toNat) (fun j σ H4 => Here (∃ (v3 v4 : Option V) (row : List Nat),σ = [some (.ref a),some (.int m),some (.int d),some (T ks),some (T ([45] ++ ks)),some (.ref nl),some (.ref rl),some (.int (0 + (i : Int))),some (T row),v3,v4] ∧ row.length = j ∧ inKs ks row ∧ H4 = H3))
    (Here.mk ⟨_,_,[],rfl,rfl,fun x hx => absurd hx List.not_mem_nil,rfl⟩) ?_ ?_
   ·rintro j σ H4 hj hv
    obtain ⟨v3,v4,row,rfl,hrl4,hin,eH⟩ := hv.out
    rw [eH]
    have hm2 : ((i : Int) + 1) * d ≤ m * d := Int.mul_le_mul_of_nonneg_right (by omega) (by omega)
    rw [Int.add_mul,Int.one_mul] at hm2
    have hid : 0 ≤ (i : Int) * d := Int.mul_nonneg (by omega) (by omega)
    have hid' : (0 + (i : Int)) * d = (i : Int) * d := by rw [Int.zero_add]
    obtain ⟨z,hz,_⟩ := J46 xs ((0 + (i : Int)) * d + (0 + (j : Int))) (by rw [hid']; omega) (by rw [hid']; omega)
    have c0 : 0 ≤ 28 + (0 + (i : Int)) * d + (0 + (j : Int)) := by rw [hid']; omega
    have lk : ([45] ++ ks).length = ks.length + 1 := by rw [List.length_append]; simp; omega
    generalize hnum : z + J1Q ns (28 + (0 + (i : Int)) * d + (0 + (j : Int))) = nu
    obtain ⟨y,hy,hy2⟩ := J2E ([45] ++ ks) (nu % (([45] ++ ks).length : Int)) (Int.emod_nonneg _ (by rw [lk]; omega)) (Int.emod_lt_of_pos _ (by rw [lk]; omega))
    have lp : (0 : Int) < (([45] ++ ks).length : Int) := by rw [lk]; omega
    rw [← hnum] at hy
    walk_at "rd"
    refine Here.mk ⟨_,_,row ++ [y],rfl,by rw [List.length_append,List.length_singleton,hrl4],fun x hx => ?_,rfl⟩
    rcases List.mem_append.mp hx with hx | hx
    ·exact hin x hx
    ·rw [List.mem_singleton.mp hx]
     have := List.mem_of_getElem? hy2
     rcases List.mem_append.mp this with w | w
     ·exact .inl (List.mem_singleton.mp w)
     ·exact .inr w
   ·rintro σ H4 hv
    obtain ⟨v3,v4,row,rfl,hrl4,hin,eH⟩ := hv.out
    rw [eH]
    walk_at "rd"
    refine Here.mk ⟨_,_,_,_,rows ++ [row],rfl,by rw [List.length_append,List.length_singleton,hl],fun r hr => ?_,by rw [J9,List.map_append]; rfl,by rw [Ji nnr]; exact h3n,s3.upd fr⟩
    rcases List.mem_append.mp hr with hr | hr
    ·exact hrows r hr
    ·rw [List.mem_singleton.mp hr]
     exact ⟨by omega,hin⟩
  ·rintro σ H3 hv
   obtain ⟨v1,v2,v3,v4,rows,rfl,hl,hrows,h3r,h3n,s3⟩ := hv.out
   walk_at "rd"
   exact q rl H3 rows s3 fr h3r (by omega) hrows
theorem J52 (tx : Tx K mg J8 Jb J7 Ja J3 Jh J2 J1) : FnG P w K mg base "_law_needs_about" 2 ["_law_rota","_law_days","_law_kinds_here","_law_cell","_law_slack"] Jfl := by
 have JU := J2k (P := P) (w := w) (base := base) tx
 refine tx.J53.g JB (fun _ _ _ _ _ _ us hl => match us,hl with | [_,_,_,_,_],_ => rfl) (fun vs H Q E h => ?_) (fun f cdv A outer s H vs Q E hr h => ?_)
 ·obtain ⟨r,d,ks,c,sl,rows,rfl,_⟩ := h
  rfl
 ·obtain ⟨r,d,ks,c,sl,rows,rfl,hr1,hsl,d0,d1,hk4,hkn,hr6,hrl,q⟩ := h
  refine ⟨_,(J5 (Jj (i := 5) JB.nd rfl (Or.inl rfl) (Jw JU (hr.mono (by decide)) (J0 (pv 3) (J0 (Jf J2y (pv 1) (Jt J03 rfl tx.J0c PySem.boot_len (J0 (pv 2) J6))) J6))))
   (J5 (Jj (i := 6) JB.nd rfl (Or.inl rfl) (J17 J6))
   (J5 (J0l PassesOwn.never rfl (JW rfl tx.JY (J0 (pv 1) J6)) (Jo (i := 7) JB.nd rfl (Or.inr rfl)) (Jc (J0l PassesOwn.never rfl (JW rfl tx.JY (J0 (Jt J03 rfl tx.J0c PySem.boot_len (J0 (pv 2) J6)) J6)) (Jo (i := 8) JB.nd rfl (Or.inr rfl)) (J5 (Jj (i := 9) JB.nd rfl (Or.inl rfl) (Jt (JC (K := K) rfl) rfl tx.J0c PySem.boot_len (J0 (J05 (osc := J4 JX) (ON := ["_law_rota","_law_days","_law_kinds_here","_law_cell","_law_slack","_law_numbers","_law_found","_law_day","_law_k","_law_many","_law_number","_law_least","_law_most"]) (N := ["_law_row","_law_day","_law_kinds_here","_law_k"]) (js := [none,some 7,some 2,some 8]) ⟨rfl,by decide +kernel,by decide +kernel,by decide +kernel,rfl,by decide +kernel⟩ rfl rfl rfl (J07 (K := K) rfl (pv 0)) (fun _ _ _ _ _ => Jo (i := 0) (show List.Nodup (["_law_row","_law_day","_law_kinds_here","_law_k"] : List Str) from by decide +kernel) rfl (Or.inl rfl)) (fun _ _ _ _ _ => J06 (Jl J0f (JE J0V (pv 0) (pv 1) (fun _ _ => rfl)) (JE J0V (pv 2) (pv 3) (fun _ _ => rfl)) (Jq _))) (fun _ _ _ _ _ => (pv 0))) J6)))
   (J5 (Jj (i := 10) JB.nd rfl (Or.inl rfl) (JE (JG (K := K) rfl) (pv 5) (Jf JL (Jf J2y (pv 7) (Jt J03 rfl tx.J0c PySem.boot_len (J0 (pv 2) J6))) (pv 8)) (fun _ _ => rfl)))
   (J5 (Jj (i := 11) JB.nd rfl (Or.inl rfl) (pv 9))
   (J5 (Jj (i := 12) JB.nd rfl (Or.inl rfl) (pv 9))
   (J5 (J2z (J01 (PW.pt (J3D (Jl (J97 (K := K) rfl) (pv 7) (pv 4) rfl) (J3D (Jl J0f (Jf JF (pv 10) Jd) Jd (Jq _)) (J3I (Jl J7e (pv 9) Jd (Jq _)))))) (Jc (Jj (i := 11) JB.nd rfl (Or.inl rfl) (Jf J3r (pv 9) Jd))) JA))
   (J5 (J2z (J01 (PW.pt (J3D (Jl (J97 (K := K) rfl) (pv 7) (pv 4) rfl) (J3I (Jl J0f (Jf JF (Jf JQ (pv 10) Jd) Jd) Jd (Jq _))))) (Jc (Jj (i := 12) JB.nd rfl (Or.inl rfl) (Jf JL (pv 9) Jd))) JA))
   (Jc (J2z (J01 (PW.pt (J5f (Jl J7e (pv 12) Jd (Jq _)) (J4F (Jl J0f (Jf JF (Jf JQ (pv 10) Jd) Jd) Jd (Jq _))))) (Jc (J1O (J3k PySem.F.plainAttrs_list PySem.F.slot_list_append PySem.F.type_list_append J09 (pv 6) (J0 (J0a (J0 (pv 7) (J0 (JE J0V (pv 2) (pv 8) (fun _ _ => rfl)) (J0 (pv 11) (J0 (pv 12) J6))))) J6)))) JA))))))))))))
   (Jc (Jp (pv 6)))))),?_⟩
  walk_at "st"
  have kl0 : (0 : Int) ≤ (ks.length : Int) := by omega
  have md0 : 0 ≤ d * (ks.length : Int) := Int.mul_nonneg (by omega) kl0
  have md1 : d * (ks.length : Int) ≤ 40 := by
   have := Int.mul_le_mul d1 (show (ks.length : Int) ≤ 4 by omega) kl0 (by decide)
   omega
  walk_at "rd"
  intro nl H1 ns s1 nnl hnl hns
  walk_at "rd"
  intro fl nfl
  obtain ⟨H2,e2,hfl,s2⟩ := newl (xs := []) nfl
  rw [← e2]
  clear e2
  have fr : H fl = none := s1.free nfl
  have nne : nl ≠ fl := Je hnl nfl
  walk_at "rd"
  refine J0I (n := d.toNat) (fun i σ H3 => Here (∃ v1 v2 v3 v4 v5 v6 nds xs,σ = [some (.ref r),some (.int d),some (T ks),some (.int c),some (.ref sl),some (.ref nl),some (.ref fl),v1,v2,v3,v4,v5,v6] ∧ H3 fl = some (.lst xs) ∧ All2 NdAt H3 nds xs ∧ xs.length ≤ 4 * i ∧ NInv rows ks i 0 nds ∧ H3 nl = some (.lst (ns.map V.int)) ∧ Same H H3))
   (Here.mk ⟨none,none,none,none,none,none,[],[],rfl,hfl,trivial,Nat.zero_le _,⟨fun n hn => absurd hn List.not_mem_nil,fun d k hd => by rcases hd with ⟨_,h,_⟩ | ⟨_,h⟩; omega; rw [List.take_zero] at h; cases h⟩,s2 _ _ hnl,s1.trans s2⟩) ?_ ?_
  ·rintro i σ H3 hi hv
   obtain ⟨v1,v2,v3,v4,v5,v6,nds,xs,rfl,hf3,hA3,hx3,I3,hn3,s3⟩ := hv.out
   walk_at "rd"
   refine J0I (n := ks.length) (fun j σ H4 => Here (∃ v2 v3 v4 v5 v6 nds xs,σ = [some (.ref r),some (.int d),some (T ks),some (.int c),some (.ref sl),some (.ref nl),some (.ref fl),some (.int (0 + (i : Int))),v2,v3,v4,v5,v6] ∧ H4 fl = some (.lst xs) ∧ All2 NdAt H4 nds xs ∧ xs.length ≤ 4 * i + j ∧ NInv rows ks i j nds ∧ H4 nl = some (.lst (ns.map V.int)) ∧ Same H H4))
    (Here.mk ⟨_,_,_,_,_,nds,xs,rfl,hf3,hA3,by omega,I3,hn3,s3⟩) ?_ ?_
   ·rintro j σ H4 hj hv
    obtain ⟨v2,v3,v4,v5,v6,nds,xs,rfl,hf4,hA4,hx4,I4,hn4,s4⟩ := hv.out
    have hkj : ks[j]? = some ks[j] := List.getElem?_eq_getElem hj
    generalize ks[j] = k at hkj
    have ak : atI ks (0 + (j : Int)) = some k := by rw [Int.zero_add]; exact J0E hkj
    have hr4 := s4 _ _ hr1
    have hsl4 := s4 _ _ hsl
    have hm2 : ((i : Int) + 1) * (ks.length : Int) ≤ d * (ks.length : Int) := Int.mul_le_mul_of_nonneg_right (by omega) kl0
    rw [Int.add_mul,Int.one_mul] at hm2
    have hid : 0 ≤ (i : Int) * (ks.length : Int) := Int.mul_nonneg (by omega) kl0
    obtain ⟨z,hz,_⟩ := J46 ns ((0 + (i : Int)) * (ks.length : Int) + (0 + (j : Int))) (by rw [Int.zero_add]; omega) (by rw [Int.zero_add]; omega)
    walk_at "rd"
    refine J0b rows (fun r => decide (mkA r (i : Int) = k)) (fun _ _ _ => True) (fun σ => ∃ v,σ = [v,some (.int (0 + (i : Int))),some (T ks),some (.int (0 + (j : Int)))]) (J0n (SqL.of hr4)) (by rw [List.length_map]) (by omega) ⟨_,rfl⟩ (fun _ _ _ _ _ z => z) (fun l row v σ H' hl hv hσ s' Rf Rt hF hR' => ?_) (fun D H5 ys hD s5 hys hDD => ?_)
    ·obtain ⟨w1,rfl⟩ := hσ
     rw [List.getElem?_map,hl] at hv
     cases hv
     have hrw := hrl row (List.mem_of_getElem? hl)
     have e := mk_at (row := row) (d := 0 + (i : Int)) (by omega) (by omega)
     have rl10 : row.length ≤ 10 := by omega
     walk_at "rd"
     have ei : mkA row (0 + (i : Int)) = mkA row (i : Int) := by rw [Int.zero_add]
     rw [ei]
     refine ite2 (fun c => ?_) (fun c => ?_)
     ·have c' : mkA row (i : Int) = k := by simpa using J2p (of_decide_eq_true c)
      walk_at "rd"
      exact hR' _ _ _ (decide_eq_true c') ⟨_,rfl⟩ (Same.refl _) trivial
     ·exact hF _ _ (decide_eq_false fun z => c (decide_eq_true (by rw [z]))) ⟨_,rfl⟩ (Same.refl _)
    have hyl : ys.length = cntF rows (i : Int) k := hys.len
    have hf5 := s5 _ _ hf4
    have hn5 := s5 _ _ hn4
    have hsl5 := s5 _ _ hsl4
    have s05 := s4.trans s5
    have hA5 := hA4.imp fun a y => NdAt.keeps a y _ _ s5.keeps
    have hin : inV (.int (0 + (i : Int))) ((List.range d.toNat).map fun (i : Nat) => V.int (i : Int)) = true := by
     unfold inV
     refine List.any_eq_true.mpr ⟨.int (i : Int),List.mem_map.mpr ⟨i,List.mem_range.mpr hi,rfl⟩,?_⟩
     rw [Int.zero_add]
     exact beq_self_eq_true _
    have fl1 : J0j (.int (0 + (i : Int))) = true := rfl
    have fl2 : ((List.range d.toNat).map fun (i : Nat) => V.int (i : Int)).all J0j = true := List.all_eq_true.mpr fun x hx => by
     obtain ⟨n,_,rfl⟩ := List.mem_map.mp hx
     rfl
    have hI : SqL K H5 sl ((List.range d.toNat).map fun (i : Nat) => V.int (i : Int)) ∨ SqT K H5 sl ((List.range d.toNat).map fun (i : Nat) => V.int (i : Int)) := .inl (SqL.of hsl5)
    walk_at "rd"
    rw [hyl]
    generalize hcn : cntF rows (i : Int) k = cn at I4
    clear hys hDD hD hyl
    refine tCut.mk (fun σ' H' => Here (∃ l,σ' = [some (.ref r),some (.int d),some (T ks),some (.int c),some (.ref sl),some (.ref nl),some (.ref fl),some (.int (0 + (i : Int))),some (.int (0 + (j : Int))),some (.int (cn : Int)),some (.int z),some (.int l),some (.int (cn : Int))] ∧ l ≤ (cn : Int) ∧ H' = H5)) ?_ ?_
    ·walk_at "rd"
     rw [hin]
     walk_at "rd"
     refine ite2 (fun _ => ?_) (fun _ => ?_)
     ·walk_at "rd"
      refine ite2 (fun _ => ?_) (fun _ => ?_)
      ·walk_at "rd"
       exact Here.mk ⟨_,rfl,by omega,rfl⟩
      ·exact Here.mk ⟨_,rfl,by omega,rfl⟩
     ·walk_at "rd"
      exact Here.mk ⟨_,rfl,by omega,rfl⟩
    rintro σ' H' hv
    obtain ⟨l,rfl,hlc,eH⟩ := hv.out
    rw [eH]
    clear hv eH
    refine tCut.mk (fun σ' H' => Here (∃ m,σ' = [some (.ref r),some (.int d),some (T ks),some (.int c),some (.ref sl),some (.ref nl),some (.ref fl),some (.int (0 + (i : Int))),some (.int (0 + (j : Int))),some (.int (cn : Int)),some (.int z),some (.int l),some (.int m)] ∧ (cn : Int) ≤ m ∧ H' = H5)) ?_ ?_
    ·walk_at "rd"
     rw [hin]
     walk_at "rd"
     refine ite2 (fun _ => ?_) (fun _ => ?_)
     ·walk_at "rd"
      exact Here.mk ⟨_,rfl,by omega,rfl⟩
     ·exact Here.mk ⟨_,rfl,by omega,rfl⟩
    rintro σ' H' hv
    obtain ⟨m,rfl,hmc,eH⟩ := hv.out
    rw [eH]
    clear hv eH
    refine tCut.mk (fun σ' H' => Here (∃ nds xs,σ' = [some (.ref r),some (.int d),some (T ks),some (.int c),some (.ref sl),some (.ref nl),some (.ref fl),some (.int (0 + (i : Int))),some (.int (0 + (j : Int))),some (.int (cn : Int)),some (.int z),some (.int l),some (.int m)] ∧ H' fl = some (.lst xs) ∧ All2 NdAt H' nds xs ∧ xs.length ≤ 4 * i + (j + 1) ∧ NInv rows ks i (j + 1) nds ∧ H' nl = some (.lst (ns.map V.int)) ∧ Same H H')) ?_ (fun σ' H' hv => by obtain ⟨nds,xs,e,g⟩ := hv.out; exact Here.mk ⟨_,_,_,_,_,nds,xs,e,g⟩)
    have hxl : xs.length ≤ 100 := by omega
    have put : ∀ (t : Addr) (H6 : Hp),H5 t = none → H6 = upd H5 t (.tup [.int (0 + (i : Int)),T [k],.int l,.int m]) → H6 fl = some (.lst xs) ∧ Here (∃ nds xs',[some (V.ref r),some (.int d),some (T ks),some (.int c),some (.ref sl),some (.ref nl),some (.ref fl),some (.int (0 + (i : Int))),some (.int (0 + (j : Int))),some (.int (cn : Int)),some (.int z),some (.int l),some (.int m)] = [some (.ref r),some (.int d),some (T ks),some (.int c),some (.ref sl),some (.ref nl),some (.ref fl),some (.int (0 + (i : Int))),some (.int (0 + (j : Int))),some (.int (cn : Int)),some (.int z),some (.int l),some (.int m)] ∧ upd H6 fl (.lst (xs ++ [.ref t])) fl = some (.lst xs') ∧ All2 NdAt (upd H6 fl (.lst (xs ++ [.ref t]))) nds xs' ∧ xs'.length ≤ 4 * i + (j + 1) ∧ NInv rows ks i (j + 1) nds ∧ upd H6 fl (.lst (xs ++ [.ref t])) nl = some (.lst (ns.map V.int)) ∧ Same H (upd H6 fl (.lst (xs ++ [.ref t])))) := fun t H6 nt e6 => by
     have s6 : Same H5 H6 := by rw [e6]; exact Jr nt _
     have ht6 : H6 t = some (.tup [.int (i : Int),T [k],.int l,.int m]) := by rw [e6,Int.zero_add]; exact J9
     have hf6 := s6 _ _ hf5
     have kk : JO H6 (upd H6 fl (.lst (xs ++ [.ref t]))) := JR hf6
     refine ⟨hf6,Here.mk ⟨nds ++ [⟨(i : Int),k,l,m⟩],xs ++ [.ref t],rfl,J9,All2.snoc (hA5.imp fun a y => NdAt.keeps a y _ _ (s6.keeps.trans kk)) ⟨t,rfl,kk _ _ ht6 fun zs z => by cases z⟩,by rw [List.length_append,List.length_singleton]; omega,I4.put hkn hkj (by rw [hcn]; exact hlc) (by rw [hcn]; exact hmc),by rw [Ji nne]; exact s6 _ _ hn5,(s05.trans s6).upd fr⟩⟩
    walk_at "rd"
    refine ite2 (fun c1 => ?_) (fun c1 => ?_)
    ·walk_at "rd"
     intro t nt
     obtain ⟨H6,e6⟩ : ∃ H6,H6 = upd H5 t (.tup [.int (0 + (i : Int)),T [k],.int l,.int m]) := ⟨_,rfl⟩
     obtain ⟨hf6,hP⟩ := put t H6 nt e6
     rw [← e6]
     walk_at "rd"
     exact hP
    ·have c1' := of_decide_eq_false (Bool.eq_false_iff.mpr c1)
     walk_at "rd"
     refine ite2 (fun c2 => ?_) (fun c2 => ?_)
     ·walk_at "rd"
      intro t nt
      obtain ⟨H6,e6⟩ : ∃ H6,H6 = upd H5 t (.tup [.int (0 + (i : Int)),T [k],.int l,.int m]) := ⟨_,rfl⟩
      obtain ⟨hf6,hP⟩ := put t H6 nt e6
      rw [← e6]
      walk_at "rd"
      exact hP
     ·exact Here.mk ⟨nds,xs,rfl,hf5,hA5,by omega,I4.skip hkn hkj (by rw [hcn]; omega),hn5,s05⟩
   ·rintro σ H4 hv
    obtain ⟨v2,v3,v4,v5,v6,nds,xs,rfl,hf4,hA4,hx4,I4,hn4,s4⟩ := hv.out
    exact Here.mk ⟨_,_,_,_,_,_,nds,xs,rfl,hf4,hA4,by omega,I4.day,hn4,s4⟩
  ·rintro σ H3 hv
   obtain ⟨v1,v2,v3,v4,v5,v6,nds,xs,rfl,hf3,hA3,hx3,I3,hn3,s3⟩ := hv.out
   walk_at "rd"
   exact q fl H3 nds xs s3 fr hf3 hA3 (by omega) fun e he k hk => I3.ok e k (.inl ⟨by omega,by omega,hk⟩)
end
noncomputable def JcL (K : PySem.W.Frag) : Sp := fun vs H Q _ => ∃ (a : Addr) (ns : List Int) (p : Int),vs = [.ref a,.int p] ∧ SqL K H a (ns.map V.int) ∧ 0 ≤ p ∧ ∀ v : Int,Q (.int v) H
structure Jav (ns : List Int) (i : Nat) (n : Ps) (row : List Nat) : Prop where
 nm : n.nm = J4v (J1Q ns 1) (0 + (i : Int))
 sk : ∀ x ∈ row,x = 45 ∨ x ∈ n.sk
 mo : (dut row : Int) ≤ n.most
 m14 : n.most ≤ 14
 pl : n.past.length ≤ 6
noncomputable def Jfj (K : PySem.W.Frag) (C : Addr) : Sp := fun vs H Q _ => ∃ (a r : Addr) (ns : List Int) (rows : List (List Nat)) (ks : List Nat),vs = [.ref a,.ref r,T ks] ∧ SqL K H a (ns.map V.int) ∧ H r = some (.lst (rows.map T)) ∧ rows.length ≤ 6 ∧ 1 ≤ ks.length ∧ ks.length ≤ 4 ∧ (∀ row ∈ rows,row.length ≤ 10 ∧ inKs ks row) ∧
 ∀ (D : Addr) (H' : Hp) (ps : List Ps) (ys : List V),Same H H' → H D = none → H' D = some (.lst ys) → All2 (PsO C) H' ps ys → ps.length = rows.length → (∀ (i : Nat) (n : Ps) (row : List Nat),ps[i]? = some n → rows[i]? = some row → Jav ns i n row) → Q (.ref D) H'
section
variable {P : Program} {w : World} {K : PySem.W.Frag} {mg : Str → Option Value} {base : Heap} {J8 Jb J7 Ja J3 Jh J2 J1 : Addr}
theorem J7D (tx : Tx K mg J8 Jb J7 Ja J3 Jh J2 J1) : FnG P w K mg base "_law_carried" 2 ["_law_script","_law_p"] (JcL K) := by
 have Ju := J2A (P := P) (w := w) (base := base) tx
 refine tx.J7r.g J3T (fun _ _ _ _ _ _ us hl => match us,hl with | [_,_],_ => rfl) (fun vs H Q E h => ?_) (fun f cdv A outer s H vs Q E hr h => ?_)
 ·obtain ⟨a,ns,k,rfl,_⟩ := h
  rfl
 ·obtain ⟨a,ns,k,rfl,hS,h0,q⟩ := h
  refine ⟨_,(J5 (Jj (i := 2) J3T.nd rfl (Or.inl rfl) (Jw Ju (hr.mono (by decide)) (J0 (pv 0) (J0 (Jf JL Jd (pv 1)) J6))))
   (J5 (J01 (Jl J0f (Jf JF (Jw Ju (hr.mono (by decide)) (J0 (pv 0) (J0 Jd J6))) Jd) Jd (Jq _)) (Jc (Jp (Jf JL (Jf JF (Jf JQ (Jw Ju (hr.mono (by decide)) (J0 (pv 0) (J0 Jd J6))) Jd) (Jf Jd0 Jd Jd)) (Jf JF (Jf JQ (pv 2) Jd) Jd)))) JA)
   (J5 (J01 (Jl J0f (Jf JF (pv 2) Jd) Jd (Jq _)) (Jc (Jp (Jf JF (Jf JQ (pv 2) Jd) (Jf Jd0 Jd Jd)))) JA)
   (Jc (Jp (Jf JF (Jf JQ (pv 2) Jd) Jd)))))),?_⟩
  walk_at "st"
  have p1 : CPow 10 38 := ⟨by decide,by decide,by decide⟩
  have p2 : CPow 10 39 := ⟨by decide,by decide,by decide⟩
  have z1 : (0 : Int) < 10 ^ (38 : Int).toNat := by decide
  have z2 : (0 : Int) < 10 ^ (39 : Int).toNat := by decide
  walk_at "rd"
  refine ite2 (fun c => ?_) (fun c => ?_)
  ·walk_at "rd"
   exact q _
  walk_at "rd"
  refine ite2 (fun c => ?_) (fun c => ?_)
  ·walk_at "rd"
   exact q _
  walk_at "rd"
  exact q _
theorem J4i (tx : Tx K mg J8 Jb J7 Ja J3 Jh J2 J1) : FnG P w K mg base "_law_persons_about" 3 ["_law_script","_law_rota","_law_kinds_here"] (Jfj K J2) := by
 have JU := J2k (P := P) (w := w) (base := base) tx
 have Ju := J2A (P := P) (w := w) (base := base) tx
 have J4s := J7D (P := P) (w := w) (base := base) tx
 have J6C := JaQ (P := P) (w := w) (base := base) tx
 have J3S := tx.JS.g (J4k (P := P) (w := w) (base := base) tx)
 refine tx.J4h.g Jx (fun _ _ _ _ _ _ us hl => match us,hl with | [_,_,_],_ => rfl) (fun vs H Q E h => ?_) (fun f cdv A outer s H vs Q E hr h => ?_)
 ·obtain ⟨a,r,ns,rows,ks,rfl,_⟩ := h
  rfl
 ·obtain ⟨a,r,ns,rows,ks,rfl,hS,hr1,hr6,k1,k4,hrow,q⟩ := h
  refine ⟨_,(J5 (Jj (i := 3) Jx.nd rfl (Or.inl rfl) (J17 J6))
   (J5 (J0l PassesOwn.never rfl (JW rfl tx.JY (J0 (Jt (JC (K := K) rfl) rfl tx.J0c PySem.boot_len (J0 (pv 1) J6)) J6)) (Jo (i := 4) Jx.nd rfl (Or.inl rfl)) (J5 (Jj (i := 5) Jx.nd rfl (Or.inr rfl) (Jw JU (hr.mono (by decide)) (J0 (Jf JL (Jw Ju (hr.mono (by decide)) (J0 (pv 0) (J0 (Jf JL Jd (pv 4)) J6))) (pv 4)) (J0 Jd J6))))
   (J5 (Jj (i := 6) Jx.nd rfl (Or.inl rfl) (Jv (l := []) (by decide +kernel)))
   (J5 (J0l PassesOwn.never rfl (JW rfl tx.JY (J0 (Jt J03 rfl tx.J0c PySem.boot_len (J0 (pv 2) J6)) J6)) (Jo (i := 7) Jx.nd rfl (Or.inl rfl)) (Jc (J2z (J01 (PW.pt (J5f (Jl JfM (JE J0V (pv 2) (pv 7) (fun _ _ => rfl)) (JE (JG (K := K) rfl) (pv 1) (pv 4) (fun _ _ => rfl)) rfl) (J4F (Jl J7e (Jf J8M (Jf J9i (JE (JG (K := K) rfl) (pv 5) Jd (fun _ _ => rfl)) (pv 7)) Jd) Jd (Jq _))))) (Jc (Jj (i := 6) Jx.nd rfl (Or.inl rfl) (Jf J0F (pv 6) (JE J0V (pv 2) (pv 7) (fun _ _ => rfl))))) JA))))
   (J5 (Jj (i := 8) Jx.nd rfl (Or.inl rfl) (Jt (JC (K := K) rfl) rfl tx.J0c PySem.boot_len (J0 (J05 (osc := J4 JM) (ON := ["_law_script","_law_rota","_law_kinds_here","_law_found","_law_p","_law_numbers","_law_skills","_law_k","_law_many","_law_most","_law_past","_law_name_here"]) (N := ["_law_mark"]) (js := [none]) ⟨rfl,by decide +kernel,by decide +kernel,by decide +kernel,rfl,by decide +kernel⟩ rfl rfl rfl (J4H (JE (JG (K := K) rfl) (pv 1) (pv 4) (fun _ _ => rfl))) (fun _ _ _ _ _ => Jo (i := 0) (show List.Nodup (["_law_mark"] : List Str) from by decide +kernel) rfl (Or.inl rfl)) (fun _ _ _ _ _ => J06 (Jl J34 (pv 0) (Jv (l := [45]) (by decide +kernel)) (Jq _))) (fun _ _ _ _ _ => (pv 0))) J6)))
   (J5 (Jj (i := 9) Jx.nd rfl (Or.inl rfl) (Jt (Jcz rfl) rfl tx.J9t Jfu (J0 Jd (J0 (Jf JL (pv 8) (Jf JF (JE (JG (K := K) rfl) (pv 5) Jd (fun _ _ => rfl)) Jd)) J6))))
   (J5 (Jj (i := 10) Jx.nd rfl (Or.inl rfl) (J43 (K := K) rfl (Jv (l := []) (by decide +kernel)) (J0 (J05 (osc := J4 JM) (ON := ["_law_script","_law_rota","_law_kinds_here","_law_found","_law_p","_law_numbers","_law_skills","_law_k","_law_many","_law_most","_law_past","_law_name_here"]) (N := ["_law_k","_law_kinds_here","_law_numbers"]) (js := [none,some 2,some 5]) ⟨rfl,by decide +kernel,by decide +kernel,by decide +kernel,rfl,by decide +kernel⟩ rfl rfl rfl (JW rfl tx.JY (J0 (Jf JF (Jf JQ (JE (JG (K := K) rfl) (pv 5) Jd (fun _ _ => rfl)) Jd) Jd) J6)) (fun _ _ _ _ _ => Jo (i := 0) (show List.Nodup (["_law_k","_law_kinds_here","_law_numbers"] : List Str) from by decide +kernel) rfl (Or.inl rfl)) (fun _ _ _ _ _ => J1X) (fun _ _ _ _ _ => (JE J0V (Jf J0F (Jv (l := [45]) (by decide +kernel)) (pv 1)) (Jf J8M (Jf J9i (JE (JG (K := K) rfl) (pv 2) Jd (fun _ _ => rfl)) (pv 0)) Jd) (fun _ _ => rfl)))) J6)))
   (J5 (Jj (i := 11) Jx.nd rfl (Or.inl rfl) (Jw J6C (hr.mono (by decide)) (J0 (Jw Ju (hr.mono (by decide)) (J0 (pv 0) (J0 Jd J6))) (J0 (pv 4) J6))))
   (Jc (J1O (J3k PySem.F.plainAttrs_list PySem.F.slot_list_append PySem.F.type_list_append J09 (pv 3) (J0 (J1y (r := rPer J2) J3S (hr.mono (by decide)) JdG (J0 (pv 11) (J0 (pv 6) (J0 (pv 9) (J0 (Jw J4s (hr.mono (by decide)) (J0 (pv 0) (J0 (pv 4) J6))) (J0 (pv 10) J6)))))) J6))))))))))))
   (Jc (Jp (pv 3))))),?_⟩
  walk_at "st"
  clear JU Ju J4s J6C J3S
  walk_at "rd"
  intro fl nfl
  obtain ⟨H2,e2,hfl,s2⟩ := newl (xs := []) nfl
  rw [← e2]
  clear e2
  have hr2 := s2 _ _ hr1
  walk_at "rd"
  rw [List.length_map]
  refine ⟨by omega,?_⟩
  refine J0I (n := rows.length) (fun i σ H3 => Here (∃ v1 v2 v3 v4 v5 v6 v7 v8 ps ys,σ = [some (.ref a),some (.ref r),some (T ks),some (.ref fl),v1,v2,v3,v4,v5,v6,v7,v8] ∧ H3 fl = some (.lst ys) ∧ All2 (PsO J2) H3 ps ys ∧ ps.length = i ∧ (∀ (j : Nat) (n : Ps) (row : List Nat),ps[j]? = some n → rows[j]? = some row → Jav ns j n row) ∧ Same H H3))
   (Here.mk ⟨none,none,none,none,none,none,none,none,[],[],rfl,hfl,trivial,rfl,fun j n row h => by simp at h,s2⟩) ?_ ?_
  ·rintro i σ H3 hi hv
   obtain ⟨v1,v2,v3,v4,v5,v6,v7,v8,ps,ys,rfl,hf3,hA3,hl3,hg3,s3⟩ := hv.out
   have hS3 := s3.seq hS
   have hyl := hA3.len
   have hr3 := s3 _ _ hr1
   have hri : rows[i]? = some rows[i] := List.getElem?_eq_getElem hi
   generalize rows[i] = row at hri
   obtain ⟨hrl,hin⟩ := hrow row (List.mem_of_getElem? hri)
   have aT : atI (rows.map T) (0 + (i : Int)) = some (T row) := by
    rw [Int.zero_add]
    exact J0E (by rw [List.getElem?_map,hri]; rfl)
   walk_at "rd"
   intro st H4 xs s4 nst hst hxs
   obtain ⟨x0,e0,_⟩ := J46 xs 0 (by decide) (by omega)
   obtain ⟨x1,e1,_⟩ := J46 xs 1 (by decide) (by omega)
   obtain ⟨x2,e2,_⟩ := J46 xs 2 (by decide) (by omega)
   have hf4 := s4 _ _ hf3
   have hr4 := s4 _ _ hr3
   have hs0 : ∀ x ∈ row,x ∈ ks.take 0 → x ∈ ([] : List Nat) := fun x _ hx => by rw [List.take_zero] at hx; cases hx
   walk_at "rd"
   refine J0I (n := ks.length) (fun j σ H5 => Here (∃ v4 sk,σ = [some (.ref a),some (.ref r),some (T ks),some (.ref fl),some (.int (0 + (i : Int))),some (.ref st),some (T sk),v4,v5,v6,v7,v8] ∧ (∀ x ∈ row,x ∈ ks.take j → x ∈ sk) ∧ sk.length ≤ j ∧ H5 = H4))
    (Here.mk ⟨_,[],rfl,hs0,Nat.le_refl _,rfl⟩) ?_ ?_
   ·rintro j σ H5 hj hv
    obtain ⟨w4,sk,rfl,hsk,hsl,eH⟩ := hv.out
    rw [eH]
    have hkj : ks[j]? = some ks[j] := List.getElem?_eq_getElem hj
    generalize ks[j] = k at hkj
    have ak : atI ks (0 + (j : Int)) = some k := by rw [Int.zero_add]; exact J0E hkj
    have tk : ks.take (j + 1) = ks.take j ++ [k] := by rw [List.take_add_one,hkj]; rfl
    have j0 : (0 : Int) ≤ 0 + (j : Int) := by omega
    refine tCut.mk (fun σ' H' => Here (∃ sk,σ' = [some (.ref a),some (.ref r),some (T ks),some (.ref fl),some (.int (0 + (i : Int))),some (.ref st),some (T sk),some (.int (0 + (j : Int))),v5,v6,v7,v8] ∧ (∀ x ∈ row,x ∈ ks.take (j + 1) → x ∈ sk) ∧ sk.length ≤ j + 1 ∧ H' = H4)) ?_ (fun σ' H' hv => by obtain ⟨sk,e,g⟩ := hv.out; exact Here.mk ⟨_,sk,e,g⟩)
    have hput : (∀ x ∈ row,x ∈ ks.take (j + 1) → x ∈ sk ++ [k]) := fun x hx hk => by
     rw [tk] at hk
     rcases List.mem_append.mp hk with z | z
     ·exact List.mem_append_left _ (hsk x hx z)
     ·exact List.mem_append_right _ z
    have hsl' : (sk ++ [k]).length ≤ j + 1 := by rw [List.length_append,List.length_singleton]; omega
    walk_at "rd"
    refine ite2 (fun c => ?_) (fun c => ?_)
    ·walk_at "rd"
     exact Here.mk ⟨sk ++ [k],rfl,hput,hsl',rfl⟩
    ·have hnk : ¬ k ∈ row := of_decide_eq_false (Bool.eq_false_iff.mpr c)
     walk_at "rd"
     refine ite2 (fun c => ?_) (fun c => ?_)
     ·walk_at "rd"
      exact Here.mk ⟨sk ++ [k],rfl,hput,hsl',rfl⟩
     ·refine Here.mk ⟨sk,rfl,fun x hx hk => ?_,by omega,rfl⟩
      rw [tk] at hk
      rcases List.mem_append.mp hk with z | z
      ·exact hsk x hx z
      ·rw [List.mem_singleton.mp z] at hx
       exact absurd hx hnk
   ·rintro σ H5 hv
    obtain ⟨w4,sk,rfl,hsk,hsl,eH⟩ := hv.out
    rw [eH]
    rw [List.take_length] at hsk
    walk_at "rd"
    refine J3C (fun x => !decide (x = T [45])) (fun x => x) (J2X row) ?_ (fun x hx H' s' R hR => ?_) (fun x hx hp H' s' R hR => ?_) (fun D H6 nD s6 hD => ?_)
    ·rw [List.length_map]; omega
    ·obtain ⟨k,_,rfl⟩ := List.mem_map.mp hx
     walk_at "rd"
     exact hR H' (Same.refl _)
    ·walk_at "rd"
     exact hR H' (Same.refl _)
    have hst6 := s6 _ _ hst
    have hdl : dut row ≤ 10 := Nat.le_trans (List.length_filter_le _ _) hrl
    have mo0 : 0 ≤ x1 % 3 := Int.emod_nonneg _ (by decide)
    have mo1 : x1 % 3 < 3 := Int.emod_lt_of_pos _ (by decide)
    refine ⟨D,_,rfl,.inl (SqL.of hD),?_⟩
    rw [J6i]
    generalize hdu : dut row = du at hdl
    clear hD nD
    have pm0 : 0 ≤ x2 / 64 % 4 := Int.emod_nonneg _ (by decide)
    have pm1 : x2 / 64 % 4 < 4 := Int.emod_lt_of_pos _ (by decide)
    walk_at "rd"
    generalize hmo : (if (du : Int) + x1 % 3 < 14 then (du : Int) + x1 % 3 else 14) = mo
    have hm1 : (du : Int) ≤ mo ∧ mo ≤ 14 := by rw [← hmo]; split <;> omega
    clear hmo
    refine Jaf (fun _ y => ∃ c,y = T [c]) (J2c 0 (x2 / 64 % 4).toNat) ?_ (fun x hx H' s' R hR => ?_) (fun D H7 ys2 nD s7 hlen hP hD => ?_)
    ·rw [List.length_map,List.length_range]; omega
    ·obtain ⟨k,hk',rfl⟩ := List.mem_map.mp hx
     have hk' := List.mem_range.mp hk'
     have hst' := s' _ _ hst6
     have br := PyProof.Rows.bitAnd_range (x2 / 2 ^ (0 + (k : Int)).toNat) (y := 1) (by decide)
     obtain ⟨c,hc,_⟩ := J2E ([45] ++ ks) (Builtin.bitAnd (x2 / 2 ^ (0 + (k : Int)).toNat) 1) br.1 (by rw [List.length_append,List.length_singleton]; omega)
     have k0 : (0 : Int) ≤ 0 + (k : Int) := by omega
     have l5 : ([45] ++ ks).length ≤ 100 := by rw [List.length_append,List.length_singleton]; omega
     walk_at "rd"
     exact hR _ H' ⟨c,rfl⟩ (Same.refl _)
    rw [List.length_map,List.length_range] at hlen
    obtain ⟨l,rfl,hcs⟩ := J77 (ys := ys2) fun y hy => by
     obtain ⟨i,hi,rfl⟩ := List.mem_iff_getElem.mp hy
     exact hP i _ _ (List.getElem?_eq_getElem (by rw [List.length_map,List.length_range]; omega)) (List.getElem?_eq_getElem hi)
    have hjl : (((l.map fun c => [c]).map List.length).sum + (l.map fun c => [c]).length * ([] : List Nat).length ≤ 16777216) := by
     rw [J3x,List.length_map,List.length_nil,Nat.mul_zero]
     omega
    have hD3 : SqL K H7 D ((l.map fun c => [c]).map T) := SqL.of hD
    have hll : l.length ≤ 3 := by omega
    have s07 := ((s3.trans s4).trans s6).trans s7
    have hS7 := s07.seq hS
    walk_at "rd"
    rw [J2V,J2Y]
    clear hP hD hD3 hjl hcs hlen
    walk_at "rd"
    intro H8 s8
    have s08 := s07.trans s8
    have hS8 := s08.seq hS
    have hf8 := (((s4.trans s6).trans s7).trans s8) _ _ hf3
    walk_at "rd"
    intro car
    walk_at "rd"
    intro pa H9 s9 npa hpa
    have s39 := (((s4.trans s6).trans s7).trans s8).trans s9
    have s09 := s3.trans s39
    have hf9 := s39 _ _ hf3
    have yl : ys.length ≤ 100 := by omega
    walk_at "rd"
    have kk : JO H9 (upd H9 fl (.lst (ys ++ [.ref pa]))) := JR hf9
    refine Here.mk ⟨_,_,_,_,_,_,_,_,ps ++ [⟨J4v (J1Q ns 1) (0 + (i : Int)),sk,mo,car,l⟩],ys ++ [.ref pa],rfl,J9,All2.snoc (hA3.imp fun a y => PsO.keeps a y _ _ (s39.keeps.trans kk)) ⟨pa,rfl,hpa.keeps kk⟩,by rw [List.length_append,List.length_singleton,hl3],fun j n rw' hj hrj => ?_,s09.upd nfl⟩
    rcases Nat.lt_trichotomy j ps.length with z | z | z
    ·rw [List.getElem?_append_left z] at hj
     exact hg3 j n rw' hj hrj
    ·rw [List.getElem?_append_right (by omega),z,Nat.sub_self] at hj
     have e := Option.some.inj hj
     rw [z,hl3,hri] at hrj
     have e' := Option.some.inj hrj
     subst e e'
     refine ⟨by rw [z,hl3],fun x hx => (hin x hx).imp id fun z => hsk x hx z,by rw [hdu]; exact hm1.1,hm1.2,Nat.le_trans hll (by decide)⟩
    ·rw [List.getElem?_append_right (by omega)] at hj
     have := (List.getElem?_eq_some_iff.mp hj).1
     rw [List.length_singleton] at this
     omega
  ·rintro σ H3 hv
   obtain ⟨v1,v2,v3,v4,v5,v6,v7,v8,ps,ys,rfl,hf3,hA3,hl3,hg3,s3⟩ := hv.out
   walk_at "rd"
   exact q fl H3 ps ys s3 nfl hf3 hA3 hl3 hg3
end
structure JbG (d : Int) (ps : List Ps) (rows : List (List Nat)) (l : List Nat × Int) : Prop where
 out : ∃ (i : Nat) (n : Ps) (row : List Nat),ps[i]? = some n ∧ rows[i]? = some row ∧ n.nm = l.1 ∧ mkA row l.2 = 45
 d0 : 0 ≤ l.2
 d1 : l.2 < d
noncomputable def Jfa (C : Addr) : Sp := fun vs H Q _ => ∃ (r pl : Addr) (d c : Int) (rows : List (List Nat)) (ps : List Ps) (ys : List V),vs = [.ref r,.ref pl,.int d,.int c] ∧ H r = some (.lst (rows.map T)) ∧ H pl = some (.lst ys) ∧ All2 (PsO C) H ps ys ∧ ps.length = rows.length ∧ rows.length ≤ 6 ∧ 1 ≤ d ∧ d ≤ 10 ∧ (∀ row ∈ rows,(row.length : Int) = d) ∧
 ∀ (D : Addr) (H' : Hp) (ls : List (List Nat × Int)) (xs : List V),Same H H' → H D = none → H' D = some (.lst xs) → All2 LvT H' ls xs → ls.length ≤ 60 → (∀ l ∈ ls,JbG d ps rows l) → Q (.ref D) H'
section
variable {P : Program} {w : World} {K : PySem.W.Frag} {mg : Str → Option Value} {base : Heap} {J8 Jb J7 Ja J3 Jh J2 J1 : Addr}
local macro_rules | `(tactic| walk_at "lk") => `(tactic| exact J2n _ _ _ _ _)
theorem J4S (tx : Tx K mg J8 Jb J7 Ja J3 Jh J2 J1) : FnG P w K mg base "_law_leave_about" 2 ["_law_rota","_law_persons","_law_days","_law_cell"] (Jfa J2) := by
 have JU := J2k (P := P) (w := w) (base := base) tx
 refine tx.J4N.g J0D (fun _ _ _ _ _ _ us hl => match us,hl with | [_,_,_,_],_ => rfl) (fun vs H Q E h => ?_) (fun f cdv A outer s H vs Q E hr h => ?_)
 ·obtain ⟨r,pl,d,c,rows,ps,ys,rfl,_⟩ := h
  rfl
 ·obtain ⟨r,pl,d,c,rows,ps,ys,rfl,hr1,hp1,hA1,hpl,hr6,d0,d1,hrow,q⟩ := h
  refine ⟨_,(J5 (Jj (i := 4) J0D.nd rfl (Or.inl rfl) (Jw JU (hr.mono (by decide)) (J0 (Jf JL (pv 3) Jd) (J0 (Jf J2y (Jt (JC (K := K) rfl) rfl tx.J0c PySem.boot_len (J0 (pv 0) J6)) (pv 2)) J6))))
   (J5 (Jj (i := 5) J0D.nd rfl (Or.inl rfl) (J17 J6))
   (J5 (J0l PassesOwn.never rfl (JW rfl tx.JY (J0 (Jt (JC (K := K) rfl) rfl tx.J0c PySem.boot_len (J0 (pv 0) J6)) J6)) (Jo (i := 6) J0D.nd rfl (Or.inl rfl)) (Jc (J0l PassesOwn.never rfl (JW rfl tx.JY (J0 (pv 2) J6)) (Jo (i := 7) J0D.nd rfl (Or.inl rfl)) (Jc (J01 (PW.pt (J3D (Jl J0f (JE J0V (JE (JG (K := K) rfl) (pv 0) (pv 6) (fun _ _ => rfl)) (pv 7) (fun _ _ => rfl)) (Jv (l := [45]) (by decide +kernel)) (Jq _)) (J3I (Jl J0f (Jf JF (JE (JG (K := K) rfl) (pv 4) (Jf JL (Jf J2y (pv 6) (pv 2)) (pv 7)) (fun _ _ => rfl)) Jd) Jd (Jq _))))) (Jc (J1O (J3k PySem.F.plainAttrs_list PySem.F.slot_list_append PySem.F.type_list_append J09 (pv 5) (J0 (J0a (J0 (Jg (K := K) rfl (JE (JG (K := K) rfl) (pv 1) (pv 6) (fun _ _ => rfl)) rfl) (J0 (pv 7) J6))) J6)))) JA)))))
   (Jc (Jp (pv 5)))))),?_⟩
  walk_at "st"
  clear JU
  have hcl := tx.JS.cl
  have hna := tx.Jy
  have md0 : 0 ≤ (rows.length : Int) * d := Int.mul_nonneg (by omega) (by omega)
  have md1 : (rows.length : Int) * d ≤ 60 := by
   have := Int.mul_le_mul (show (rows.length : Int) ≤ 6 by omega) d1 (by omega) (by decide)
   omega
  have ml : ((rows.map T).length : Int) = (rows.length : Int) := by rw [List.length_map]
  walk_at "rd"
  rw [ml]
  refine ⟨md0,by omega,?_⟩
  intro nl H1 xs s1 nnl hn hxs
  walk_at "rd"
  intro fl nfl
  obtain ⟨H2,e2,hfl,s2⟩ := newl (xs := []) nfl
  rw [← e2]
  clear e2
  have fr : H fl = none := s1.free nfl
  have nne : nl ≠ fl := Je hn nfl
  have s02 := s1.trans s2
  have hr2 := s02 _ _ hr1
  walk_at "rd"
  rw [ml]
  refine J0I (n := rows.length) (fun i σ H3 => Here (∃ v1 v2 ls xv,σ = [some (.ref r),some (.ref pl),some (.int d),some (.int c),some (.ref nl),some (.ref fl),v1,v2] ∧ H3 fl = some (.lst xv) ∧ All2 LvT H3 ls xv ∧ (ls.length : Int) ≤ (i : Int) * d ∧ (∀ l ∈ ls,JbG d ps rows l) ∧ H3 nl = some (.lst (xs.map V.int)) ∧ Same H H3))
   (Here.mk ⟨none,none,[],[],rfl,hfl,trivial,by simp,fun l hl => absurd hl List.not_mem_nil,s2 _ _ hn,s02⟩) ?_ ?_
  ·rintro i σ H3 hi hv
   obtain ⟨v1,v2,ls,xv,rfl,hf3,hA3,hx3,hg3,hn3,s3⟩ := hv.out
   have hri : rows[i]? = some rows[i] := List.getElem?_eq_getElem hi
   generalize rows[i] = row at hri
   have hrl := hrow row (List.mem_of_getElem? hri)
   have aT : atI (rows.map T) (0 + (i : Int)) = some (T row) := by
    rw [Int.zero_add]
    exact J0E (by rw [List.getElem?_map,hri]; rfl)
   have hpi : ps[i]? = some ps[i] := List.getElem?_eq_getElem (by omega)
   generalize ps[i] = n at hpi
   obtain ⟨y,hy,pa,rfl,dx,hpa⟩ := hA1.get hpi
   have ay : atI ys (0 + (i : Int)) = some (.ref pa) := by rw [Int.zero_add]; exact J0E hy
   have hid : 0 ≤ (i : Int) * d := Int.mul_nonneg (by omega) (by omega)
   have hm2 : ((i : Int) + 1) * d ≤ (rows.length : Int) * d := Int.mul_le_mul_of_nonneg_right (by omega) (by omega)
   rw [Int.add_mul,Int.one_mul] at hm2
   walk_at "rd"
   refine J0I (n := d.toNat) (fun j σ H4 => Here (∃ v2 ls xv,σ = [some (.ref r),some (.ref pl),some (.int d),some (.int c),some (.ref nl),some (.ref fl),some (.int (0 + (i : Int))),v2] ∧ H4 fl = some (.lst xv) ∧ All2 LvT H4 ls xv ∧ (ls.length : Int) ≤ (i : Int) * d + j ∧ (∀ l ∈ ls,JbG d ps rows l) ∧ H4 nl = some (.lst (xs.map V.int)) ∧ Same H H4))
    (Here.mk ⟨_,ls,xv,rfl,hf3,hA3,by omega,hg3,hn3,s3⟩) ?_ ?_
   ·rintro j σ H4 hj hv
    obtain ⟨w2,ls,xv,rfl,hf4,hA4,hx4,hg4,hn4,s4⟩ := hv.out
    have hr4 := s4 _ _ hr1
    have hp4 := s4 _ _ hp1
    have hpa4 := s4 _ _ hpa
    have hxl := hA4.len
    have e := mk_at (row := row) (d := 0 + (j : Int)) (by omega) (by omega)
    obtain ⟨z,hz,_⟩ := J46 xs ((0 + (i : Int)) * d + (0 + (j : Int))) (by rw [Int.zero_add]; omega) (by rw [Int.zero_add]; omega)
    have xl : xv.length ≤ 100 := by omega
    walk_at "rd"
    refine ite2 (fun c1 => ?_) (fun c1 => ?_)
    ·have c1' : mkA row (0 + (j : Int)) = 45 := by simpa using J2p (of_decide_eq_true c1)
     walk_at "rd"
     refine ite2 (fun c2 => ?_) (fun c2 => ?_)
     ·walk_at "rd"
      intro t nt
      obtain ⟨H5,e5,ht5,s5⟩ := newt (xs := [T n.nm,.int (0 + (j : Int))]) nt
      rw [← e5]
      have hf5 := s5 _ _ hf4
      have kk : JO H5 (upd H5 fl (.lst (xv ++ [.ref t]))) := JR hf5
      walk_at "rd"
      refine Here.mk ⟨_,ls ++ [(n.nm,0 + (j : Int))],xv ++ [.ref t],rfl,J9,All2.snoc (hA4.imp fun a y => LvT.keeps a y _ _ (s5.keeps.trans kk)) ⟨t,rfl,kk _ _ ht5 fun zs z => by cases z⟩,by rw [List.length_append,List.length_singleton]; omega,fun l hl => ?_,by rw [Ji nne]; exact s5 _ _ hn4,(s4.trans s5).upd fr⟩
      rcases List.mem_append.mp hl with hl | hl
      ·exact hg4 l hl
      ·rw [List.mem_singleton.mp hl]
       exact ⟨⟨i,n,row,hpi,hri,rfl,c1'⟩,by show 0 ≤ 0 + (j : Int); omega,by show 0 + (j : Int) < d; omega⟩
     ·exact Here.mk ⟨_,ls,xv,rfl,hf4,hA4,by omega,hg4,hn4,s4⟩
    ·exact Here.mk ⟨_,ls,xv,rfl,hf4,hA4,by omega,hg4,hn4,s4⟩
   ·rintro σ H4 hv
    obtain ⟨w2,ls,xv,rfl,hf4,hA4,hx4,hg4,hn4,s4⟩ := hv.out
    exact Here.mk ⟨_,_,ls,xv,rfl,hf4,hA4,by rw [Int.natCast_add,Int.add_mul]; omega,hg4,hn4,s4⟩
  ·rintro σ H3 hv
   obtain ⟨v1,v2,ls,xv,rfl,hf3,hA3,hx3,hg3,hn3,s3⟩ := hv.out
   walk_at "rd"
   exact q fl H3 ls xv s3 fr hf3 hA3 (by omega) hg3
end
noncomputable def Jfe (c6 : Cs) : Sp := fun vs H Q _ => ∃ (c : Int) (ks : List Nat),vs = [.int c,T ks] ∧ 1 ≤ ks.length ∧ ks.length ≤ 4 ∧ (∀ x ∈ ks,isUp x = true) ∧ ∀ (r : R) p H',r.ok → r.reach ≤ 6 → r.depth ≤ 2 → Same H H' → JD c6 H' r p → Q (.ref p) H'
theorem JdJ (a b c : List Nat) (i : Int) (h0 : 0 ≤ i) (h1 : i < 3) : ∃ w,atI [T a,T b,T c] i = some (T w) ∧ (w = a ∨ w = b ∨ w = c) := by
 have : i = 0 ∨ i = 1 ∨ i = 2 := by omega
 rcases this with rfl | rfl | rfl
 ·exact ⟨a,by simp [atI,ixN],.inl rfl⟩
 ·exact ⟨b,by simp [atI,ixN],.inr (.inl rfl)⟩
 ·exact ⟨c,by simp [atI,ixN],.inr (.inr rfl)⟩
theorem Jd3 (a b : List Nat) (i : Int) (h0 : 0 ≤ i) (h1 : i < 2) : ∃ w,atI [T a,T b] i = some (T w) ∧ (w = a ∨ w = b) := by
 have : i = 0 ∨ i = 1 := by omega
 rcases this with rfl | rfl
 ·exact ⟨a,by simp [atI,ixN],.inl rfl⟩
 ·exact ⟨b,by simp [atI,ixN],.inr rfl⟩
theorem upM {x : Nat} (h : isUp x = true) : Ja0 x = true := by unfold Ja0; rw [h]; rfl
theorem upW {x : Nat} (h : isUp x = true) : J4w x = true := by unfold J4w; rw [h]; rfl
theorem Jbk {x : Nat} (h : Ja0 x = true) : J2L [x] = true := by simp [J2L,h]
theorem Je4 {x y : Nat} (h : J4w x = true) (g : J4w y = true) : J2K [x,y] = true := by simp [J2K,h,g]
theorem JfB {x y z : Nat} (h : J4w x = true) (g : J4w y = true) (k : J4w z = true) : J2K [x,y,z] = true := by simp [J2K,h,g,k]
section
variable {P : Program} {w : World} {K : PySem.W.Frag} {mg : Str → Option Value} {base : Heap} {J8 Jb J7 Ja J3 Jh J2 J1 : Addr}
theorem Jb2 (tx : Tx K mg J8 Jb J7 Ja J3 Jh J2 J1) : FnG P w K mg base "_law_rule" 3 ["_law_cell","_law_kinds_here"] (Jfe (cs6 J8 Jb J7 Ja J3 Jh J2 J1)) := by
 have J66 := tx.J2T.g (J8f (P := P) (w := w) (base := base) tx)
 have J8B := tx.J30.g (J9S (P := P) (w := w) (base := base) tx)
 have J68 := tx.J1Y.g (J8D (P := P) (w := w) (base := base) tx)
 have JaF := tx.J3m.g (J9U (P := P) (w := w) (base := base) tx)
 have J9F := tx.J18.g (J7J (P := P) (w := w) (base := base) tx)
 have JeR := tx.J6y.g (JaN (P := P) (w := w) (base := base) tx)
 refine tx.JaZ.g J38 (fun _ _ _ _ _ _ us hl => match us,hl with | [_,_],_ => rfl) (fun vs H Q E h => ?_) (fun f cdv A outer s H vs Q E hr h => ?_)
 ·obtain ⟨c,ks,rfl,_⟩ := h
  rfl
 ·obtain ⟨c,ks,rfl,k1,k4,hup,q⟩ := h
  refine ⟨_,(J5 (Jj (i := 2) J38.nd rfl (Or.inl rfl) (JE J0V (pv 1) (Jf JF (Jf JQ (pv 0) Jd) (Jt J03 rfl tx.J0c PySem.boot_len (J0 (pv 1) J6))) (fun _ _ => rfl)))
   (J5 (Jj (i := 3) J38.nd rfl (Or.inl rfl) (Jf JL Jd (Jf JF (Jf JQ (pv 0) Jd) Jd)))
   (J5 (Jj (i := 4) J38.nd rfl (Or.inl rfl) (Jf JF (Jf JQ (pv 0) Jd) Jd))
   (J5 (J01 (Jl J0f (Jf JF (pv 0) Jd) Jd (Jq _)) (Jc (Jp (J1y (r := rNev (cs6 J8 Jb J7 Ja J3 Jh J2 J1)) J66 (hr.mono (by decide)) Jbd (J0 (Jf J0F (pv 2) (JE (JG (K := K) rfl) (J17 (J0 (pv 2) (J0 (Jv (l := [45]) (by decide +kernel)) (J0 (Jv (l := [35]) (by decide +kernel)) J6)))) (Jf JF (Jf JQ (pv 0) Jd) Jd) (fun _ _ => rfl))) J6)))) JA)
   (J5 (J01 (Jl J0f (Jf JF (pv 0) Jd) Jd (Jq _)) (Jc (Jp (J1y (r := JbO (cs6 J8 Jb J7 Ja J3 Jh J2 J1)) J8B (hr.mono (by decide)) J9g (J0 (Jf JL Jd (pv 4)) (J0 (JE (JG (K := K) rfl) (J17 (J0 (Jv (l := [35]) (by decide +kernel)) (J0 (pv 2) J6))) (Jf JF (Jf JQ (pv 0) Jd) Jd) (fun _ _ => rfl)) (J0 (Jf JL Jd (pv 3)) J6)))))) JA)
   (J5 (J01 (Jl J0f (Jf JF (pv 0) Jd) Jd (Jq _)) (Jc (Jp (J1y (r := J8T (cs6 J8 Jb J7 Ja J3 Jh J2 J1)) J68 (hr.mono (by decide)) J7g (J0 Jd (J0 (Jv (l := [45]) (by decide +kernel)) (J0 (pv 3) J6)))))) JA)
   (J5 (J01 (Jl J0f (Jf JF (pv 0) Jd) Jd (Jq _)) (Jc (Jp (J1y (r := JbJ (cs6 J8 Jb J7 Ja J3 Jh J2 J1)) J9F (hr.mono (by decide)) Jct (J0 (J1y (r := rNev (cs6 J8 Jb J7 Ja J3 Jh J2 J1)) J66 (hr.mono (by decide)) Jbd (J0 (Jf J0F (Jv (l := [63]) (by decide +kernel)) (pv 2)) J6)) (J0 (J1y (r := JbO (cs6 J8 Jb J7 Ja J3 Jh J2 J1)) J8B (hr.mono (by decide)) J9g (J0 (pv 4) (J0 (pv 2) (J0 (pv 3) J6)))) J6))))) JA)
   (J5 (J01 (Jl J0f (Jf JF (pv 0) Jd) Jd (Jq _)) (Jc (Jp (J1y (r := rNot (cs6 J8 Jb J7 Ja J3 Jh J2 J1)) JeR (hr.mono (by decide)) Jfv (J0 (J1y (r := JdK (cs6 J8 Jb J7 Ja J3 Jh J2 J1)) JaF (hr.mono (by decide)) JbM (J0 (J1y (r := J8T (cs6 J8 Jb J7 Ja J3 Jh J2 J1)) J68 (hr.mono (by decide)) J7g (J0 Jd (J0 (pv 2) (J0 Jd J6)))) (J0 (J1y (r := J8T (cs6 J8 Jb J7 Ja J3 Jh J2 J1)) J68 (hr.mono (by decide)) J7g (J0 (pv 4) (J0 (Jv (l := [35,45]) (by decide +kernel)) (J0 Jd J6)))) J6))) J6)))) JA)
   (Jc (Jp (J1y (r := JdK (cs6 J8 Jb J7 Ja J3 Jh J2 J1)) JaF (hr.mono (by decide)) JbM (J0 (J1y (r := JbO (cs6 J8 Jb J7 Ja J3 Jh J2 J1)) J8B (hr.mono (by decide)) J9g (J0 Jd (J0 (Jv (l := [35]) (by decide +kernel)) (J0 Jd J6)))) (J0 (J1y (r := rNev (cs6 J8 Jb J7 Ja J3 Jh J2 J1)) J66 (hr.mono (by decide)) Jbd (J0 (Jf J0F (Jv (l := [35,45]) (by decide +kernel)) (pv 2)) J6)) J6))))))))))))),?_⟩
  walk_at "st"
  clear J66 J8B J68 JaF J9F JeR
  have kp : (0 : Int) < (ks.length : Int) := by omega
  obtain ⟨x,hx,hx2⟩ := J2E ks (c / 6 % (ks.length : Int)) (Int.emod_nonneg _ (by omega)) (Int.emod_lt_of_pos _ kp)
  have ux := hup x (List.mem_of_getElem? hx2)
  have e18 : 0 ≤ c / 18 % 2 := Int.emod_nonneg _ (by decide)
  have f18 : c / 18 % 2 < 2 := Int.emod_lt_of_pos _ (by decide)
  have e36 : 0 ≤ c / 36 % 2 := Int.emod_nonneg _ (by decide)
  have f36 : c / 36 % 2 < 2 := Int.emod_lt_of_pos _ (by decide)
  walk_at "rd"
  generalize hdd : 2 + c / 18 % 2 = dd
  generalize hmm : c / 36 % 2 = mm at e36 f36
  have d2 : 2 ≤ dd := by omega
  have d3 : dd ≤ 3 := by omega
  clear hdd e18 f18
  refine ite2 (fun _ => ?_) (fun _ => ?_)
  ·obtain ⟨wd,hw,hw2⟩ := JdJ [x] [45] [35] (c / 72 % 3) (Int.emod_nonneg _ (by decide)) (Int.emod_lt_of_pos _ (by decide))
   have hw3 : ∃ y,wd = [y] ∧ J4w y = true := by
    rcases hw2 with rfl | rfl | rfl
    ·exact ⟨x,rfl,upW ux⟩
    ·exact ⟨45,rfl,by decide⟩
    ·exact ⟨35,rfl,by decide⟩
   obtain ⟨y,rfl,hy⟩ := hw3
   walk_at "rd"
   intro l nl
   obtain ⟨H1,e1,h1,s1⟩ := newl (xs := [T [x],T [45],T [35]]) nl
   rw [← e1]
   walk_at "rd"
   intro p H2 s2 hR
   walk_at "rd"
   exact q (.nev ([x] ++ [y])) p H2 (Je4 (upW ux) hy) (by show (2 : Int) ≤ 6; decide) (Nat.zero_le _) (s1.trans s2) hR
  walk_at "rd"
  refine ite2 (fun _ => ?_) (fun _ => ?_)
  ·obtain ⟨wd,hw,hw2⟩ := Jd3 [35] [x] (c / 72 % 2) (Int.emod_nonneg _ (by decide)) (Int.emod_lt_of_pos _ (by decide))
   have hw3 : J2L wd = true ∧ wd.length ≤ 1000 := by
    rcases hw2 with rfl | rfl
    ·exact ⟨by decide,by decide⟩
    ·exact ⟨Jbk (upM ux),by rw [List.length_singleton]; decide⟩
   obtain ⟨hy,hyl⟩ := hw3
   walk_at "rd"
   intro l nl
   obtain ⟨H1,e1,h1,s1⟩ := newl (xs := [T [35],T [x]]) nl
   rw [← e1]
   walk_at "rd"
   intro p H2 s2 hR
   walk_at "rd"
   exact q (.most (1 + mm) wd (1 + dd)) p H2 ⟨⟨by omega,by omega⟩,⟨by omega,by omega⟩,hy⟩ (by show 1 + dd ≤ 6; omega) (Nat.zero_le _) (s1.trans s2) hR
  walk_at "rd"
  refine ite2 (fun _ => ?_) (fun _ => ?_)
  ·walk_at "rd"
   intro p H2 s2 hR
   walk_at "rd"
   exact q (.least 1 [45] dd) p H2 ⟨⟨by decide,by decide⟩,⟨by omega,by omega⟩,by decide⟩ (by show dd ≤ 6; omega) (Nat.zero_le _) s2 hR
  walk_at "rd"
  refine ite2 (fun _ => ?_) (fun _ => ?_)
  ·walk_at "rd"
   intro p1 H1 s1 h1
   walk_at "rd"
   intro p2 H2 s2 h2
   have h1' := h1.same s2
   walk_at "rd"
   intro p dx H3 s3 hR _
   walk_at "rd"
   exact q (.either (.nev ([63] ++ [x])) (.most mm [x] dd)) p H3 ⟨by show J2K [63,x] = true; exact Je4 (by decide) (upW ux),⟨by omega,by omega⟩,⟨by omega,by omega⟩,Jbk (upM ux)⟩ (by show (if dd > 2 then dd else 2) ≤ 6; split <;> omega) (by show (max 0 0 + 1) ≤ 2; decide) ((s1.trans s2).trans s3) hR
  walk_at "rd"
  refine ite2 (fun _ => ?_) (fun _ => ?_)
  ·walk_at "rd"
   intro p1 H1 s1 h1
   walk_at "rd"
   intro p2 H2 s2 h2
   have h1' := h1.same s2
   walk_at "rd"
   intro p3 dx H3 s3 h3 _
   walk_at "rd"
   intro p dx H4 s4 hR _
   walk_at "rd"
   exact q (.neg (.both (.least 1 [x] 2) (.least mm [35,45] 1))) p H4 ⟨⟨⟨by decide,by decide⟩,⟨by decide,by decide⟩,Jbk (upM ux)⟩,⟨by omega,by omega⟩,⟨by decide,by decide⟩,by decide⟩ (by show (if (1 : Int) > 2 then (1 : Int) else 2) ≤ 6; decide) (by show (max 0 0 + 1 + 1) ≤ 2; decide) (((s1.trans s2).trans s3).trans s4) hR
  walk_at "rd"
  intro p1 H1 s1 h1
  walk_at "rd"
  intro p2 H2 s2 h2
  have h1' := h1.same s2
  walk_at "rd"
  intro p dx H3 s3 hR _
  walk_at "rd"
  exact q (.both (.most 1 [35] 2) (.nev ([35,45] ++ [x]))) p H3 ⟨⟨⟨by decide,by decide⟩,⟨by decide,by decide⟩,by decide⟩,by show J2K [35,45,x] = true; exact JfB (by decide) (by decide) (upW ux)⟩ (by show (if (3 : Int) > 2 then (3 : Int) else 2) ≤ 6; decide) (by show (max 0 0 + 1) ≤ 2; decide) ((s1.trans s2).trans s3) hR
end
noncomputable def RlT (c6 : Cs) : List Nat × R → V → Hp → Prop := fun e y H => ∃ t p,y = .ref t ∧ H t = some (.tup [T e.1,.ref p]) ∧ JD c6 H e.2 p
theorem RlT.keeps {c6 : Cs} (n : List Nat × R) (y : V) (Ha Hb : Hp) (k : JO Ha Hb) (h : RlT c6 n y Ha) : RlT c6 n y Hb := let ⟨t,p,e,h,g⟩ := h; ⟨t,p,e,k _ _ h (fun zs z => by cases z),JD.keeps k g⟩
structure JbQ (ps : List Ps) (rows : List (List Nat)) (e : List Nat × R) : Prop where
 ok : e.2.ok
 far : e.2.reach ≤ 6
 dp : e.2.depth ≤ 2
 kp : ∀ (i : Nat) (n : Ps) (row : List Nat),ps[i]? = some n → rows[i]? = some row → (e.1 = wAll ∨ e.1 = n.nm) → badL e.2 n.past row = []
theorem JbD (ns : List Int) (a : Int) (h : 0 ≤ a) : (cutN ns (some a) (some (a + 6))).length ≤ 6 := by
 rw [Jem ns a (a + 6) h (by omega),List.length_drop,List.length_take]
 omega
noncomputable def Jfm (K : PySem.W.Frag) (c6 : Cs) (C : Addr) : Sp := fun vs H Q _ => ∃ (a r pl : Addr) (ks : List Nat) (st : Int) (ns : List Int) (rows : List (List Nat)) (ps : List Ps) (ys : List V),vs = [.ref a,.ref r,.ref pl,T ks,.int st] ∧ SqL K H a (ns.map V.int) ∧ H r = some (.lst (rows.map T)) ∧ H pl = some (.lst ys) ∧ All2 (PsO C) H ps ys ∧ ps.length = rows.length ∧ 1 ≤ rows.length ∧ rows.length ≤ 6 ∧ (∀ row ∈ rows,row.length ≤ 10) ∧ (∀ n ∈ ps,n.past.length ≤ 6) ∧ 1 ≤ ks.length ∧ ks.length ≤ 4 ∧ (∀ x ∈ ks,isUp x = true) ∧ 0 ≤ st ∧
 ∀ (D : Addr) (H' : Hp) (rs : List (List Nat × R)) (xs : List V),Same H H' → H D = none → H' D = some (.lst xs) → All2 (RlT c6) H' rs xs → rs.length ≤ 6 → (∀ e ∈ rs,JbQ ps rows e) → Q (.ref D) H'
section
variable {P : Program} {w : World} {K : PySem.W.Frag} {mg : Str → Option Value} {base : Heap} {J8 Jb J7 Ja J3 Jh J2 J1 : Addr}
local macro_rules | `(tactic| walk_at "lk") => `(tactic| first | exact J2n _ _ _ _ _ | exact J5g _ _ _ _ _)
theorem J4U (tx : Tx K mg J8 Jb J7 Ja J3 Jh J2 J1) : FnG P w K mg base "_law_rules_about" 32 ["_law_script","_law_rota","_law_persons","_law_kinds_here","_law_start"] (Jfm K (cs6 J8 Jb J7 Ja J3 Jh J2 J1) J2) := by
 have J6K := Jb2 (P := P) (w := w) (base := base) tx
 have J6p := JaS (P := P) (w := w) (base := base) tx
 refine tx.J57.g JH (fun _ _ _ _ _ _ us hl => match us,hl with | [_,_,_,_,_],_ => rfl) (fun vs H Q E h => ?_) (fun f cdv A outer s H vs Q E hr h => ?_)
 ·obtain ⟨a,r,pl,ks,st,ns,rows,ps,ys,rfl,_⟩ := h
  rfl
 ·obtain ⟨a,r,pl,ks,st,ns,rows,ps,ys,rfl,hS,hr1,hp1,hA1,hpl,hr0,hr6,hrow,hpast,k1,k4,hup,st0,q⟩ := h
  refine ⟨_,(J5 (Jj (i := 5) JH.nd rfl (Or.inl rfl) (J17 J6))
   (J5 (J0l PassesOwn.never rfl (J07 (K := K) rfl (J0e (J6W (K := K) rfl) (pv 0) (J0q (pv 4)) (J0q (Jf JL (pv 4) Jd)))) (Jo (i := 6) JH.nd rfl (Or.inl rfl)) (J5 (Jj (i := 7) JH.nd rfl (Or.inl rfl) (Jw J6K (hr.mono (by decide)) (J0 (Jf JQ (pv 6) Jd) (J0 (pv 3) J6))))
   (J5 (Jj (i := 8) JH.nd rfl (Or.inl rfl) (Jv (l := [97,108,108]) (by decide +kernel)))
   (J5 (J2z (J01 (Jl J0f (Jf JF (pv 6) Jd) Jd (Jq _)) (Jc (Jj (i := 8) JH.nd rfl (Or.inl rfl) (Jg (K := K) rfl (JE (JG (K := K) rfl) (pv 2) (Jf JF (Jf JQ (pv 6) Jd) (Jt (JC (K := K) rfl) rfl tx.J0c PySem.boot_len (J0 (pv 2) J6))) (fun _ _ => rfl)) rfl))) JA))
   (J5 (Jj (i := 9) JH.nd rfl (Or.inl rfl) J3h)
   (J5 (J0l PassesOwn.never rfl (J5h (K := K) rfl rfl tx.J4q (J0 (pv 2) (J0 (pv 1) J6))) (J2P rfl (Jz (Jo (i := 10) JH.nd rfl (Or.inl rfl)) (Jz (Jo (i := 11) JH.nd rfl (Or.inl rfl)) J1P))) (Jc (J2z (J01 (PW.pt (J3D (Jl (J97 (K := K) rfl) (pv 8) (J0a (J0 (Jv (l := [97,108,108]) (by decide +kernel)) (J0 (Jg (K := K) rfl (pv 10) rfl) J6))) rfl) (J3I (Jl (JfV (K := K) rfl hr.units0) (Jw J6p (hr.mono (by decide)) (J0 (pv 7) (J0 (Jg (K := K) rfl (pv 10) rfl) (J0 (pv 11) J6)))) (J17 J6) (Jq _))))) (Jc (Jj (i := 9) JH.nd rfl (Or.inl rfl) J3h)) JA))))
   (Jc (J2z (J01 (J3Z (pv 9)) (Jc (J1O (J3k PySem.F.plainAttrs_list PySem.F.slot_list_append PySem.F.type_list_append J09 (pv 5) (J0 (J0a (J0 (pv 8) (J0 (pv 7) J6))) J6)))) JA)))))))))
   (Jc (Jp (pv 5))))),?_⟩
  walk_at "st"
  clear J6K J6p
  have hcl := tx.JS.cl
  have hna := tx.Jy
  have hnb := tx.J0d
  have hyl := hA1.len
  have yp : (0 : Int) < (ys.length : Int) := by omega
  walk_at "rd"
  intro fl nfl
  obtain ⟨H1,e1,hfl,s1⟩ := newl (xs := []) nfl
  rw [← e1]
  clear e1
  have hS1 := s1.seq hS
  walk_at "rd"
  intro cl ncl
  rw [Jay]
  have hcs := JbD ns st st0
  generalize cutN ns (some st) (some (st + 6)) = cs at hcs ⊢
  obtain ⟨H2,e2,hcl2,s2⟩ := newl (xs := cs.map V.int) ncl
  rw [← e2]
  clear e2
  have hfl2 := s2 _ _ hfl
  have s02 := s1.trans s2
  have nfc : cl ≠ fl := (Je hfl ncl).symm
  walk_at "rd"
  refine J3y (K := K) (xs := cs.map V.int) (fun i σ H3 => Here (∃ v1 v2 v3 v4 v5 v6 rs xv,σ = [some (.ref a),some (.ref r),some (.ref pl),some (T ks),some (.int st),some (.ref fl),v1,v2,v3,v4,v5,v6] ∧ H3 fl = some (.lst xv) ∧ All2 (RlT (cs6 J8 Jb J7 Ja J3 Jh J2 J1)) H3 rs xv ∧ rs.length ≤ i ∧ (∀ e ∈ rs,JbQ ps rows e) ∧ H3 cl = some (.lst (cs.map V.int)) ∧ Same H H3))
   (Here.mk ⟨none,none,none,none,none,none,[],[],rfl,hfl2,trivial,Nat.le_refl _,fun e he => absurd he List.not_mem_nil,hcl2,s02⟩) (fun i σ H3 _ hv => by obtain ⟨_,_,_,_,_,_,_,_,_,_,_,_,_,h,_⟩ := hv.out; exact SqL.of h) ?_ ?_
  ·rintro i x σ H3 hx hv
   obtain ⟨v1,v2,v3,v4,v5,v6,rs,xv,rfl,hf3,hA3,hl3,hg3,hc3,s3⟩ := hv.out
   have hi : i < cs.length := by have := (List.getElem?_eq_some_iff.mp hx).1; rwa [List.length_map] at this
   obtain ⟨z,rfl⟩ : ∃ z,x = .int z := by
    obtain ⟨n,_,e⟩ := List.mem_map.mp (List.mem_of_getElem? hx)
    exact ⟨n,e.symm⟩
   walk_at "rd"
   intro ru rp H4 rok rfar rdp s4 hR4
   have s04 := s3.trans s4
   have hp4 := s04 _ _ hp1
   walk_at "rd"
   refine tCut.mk (fun σ' H' => Here (∃ nm,σ' = [some (.ref a),some (.ref r),some (.ref pl),some (T ks),some (.int st),some (.ref fl),some (.int z),some (.ref rp),some (T nm),v4,v5,v6] ∧ H' = H4)) ?_ ?_
   ·walk_at "rd"
    refine ite2 (fun _ => ?_) (fun _ => ?_)
    ·obtain ⟨n,hn,hn2⟩ := J2E ps (z / 4 % (ys.length : Int)) (Int.emod_nonneg _ (by omega)) (by rw [← hyl]; exact Int.emod_lt_of_pos _ yp)
     obtain ⟨y,hy,pa,rfl,dx,hpa⟩ := hA1.get hn2
     have ay : atI ys (z / 4 % (ys.length : Int)) = some (.ref pa) := by
      have := J0E hy
      rwa [Int.toNat_of_nonneg (Int.emod_nonneg _ (by omega))] at this
     have hpa4 := s04 _ _ hpa
     walk_at "rd"
     exact Here.mk ⟨_,rfl,rfl⟩
    ·exact Here.mk ⟨_,rfl,rfl⟩
   rintro σ' H' hv
   obtain ⟨nm,rfl,eH⟩ := hv.out
   rw [eH]
   clear hv eH
   have hr4 := s04 _ _ hr1
   have hf4 := s4 _ _ hf3
   have hc4 := s4 _ _ hc3
   walk_at "rd"
   refine Jax (K := K) (xs := ys) (ys := rows.map T) (fun j σ H5 => Here (∃ (v5 v6 : Option V) (kp : Bool),σ = [some (.ref a),some (.ref r),some (.ref pl),some (T ks),some (.int st),some (.ref fl),some (.int z),some (.ref rp),some (T nm),some (.bl kp),v5,v6] ∧ (kp = true → ∀ (l : Nat) (n : Ps) (row : List Nat),l < j → ps[l]? = some n → rows[l]? = some row → (nm = wAll ∨ nm = n.nm) → badL ru n.past row = []) ∧ Same H4 H5))
    (Here.mk ⟨_,_,true,rfl,fun _ l n row h => absurd h (Nat.not_lt_zero l),Same.refl _⟩) (fun j σ H5 _ _ hv => by obtain ⟨_,_,_,_,_,s5⟩ := hv.out; exact ⟨SqL.of (s5 _ _ hp4),SqL.of (s5 _ _ hr4)⟩) ?_ ?_
   ·rintro j x y p σ H5 hx hy hp hv
    obtain ⟨w5,w6,kp,rfl,hkp,s5⟩ := hv.out
    obtain ⟨n,hn,pa,rfl,dx,hpa⟩ := hA1.back hx
    obtain ⟨row,hrw,rfl⟩ : ∃ row,rows[j]? = some row ∧ y = T row := by
     rw [List.getElem?_map] at hy
     cases e : rows[j]? with
     | none => rw [e] at hy; cases hy
     | some z => rw [e] at hy; exact ⟨z,rfl,(Option.some.inj hy).symm⟩
    have hrl := hrow row (List.mem_of_getElem? hrw)
    have hpn := hpast n (List.mem_of_getElem? hn)
    obtain ⟨H6,e6,hp6,s6⟩ := newt (xs := [V.ref pa,T row]) hp
    rw [← e6]
    clear e6
    have s46 := s5.trans s6
    have hpa6 := s46 _ _ (s04 _ _ hpa)
    walk_at "rd"
    refine tCut.mk (fun σ' H' => Here (∃ (kp : Bool),σ' = [some (.ref a),some (.ref r),some (.ref pl),some (T ks),some (.int st),some (.ref fl),some (.int z),some (.ref rp),some (T nm),some (.bl kp),some (.ref pa),some (T row)] ∧ (kp = true → ∀ (l : Nat) (n : Ps) (row : List Nat),l < j + 1 → ps[l]? = some n → rows[l]? = some row → (nm = wAll ∨ nm = n.nm) → badL ru n.past row = []) ∧ Same H4 H')) ?_ (fun σ' H' hv => by obtain ⟨kp,e,g⟩ := hv.out; exact Here.mk ⟨_,_,kp,e,g⟩)
    have nxt : kp = true → ((nm = wAll ∨ nm = n.nm) → badL ru n.past row = []) → ∀ (l : Nat) (n : Ps) (row : List Nat),l < j + 1 → ps[l]? = some n → rows[l]? = some row → (nm = wAll ∨ nm = n.nm) → badL ru n.past row = [] := fun e h l n' row' hl h1 h2 h3 => by
     by_cases hlj : l = j
     ·subst hlj
      rw [hn] at h1
      rw [hrw] at h2
      cases h1
      cases h2
      exact h h3
     ·exact hkp e l n' row' (by omega) h1 h2 h3
    walk_at "rd"
    intro tt ntt
    obtain ⟨H7,e7,htt,s7⟩ := newt (xs := [T wAll,T n.nm]) ntt
    rw [← e7]
    clear e7
    have f1 : J0j (T nm) = true := rfl
    have f2 : [T wAll,T n.nm].all J0j = true := rfl
    have hI2 : SqL K H7 tt [T wAll,T n.nm] ∨ SqT K H7 tt [T wAll,T n.nm] := .inr (SqT.of htt)
    have eB : inV (T nm) [T wAll,T n.nm] = decide (nm ∈ [wAll,n.nm]) := Jdl nm [wAll,n.nm]
    have s47 := s46.trans s7
    have hR7 := hR4.same s47
    have hpa7 := s7 _ _ hpa6
    walk_at "rd"
    refine ite2 (fun c => ?_) (fun c => ?_)
    ·have hd23 : ru.depth ≤ 23 := by omega
     have p300 : n.past.length ≤ 300 := by omega
     have r300 : row.length ≤ 300 := by omega
     walk_at "rd"
     intro Db H8 s8 nDb hDb
     walk_at "rd"
     intro em nem
     obtain ⟨H9,e9,hem,s9⟩ := newl (xs := []) nem
     rw [← e9]
     clear e9
     have hDb9 := s9 _ _ hDb
     have s49 := (s47.trans s8).trans s9
     refine ⟨Db,em,_,rfl,rfl,SqL.of hDb9,SqL.of hem,_,rfl,?_⟩
     refine ite2 (fun c2 => ?_) (fun c2 => ?_)
     ·walk_at "rd"
      exact Here.mk ⟨false,rfl,fun e => absurd e (by decide),s49⟩
     ·have e0 : badL ru n.past row = [] := by
       cases eb : badL ru n.past row with
       | nil => rfl
       | cons u v => rw [eb] at c2; exact absurd rfl c2
      exact Here.mk ⟨kp,rfl,fun e => nxt e fun _ => e0,s49⟩
    ·refine Here.mk ⟨kp,rfl,fun e => nxt e fun h3 => absurd ?_ c,s47⟩
     show inV (T nm) [T wAll,T n.nm] = true
     rw [eB]
     refine decide_eq_true ?_
     rcases h3 with h3 | h3
     ·rw [h3]; exact List.mem_cons_self
     ·rw [h3]; exact List.mem_cons_of_mem _ List.mem_cons_self
   ·rintro j σ H5 hj hv
    obtain ⟨w5,w6,kp,rfl,hkp,s5⟩ := hv.out
    rw [List.length_map] at hj
    have hjl : j = rows.length := by omega
    have s05 := s04.trans s5
    have hf5 := s5 _ _ hf4
    have hc5 := s5 _ _ hc4
    have hR5 := hR4.same s5
    have hA5 := hA3.imp fun a y => RlT.keeps a y _ _ (s4.trans s5).keeps
    have hxl := hA3.len
    refine tCut.mk (fun σ' H' => Here (∃ rs xv,σ' = [some (.ref a),some (.ref r),some (.ref pl),some (T ks),some (.int st),some (.ref fl),some (.int z),some (.ref rp),some (T nm),some (.bl kp),w5,w6] ∧ H' fl = some (.lst xv) ∧ All2 (RlT (cs6 J8 Jb J7 Ja J3 Jh J2 J1)) H' rs xv ∧ rs.length ≤ i + 1 ∧ (∀ e ∈ rs,JbQ ps rows e) ∧ H' cl = some (.lst (cs.map V.int)) ∧ Same H H')) ?_ (fun σ' H' hv => by obtain ⟨rs,xv,e,g⟩ := hv.out; exact Here.mk ⟨_,_,_,_,_,_,rs,xv,e,g⟩)
    have xl : xv.length ≤ 100 := by omega
    walk_at "rd"
    refine ite2 (fun c => ?_) (fun c => ?_)
    ·walk_at "rd"
     intro t nt
     obtain ⟨H6,e6,ht6,s6⟩ := newt (xs := [T nm,V.ref rp]) nt
     rw [← e6]
     clear e6
     have hf6 := s6 _ _ hf5
     have kk : JO H6 (upd H6 fl (.lst (xv ++ [.ref t]))) := JR hf6
     walk_at "rd"
     refine Here.mk ⟨rs ++ [(nm,ru)],xv ++ [.ref t],rfl,J9,All2.snoc (hA5.imp fun a y => RlT.keeps a y _ _ (s6.keeps.trans kk)) ⟨t,rp,rfl,kk _ _ ht6 (fun zs z => by cases z),JD.keeps (s6.keeps.trans kk) hR5⟩,by rw [List.length_append,List.length_singleton]; omega,fun e he => ?_,by rw [Ji nfc]; exact s6 _ _ hc5,(s05.trans s6).upd nfl⟩
     rcases List.mem_append.mp he with he | he
     ·exact hg3 e he
     ·rw [List.mem_singleton.mp he]
      exact ⟨rok,rfar,rdp,fun l n row h1 h2 h3 => hkp c l n row (by have := (List.getElem?_eq_some_iff.mp h2).1; omega) h1 h2 h3⟩
    ·exact Here.mk ⟨rs,xv,rfl,hf5,hA5,by omega,hg3,hc5,s05⟩
  ·rintro σ H3 hv
   obtain ⟨v1,v2,v3,v4,v5,v6,rs,xv,rfl,hf3,hA3,hl3,hg3,hc3,s3⟩ := hv.out
   rw [List.length_map] at hl3
   walk_at "rd"
   exact q fl H3 rs xv s3 nfl hf3 hA3 (by omega) hg3
end
theorem Jbp {l1 l2 : List Nat} {g : TG} {tb : TS} {D : Ends} {σ : St} {H : Hp} (Pv : Nat → St → Hp → Prop) (h0 : Pv 0 σ H)
  (hs : ∀ i c d p σ H,l1[i]? = some c → l2[i]? = some d → H p = none → Pv i σ H → g (.ref p) σ (upd H p (.tup [T [c],T [d]])) fun σ2 H2 => tb { D with nx := Pv (i + 1),ct := Pv (i + 1),bk := D.nx } σ2 H2) (hd : ∀ i σ H,i = l1.length ∨ i = l2.length → Pv i σ H → D.nx σ H) :
  ∃ W : Nat → Nat → St → Hp → Prop,(∃ m,W 0 m σ H) ∧ ∀ i m σ H,W i m σ H →
   ((Itz l1 l2).stop i H ∧ D.nx σ H) ∨ ((Itz l1 l2).go i H ∧ ∃ N : St → Hp → Prop,(∀ σ' H',N σ' H' → ∃ m',m' < m ∧ W (i + 1) m' σ' H') ∧ ∀ x H',(Itz l1 l2).yld i H x H' → g x σ H' fun σ2 H2 => tb { D with nx := N,ct := N,bk := D.nx } σ2 H2) := by
 refine ⟨fun i m σ H => m = l1.length - i ∧ i ≤ l1.length ∧ i ≤ l2.length ∧ Pv i σ H,⟨l1.length,by simp,Nat.zero_le _,Nat.zero_le _,h0⟩,?_⟩
 rintro i m σ H ⟨rfl,hi,hj,p⟩
 by_cases hlt : i < l1.length ∧ i < l2.length
 ·refine .inr ⟨hlt,Pv (i + 1),fun σ' H' p' => ⟨l1.length - (i + 1),by omega,rfl,hlt.1,hlt.2,p'⟩,fun x H' y => ?_⟩
  obtain ⟨r,c,d,hr,e1,e2,rfl,rfl⟩ := y
  exact hs i c d r σ H e1 e2 hr p
 ·have e : i = l1.length ∨ i = l2.length := by omega
  exact .inl ⟨by show i = l1.length ∨ (i < l1.length ∧ i = l2.length); omega,hd i σ H e p⟩
noncomputable abbrev J7Q : List Nat := [119,105,116,104]
structure J6T (ps : List Ps) (rows : List (List Nat)) (d : Int) (p : Pr) : Prop where
 inn : PrIn ps p
 wd : p.wd = J2o ∨ p.wd = J7Q
 il : p.i < rows.length
 jl : p.j < rows.length
 ok : ∀ e : Nat,(e : Int) < d → paB rows (e : Int) p = false
noncomputable def Jei (K : PySem.W.Frag) (C : Addr) : Sp := fun vs H Q _ => ∃ (r pl : Addr) (c cn d : Int) (rows : List (List Nat)) (ps : List Ps) (ys : List V),vs = [.ref r,.ref pl,.int c] ∧ H r = some (.lst (rows.map T)) ∧ H pl = some (.lst ys) ∧ All2 (PsO C) H ps ys ∧ ps.length = rows.length ∧ 1 ≤ rows.length ∧ rows.length ≤ 6 ∧ d ≤ 10 ∧ (∀ row ∈ rows,(row.length : Int) = d) ∧ (∀ (i : Nat) (n : Ps),ps[i]? = some n → n.nm = J4v cn (0 + (i : Int))) ∧
 ∀ (D : Addr) (H' : Hp) (prs : List Pr) (xs : List V),Same H H' → H D = none → H' D = some (.lst xs) → All2 PrT H' prs xs → prs.length ≤ 2 → (∀ p ∈ prs,J6T ps rows d p) → Q (.ref D) H'
theorem JfY {wd : List Nat} {m o : Nat} (h : ¬ decide (T [m] = T [o]) = decide (T wd = T J2o)) : brkB wd m o = false := by
 have e1 : decide (T [m] = T [o]) = decide (m = o) := by
  by_cases z : m = o
  ·subst z; simp
  ·rw [decide_eq_false z,decide_eq_false fun h => z (by simpa using J2p h)]
 have e2 : decide (T wd = T J2o) = decide (wd = J2o) := by
  by_cases z : wd = J2o
  ·subst z; simp
  ·rw [decide_eq_false z,decide_eq_false fun h => z (J2p h)]
 rw [e1,e2] at h
 unfold brkB
 by_cases z : wd = J2o
 ·rw [if_pos z]
  rw [decide_eq_true z] at h
  cases e : decide (m = o) with
  | true => exact absurd e h
  | false => rw [Bool.and_false]
 ·rw [if_neg z]
  rw [decide_eq_false z] at h
  cases e : decide (m = o) with
  | true => exact Bool.and_false _
  | false => exact absurd e h
theorem Jat {rows : List (List Nat)} {i : Int} (h0 : 0 ≤ i) (h1 : i < (rows.length : Int)) : ∃ row,rows[i.toNat]? = some row ∧ atI (rows.map T) i = some (T row) := by
 have hi : i.toNat < rows.length := by omega
 refine ⟨rows[i.toNat],List.getElem?_eq_getElem hi,?_⟩
 have := J0E (xs := rows.map T) (j := i.toNat) (v := T rows[i.toNat]) (by rw [List.getElem?_map,List.getElem?_eq_getElem hi]; rfl)
 rwa [Int.toNat_of_nonneg h0] at this
theorem J71 {C : Addr} {H : Hp} {ps : List Ps} {ys : List V} (hA : All2 (PsO C) H ps ys) {i : Int} (h0 : 0 ≤ i) (h1 : i < (ys.length : Int)) : ∃ n pa dx,ps[i.toNat]? = some n ∧ atI ys i = some (.ref pa) ∧ H pa = some (.ins C dx (fP (T n.nm) (T n.sk) (.int n.most) (.int n.car) (T n.past))) := by
 have hl := hA.len
 have hi : i.toNat < ps.length := by omega
 obtain ⟨y,hy,pa,rfl,dx,hpa⟩ := hA.get (List.getElem?_eq_getElem hi)
 refine ⟨_,pa,dx,List.getElem?_eq_getElem hi,?_,hpa⟩
 have := J0E hy
 rwa [Int.toNat_of_nonneg h0] at this
theorem Jag {ps : List Ps} {cn : Int} (h6 : ps.length ≤ 6) (hn : ∀ (i : Nat) (n : Ps),ps[i]? = some n → n.nm = J4v cn (0 + (i : Int))) {i : Nat} {n : Ps} (h : ps[i]? = some n) : (ps.map (·.nm))[i]? = some n.nm ∧ ∀ j < i,¬ (ps.map (·.nm))[j]? = some n.nm := by
 refine ⟨by rw [List.getElem?_map,h]; rfl,fun j hj e => ?_⟩
 rw [List.getElem?_map] at e
 cases e2 : ps[j]? with
 | none => rw [e2] at e; cases e
 | some m =>
  rw [e2] at e
  have e3 : m.nm = n.nm := Option.some.inj e
  rw [hn j m e2,hn i n h] at e3
  have hi := (List.getElem?_eq_some_iff.mp h).1
  have := J7Z (c := cn) (p := 0 + (j : Int)) (q := 0 + (i : Int)) ⟨by omega,by omega⟩ ⟨by omega,by omega⟩ e3
  omega
section
variable {P : Program} {w : World} {K : PySem.W.Frag} {mg : Str → Option Value} {base : Heap} {J8 Jb J7 Ja J3 Jh J2 J1 : Addr}
local macro_rules | `(tactic| walk_at "lk") => `(tactic| exact J2n _ _ _ _ _)
theorem J4J (tx : Tx K mg J8 Jb J7 Ja J3 Jh J2 J1) : FnG P w K mg base "_law_pairs_about" 2 ["_law_rota","_law_persons","_law_cell"] (Jei K J2) := by
 refine tx.J4O.g JI (fun _ _ _ _ _ _ us hl => match us,hl with | [_,_,_],_ => rfl) (fun vs H Q E h => ?_) (fun f cdv A outer s H vs Q E hr h => ?_)
 ·obtain ⟨r,pl,c,cn,d,rows,ps,ys,rfl,_⟩ := h
  rfl
 ·obtain ⟨r,pl,c,cn,d,rows,ps,ys,rfl,hr1,hp1,hA1,hpl,hr0,hr6,d10,hrow,hnm,q⟩ := h
  refine ⟨_,(J5 (Jj (i := 3) JI.nd rfl (Or.inl rfl) (J17 J6))
   (J5 (J0l PassesOwn.never rfl (J07 (K := K) rfl (J17 (J0 (J0a (J0 (Jv (l := [97,112,97,114,116]) (by decide +kernel)) (J0 (Jf JQ (pv 2) Jd) J6))) (J0 (J0a (J0 (Jv (l := [119,105,116,104]) (by decide +kernel)) (J0 (Jf JQ (pv 2) Jd) J6))) J6)))) (J2P rfl (Jz (Jo (i := 4) JI.nd rfl (Or.inl rfl)) (Jz (Jo (i := 5) JI.nd rfl (Or.inl rfl)) J1P))) (J5 (Jj (i := 6) JI.nd rfl (Or.inl rfl) (Jf JF (pv 5) (Jt (JC (K := K) rfl) rfl tx.J0c PySem.boot_len (J0 (pv 1) J6))))
   (J5 (Jj (i := 7) JI.nd rfl (Or.inl rfl) (Jf JF (Jf JL (pv 6) Jd) (Jt (JC (K := K) rfl) rfl tx.J0c PySem.boot_len (J0 (pv 1) J6))))
   (J5 (Jj (i := 8) JI.nd rfl (Or.inl rfl) J3h)
   (J5 (J0l PassesOwn.never rfl (JbB rfl tx.J4q (J0 (JE (JG (K := K) rfl) (pv 0) (pv 6) (fun _ _ => rfl)) (J0 (JE (JG (K := K) rfl) (pv 0) (pv 7) (fun _ _ => rfl)) J6))) (J2P rfl (Jz (Jo (i := 9) JI.nd rfl (Or.inl rfl)) (Jz (Jo (i := 10) JI.nd rfl (Or.inl rfl)) J1P))) (Jc (J2z (J01 (PW.pt (J3D (Jl J34 (pv 9) (Jv (l := [45]) (by decide +kernel)) (Jq _)) (J3I (Jl J0f (J2m J0f (pv 9) (pv 10) (Jq _)) (J2m J0f (pv 4) (Jv (l := [97,112,97,114,116]) (by decide +kernel)) (Jq _)) (Jq _))))) (Jc (Jj (i := 8) JI.nd rfl (Or.inl rfl) J3h)) JA))))
   (Jc (J2z (J01 (PW.pt (J3D (Jl J34 (pv 6) (pv 7) (Jq _)) (J3D (JcS (J3Z (pv 8))) (J3I (Jl J0f (Jf JF (pv 2) Jd) Jd (Jq _)))))) (Jc (J1O (J3k PySem.F.plainAttrs_list PySem.F.slot_list_append PySem.F.type_list_append J09 (pv 3) (J0 (J0a (J0 (pv 4) (J0 (Jg (K := K) rfl (JE (JG (K := K) rfl) (pv 1) (pv 6) (fun _ _ => rfl)) rfl) (J0 (Jg (K := K) rfl (JE (JG (K := K) rfl) (pv 1) (pv 7) (fun _ _ => rfl)) rfl) J6)))) J6)))) JA))))))))
   (Jc (Jp (pv 3))))),?_⟩
  walk_at "st"
  have hcl := tx.JS.cl
  have hna := tx.Jy
  have hyl := hA1.len
  have yp : (0 : Int) < (ys.length : Int) := by omega
  walk_at "rd"
  intro fl nfl
  obtain ⟨H1,e1,hfl,s1⟩ := newl (xs := []) nfl
  rw [← e1]
  clear e1
  walk_at "rd"
  intro t1 nt1
  obtain ⟨H2,e2,ht1,s2⟩ := newt (xs := [T J2o,V.int (c / 2)]) nt1
  rw [← e2]
  clear e2
  walk_at "rd"
  intro t2 nt2
  obtain ⟨H3,e3,ht2,s3⟩ := newt (xs := [T J7Q,V.int (c / 34)]) nt2
  rw [← e3]
  clear e3
  walk_at "rd"
  intro ll nll
  obtain ⟨H4,e4,hll,s4⟩ := newl (xs := [V.ref t1,V.ref t2]) nll
  rw [← e4]
  clear e4
  have s24 := (s2.trans s3).trans s4
  have s04 := s1.trans s24
  have hfl4 := s24 _ _ hfl
  have ht14 := (s3.trans s4) _ _ ht1
  have ht24 := s4 _ _ ht2
  have nlf : ll ≠ fl := (Je ((s2.trans s3) _ _ hfl) nll).symm
  have n1f : t1 ≠ fl := (Je hfl nt1).symm
  have n2f : t2 ≠ fl := (Je (s2 _ _ hfl) nt2).symm
  walk_at "rd"
  refine J3y (K := K) (xs := [V.ref t1,V.ref t2]) (fun i σ H5 => Here (∃ v1 v2 v3 v4 v5 v6 v7 prs xv,σ = [some (.ref r),some (.ref pl),some (.int c),some (.ref fl),v1,v2,v3,v4,v5,v6,v7] ∧ H5 fl = some (.lst xv) ∧ All2 PrT H5 prs xv ∧ prs.length ≤ i ∧ (∀ e ∈ prs,J6T ps rows d e) ∧ (H5 ll = some (.lst [V.ref t1,V.ref t2]) ∧ H5 t1 = some (.tup [T J2o,V.int (c / 2)]) ∧ H5 t2 = some (.tup [T J7Q,V.int (c / 34)])) ∧ Same H H5))
   (Here.mk ⟨none,none,none,none,none,none,none,[],[],rfl,hfl4,trivial,Nat.le_refl _,fun e he => absurd he List.not_mem_nil,⟨hll,ht14,ht24⟩,s04⟩) (fun i σ H3 _ hv => by obtain ⟨_,_,_,_,_,_,_,_,_,_,_,_,_,_,h,_⟩ := hv.out; exact SqL.of h.1) ?_ ?_
  ·rintro i x σ H5 hx hv
   obtain ⟨v1,v2,v3,v4,v5,v6,v7,prs,xv,rfl,hf5,hA5,hl5,hg5,⟨h5l,h5a,h5b⟩,s5⟩ := hv.out
   have hi : i < 2 := (List.getElem?_eq_some_iff.mp hx).1
   obtain ⟨t,wd,num,rfl,ht,hwd⟩ : ∃ t wd num,x = V.ref t ∧ H5 t = some (.tup [T wd,V.int num]) ∧ (wd = J2o ∨ wd = J7Q) := by
    have hi2 : i = 0 ∨ i = 1 := by omega
    rcases hi2 with rfl | rfl
    ·cases hx
     exact ⟨t1,_,_,rfl,h5a,.inl rfl⟩
    ·cases hx
     exact ⟨t2,_,_,rfl,h5b,.inr rfl⟩
   have hp5 := s5 _ _ hp1
   have hr5 := s5 _ _ hr1
   have o0 : 0 ≤ num % (ys.length : Int) := Int.emod_nonneg _ (by omega)
   have o1 : num % (ys.length : Int) < (ys.length : Int) := Int.emod_lt_of_pos _ yp
   have w0 : 0 ≤ (num % (ys.length : Int) + 1) % (ys.length : Int) := Int.emod_nonneg _ (by omega)
   have w1 : (num % (ys.length : Int) + 1) % (ys.length : Int) < (ys.length : Int) := Int.emod_lt_of_pos _ yp
   obtain ⟨r1,hr1a,hr1b⟩ := Jat (rows := rows) o0 (by omega)
   obtain ⟨r2,hr2a,hr2b⟩ := Jat (rows := rows) w0 (by omega)
   obtain ⟨n1,pa1,dx1,hn1,ha1,hpa1⟩ := J71 hA1 o0 o1
   obtain ⟨n2,pa2,dx2,hn2,ha2,hpa2⟩ := J71 hA1 w0 w1
   have l1 := hrow r1 (List.mem_of_getElem? hr1a)
   have l2 := hrow r2 (List.mem_of_getElem? hr2a)
   walk_at "rd"
   generalize (num % (ys.length : Int) + 1) % (ys.length : Int) = two at w0 w1 hr2a hr2b hn2 ha2 ⊢
   generalize num % (ys.length : Int) = one at o0 o1 hr1a hr1b hn1 ha1 ⊢
   refine Jbp (l1 := r1) (l2 := r2) (fun j σ H6 => Here (∃ (v6 v7 : Option V) (cl : Bool),σ = [some (.ref r),some (.ref pl),some (.int c),some (.ref fl),some (T wd),some (.int num),some (.int one),some (.int two),some (.bl cl),v6,v7] ∧ (cl = false → ∀ e < j,brkB wd (mkA r1 (e : Int)) (mkA r2 (e : Int)) = false) ∧ Same H5 H6))
    (Here.mk ⟨_,_,false,rfl,fun _ e h => absurd h (Nat.not_lt_zero e),Same.refl _⟩) ?_ ?_
   ·rintro j m o p σ H6 hm ho hp hv
    obtain ⟨w6,w7,cl,rfl,hcl6,s6⟩ := hv.out
    obtain ⟨H7,e7,hp7,s7⟩ := newt (xs := [T [m],T [o]]) hp
    rw [← e7]
    clear e7
    have em : mkA r1 (j : Int) = m := by unfold mkA; rw [Int.toNat_natCast,List.getD_eq_getElem?_getD,hm]; rfl
    have eo : mkA r2 (j : Int) = o := by unfold mkA; rw [Int.toNat_natCast,List.getD_eq_getElem?_getD,ho]; rfl
    have nxt : cl = false → brkB wd m o = false → ∀ e < j + 1,brkB wd (mkA r1 (e : Int)) (mkA r2 (e : Int)) = false := fun h1 h2 e he => by
     by_cases hej : e = j
     ·subst hej
      rw [em,eo]
      exact h2
     ·exact hcl6 h1 e (by omega)
    walk_at "rd"
    refine tCut.mk (fun σ' H' => Here (∃ (cl : Bool),σ' = [some (.ref r),some (.ref pl),some (.int c),some (.ref fl),some (T wd),some (.int num),some (.int one),some (.int two),some (.bl cl),some (T [m]),some (T [o])] ∧ (cl = false → ∀ e < j + 1,brkB wd (mkA r1 (e : Int)) (mkA r2 (e : Int)) = false) ∧ Same H5 H')) ?_ (fun σ' H' hv => by obtain ⟨kp,e,g⟩ := hv.out; exact Here.mk ⟨_,_,kp,e,g⟩)
    walk_at "rd"
    refine ite2 (fun c1 => ?_) (fun c1 => ?_)
    ·walk_at "rd"
     refine ite2 (fun c2 => ?_) (fun c2 => ?_)
     ·walk_at "rd"
      exact Here.mk ⟨true,rfl,fun e => absurd e (by decide),s6.trans s7⟩
     ·refine Here.mk ⟨cl,rfl,fun e => nxt e (JfY (fun z => c2 (decide_eq_true (by rw [z])))),s6.trans s7⟩
    ·refine Here.mk ⟨cl,rfl,fun e => nxt e ?_,s6.trans s7⟩
     have c1' : m = 45 := Classical.byContradiction fun z => c1 (by rw [decide_eq_false fun h => z (by simpa using J2p h)]; rfl)
     unfold brkB
     rw [decide_eq_true c1']
     rfl
   ·rintro j σ H6 hj hv
    obtain ⟨w6,w7,cl,rfl,hcl6,s6⟩ := hv.out
    have hjl : j = r1.length := by omega
    have s06 := s5.trans s6
    have hf6 := s6 _ _ hf5
    have h6l := s6 _ _ h5l
    have h6a := s6 _ _ h5a
    have h6b := s6 _ _ h5b
    have hp6 := s6 _ _ hp5
    have hA6 := hA5.imp fun a y => PrT.keeps a y _ _ s6.keeps
    have hq1 := s06 _ _ hpa1
    have hq2 := s06 _ _ hpa2
    have hxl := hA5.len
    have xl : xv.length ≤ 100 := by omega
    refine tCut.mk (fun σ' H' => Here (∃ prs xv,σ' = [some (.ref r),some (.ref pl),some (.int c),some (.ref fl),some (T wd),some (.int num),some (.int one),some (.int two),some (.bl cl),w6,w7] ∧ H' fl = some (.lst xv) ∧ All2 PrT H' prs xv ∧ prs.length ≤ i + 1 ∧ (∀ e ∈ prs,J6T ps rows d e) ∧ (H' ll = some (.lst [V.ref t1,V.ref t2]) ∧ H' t1 = some (.tup [T J2o,V.int (c / 2)]) ∧ H' t2 = some (.tup [T J7Q,V.int (c / 34)])) ∧ Same H H')) ?_ (fun σ' H' hv => by obtain ⟨rs,xv,e,g⟩ := hv.out; exact Here.mk ⟨_,_,_,_,_,_,_,rs,xv,e,g⟩)
    have no : Here (∃ prs xv,[some (V.ref r),some (.ref pl),some (.int c),some (.ref fl),some (T wd),some (.int num),some (.int one),some (.int two),some (.bl cl),w6,w7] = [some (.ref r),some (.ref pl),some (.int c),some (.ref fl),some (T wd),some (.int num),some (.int one),some (.int two),some (.bl cl),w6,w7] ∧ H6 fl = some (.lst xv) ∧ All2 PrT H6 prs xv ∧ prs.length ≤ i + 1 ∧ (∀ e ∈ prs,J6T ps rows d e) ∧ (H6 ll = some (.lst [V.ref t1,V.ref t2]) ∧ H6 t1 = some (.tup [T J2o,V.int (c / 2)]) ∧ H6 t2 = some (.tup [T J7Q,V.int (c / 34)])) ∧ Same H H6) := Here.mk ⟨prs,xv,rfl,hf6,hA6,by omega,hg5,⟨h6l,h6a,h6b⟩,s06⟩
    walk_at "rd"
    refine ite2 (fun _ => ?_) (fun _ => no)
    walk_at "rd"
    refine ite2 (fun c2 => ?_) (fun _ => no)
    have ec : cl = false := by cases cl with | true => cases c2 | false => rfl
    walk_at "rd"
    refine ite2 (fun _ => ?_) (fun _ => no)
    walk_at "rd"
    intro t nt
    obtain ⟨H7,e7,ht7,s7⟩ := newt (xs := [T wd,T n1.nm,T n2.nm]) nt
    rw [← e7]
    clear e7
    have hf7 := s7 _ _ hf6
    have kk : JO H7 (upd H7 fl (.lst (xv ++ [.ref t]))) := JR hf7
    walk_at "rd"
    refine Here.mk ⟨prs ++ [⟨wd,n1.nm,n2.nm,one.toNat,two.toNat⟩],xv ++ [.ref t],rfl,J9,All2.snoc (hA6.imp fun a y => PrT.keeps a y _ _ (s7.keeps.trans kk)) ⟨t,rfl,kk _ _ ht7 (fun zs z => by cases z)⟩,by rw [List.length_append,List.length_singleton]; omega,fun e he => ?_,⟨by rw [Ji nlf]; exact s7 _ _ h6l,by rw [Ji n1f]; exact s7 _ _ h6a,by rw [Ji n2f]; exact s7 _ _ h6b⟩,(s06.trans s7).upd nfl⟩
    rcases List.mem_append.mp he with he | he
    ·exact hg5 e he
    ·rw [List.mem_singleton.mp he]
     refine ⟨⟨Jag (by omega) hnm hn1,Jag (by omega) hnm hn2⟩,hwd,(List.getElem?_eq_some_iff.mp hr1a).1,(List.getElem?_eq_some_iff.mp hr2a).1,fun k hk => ?_⟩
     unfold paB
     show brkB wd (mkA (rows.getD one.toNat []) (k : Int)) (mkA (rows.getD two.toNat []) (k : Int)) = false
     rw [List.getD_eq_getElem?_getD,List.getD_eq_getElem?_getD,hr1a,hr2a]
     exact hcl6 ec k (by omega)
  ·rintro σ H5 hv
   obtain ⟨v1,v2,v3,v4,v5,v6,v7,prs,xv,rfl,hf5,hA5,hl5,hg5,_,s5⟩ := hv.out
   walk_at "rd"
   exact q fl H5 prs xv s5 nfl hf5 hA5 hl5 hg5
end
structure Ws where
 nm : List Nat
 day : Int
 mks : List Nat
noncomputable def WsT : Ws → V → Hp → Prop := fun l y H => ∃ t,y = .ref t ∧ H t = some (.tup [T l.nm,.int l.day,T l.mks])
theorem WsT.keeps (n : Ws) (y : V) (Ha Hb : Hp) (k : JO Ha Hb) (h : WsT n y Ha) : WsT n y Hb := let ⟨t,e,h⟩ := h; ⟨t,e,k _ _ h fun zs z => by cases z⟩
noncomputable def Jfk (K : PySem.W.Frag) (C : Addr) : Sp := fun vs H Q _ => ∃ (a pl : Addr) (d st : Int) (ks : List Nat) (ns : List Int) (ps : List Ps) (ys : List V),vs = [.ref a,.ref pl,.int d,T ks,.int st] ∧ SqL K H a (ns.map V.int) ∧ H pl = some (.lst ys) ∧ All2 (PsO C) H ps ys ∧ 1 ≤ ps.length ∧ 1 ≤ d ∧ ks.length ≤ 4 ∧ 0 ≤ st ∧
 ∀ (D : Addr) (H' : Hp) (ws : List Ws) (xs : List V),Same H H' → H D = none → H' D = some (.lst xs) → All2 WsT H' ws xs → ws.length ≤ 6 → (∀ e ∈ ws,0 ≤ e.day ∧ e.day < d) → Q (.ref D) H'
section
variable {P : Program} {w : World} {K : PySem.W.Frag} {mg : Str → Option Value} {base : Heap} {J8 Jb J7 Ja J3 Jh J2 J1 : Addr}
local macro_rules | `(tactic| walk_at "lk") => `(tactic| exact J2n _ _ _ _ _)
theorem J61 (tx : Tx K mg J8 Jb J7 Ja J3 Jh J2 J1) : FnG P w K mg base "_law_wishes_of" 2 ["_law_script","_law_persons","_law_days","_law_kinds_here","_law_start"] (Jfk K J2) := by
 have J6F := JaC (P := P) (w := w) (base := base) tx
 refine tx.J63.g J0X (fun _ _ _ _ _ _ us hl => match us,hl with | [_,_,_,_,_],_ => rfl) (fun vs H Q E h => ?_) (fun f cdv A outer s H vs Q E hr h => ?_)
 ·obtain ⟨a,pl,d,st,ks,ns,ps,ys,rfl,_⟩ := h
  rfl
 ·obtain ⟨a,pl,d,st,ks,ns,ps,ys,rfl,hS,hp1,hA1,hp0,d0,k4,st0,q⟩ := h
  refine ⟨_,(J5 (Jj (i := 5) J0X.nd rfl (Or.inl rfl) (J17 J6))
   (J5 (J0l PassesOwn.never rfl (J07 (K := K) rfl (J0e (J6W (K := K) rfl) (pv 0) (J0q (pv 4)) (J0q (Jf JL (pv 4) Jd)))) (Jo (i := 6) J0X.nd rfl (Or.inl rfl)) (J5 (Jj (i := 7) J0X.nd rfl (Or.inl rfl) (Jw J6F (hr.mono (by decide)) (J0 (Jf J0F (Jv (l := [45]) (by decide +kernel)) (pv 3)) (J0 (Jf JQ (pv 6) Jd) J6))))
   (J5 (J2z (J01 (Jl J0f (pv 7) (Jv (l := []) (by decide +kernel)) (Jq _)) (Jc (Jj (i := 7) J0X.nd rfl (Or.inl rfl) (Jv (l := [45]) (by decide +kernel)))) JA))
   (Jc (J2z (J01 (Jl J7e (Jf JF (pv 6) Jd) Jd (Jq _)) (Jc (J1O (J3k PySem.F.plainAttrs_list PySem.F.slot_list_append PySem.F.type_list_append J09 (pv 5) (J0 (J0a (J0 (Jg (K := K) rfl (JE (JG (K := K) rfl) (pv 1) (Jf JF (Jf JQ (pv 6) Jd) (Jt (JC (K := K) rfl) rfl tx.J0c PySem.boot_len (J0 (pv 1) J6))) (fun _ _ => rfl)) rfl) (J0 (Jf JF (Jf JQ (pv 6) Jd) (pv 2)) (J0 (pv 7) J6)))) J6)))) JA))))))
   (Jc (Jp (pv 5))))),?_⟩
  walk_at "st"
  clear J6F
  have hcl := tx.JS.cl
  have hna := tx.Jy
  have hyl := hA1.len
  have yp : (0 : Int) < (ys.length : Int) := by omega
  walk_at "rd"
  intro fl nfl
  obtain ⟨H1,e1,hfl,s1⟩ := newl (xs := []) nfl
  rw [← e1]
  clear e1
  have hS1 := s1.seq hS
  walk_at "rd"
  intro cl ncl
  rw [Jay]
  have hcs := JbD ns st st0
  generalize cutN ns (some st) (some (st + 6)) = cs at hcs ⊢
  obtain ⟨H2,e2,hcl2,s2⟩ := newl (xs := cs.map V.int) ncl
  rw [← e2]
  clear e2
  have hfl2 := s2 _ _ hfl
  have s02 := s1.trans s2
  have nfc : cl ≠ fl := (Je hfl ncl).symm
  walk_at "rd"
  refine J3y (K := K) (xs := cs.map V.int) (fun i σ H3 => Here (∃ v1 v2 ws xv,σ = [some (.ref a),some (.ref pl),some (.int d),some (T ks),some (.int st),some (.ref fl),v1,v2] ∧ H3 fl = some (.lst xv) ∧ All2 WsT H3 ws xv ∧ ws.length ≤ i ∧ (∀ e ∈ ws,0 ≤ e.day ∧ e.day < d) ∧ H3 cl = some (.lst (cs.map V.int)) ∧ Same H H3))
   (Here.mk ⟨none,none,[],[],rfl,hfl2,trivial,Nat.le_refl _,fun e he => absurd he List.not_mem_nil,hcl2,s02⟩) (fun i σ H3 _ hv => by obtain ⟨_,_,_,_,_,_,_,_,_,h,_⟩ := hv.out; exact SqL.of h) ?_ ?_
  ·rintro i x σ H3 hx hv
   obtain ⟨v1,v2,ws,xv,rfl,hf3,hA3,hl3,hg3,hc3,s3⟩ := hv.out
   have hi : i < cs.length := by have := (List.getElem?_eq_some_iff.mp hx).1; rwa [List.length_map] at this
   obtain ⟨z,rfl⟩ : ∃ z,x = .int z := by
    obtain ⟨n,_,e⟩ := List.mem_map.mp (List.mem_of_getElem? hx)
    exact ⟨n,e.symm⟩
   have l5 : ([45] ++ ks).length ≤ 10 := by rw [List.length_append,List.length_singleton]; omega
   walk_at "rd"
   intro mk H4 s4 lmk
   have s04 := s3.trans s4
   have hp4 := s04 _ _ hp1
   have hf4 := s4 _ _ hf3
   have hc4 := s4 _ _ hc3
   have hA4 := hA3.imp fun a y => WsT.keeps a y _ _ s4.keeps
   have hxl := hA3.len
   have xl : xv.length ≤ 100 := by omega
   walk_at "rd"
   refine tCut.mk (fun σ' H' => Here (∃ mk,σ' = [some (.ref a),some (.ref pl),some (.int d),some (T ks),some (.int st),some (.ref fl),some (.int z),some (T mk)] ∧ H' = H4)) ?_ ?_
   ·walk_at "rd"
    refine ite2 (fun _ => ?_) (fun _ => ?_)
    ·walk_at "rd"
     exact Here.mk ⟨_,rfl,rfl⟩
    ·exact Here.mk ⟨_,rfl,rfl⟩
   rintro σ' H' hv
   obtain ⟨mk,rfl,eH⟩ := hv.out
   rw [eH]
   clear hv eH
   refine tCut.mk (fun σ' H' => Here (∃ ws xv,σ' = [some (.ref a),some (.ref pl),some (.int d),some (T ks),some (.int st),some (.ref fl),some (.int z),some (T mk)] ∧ H' fl = some (.lst xv) ∧ All2 WsT H' ws xv ∧ ws.length ≤ i + 1 ∧ (∀ e ∈ ws,0 ≤ e.day ∧ e.day < d) ∧ H' cl = some (.lst (cs.map V.int)) ∧ Same H H')) ?_ (fun σ' H' hv => by obtain ⟨rs,xv,e,g⟩ := hv.out; exact Here.mk ⟨_,_,rs,xv,e,g⟩)
   obtain ⟨n,pa,dx,hn,ha,hpa⟩ := J71 hA1 (i := z / 3 % (ys.length : Int)) (Int.emod_nonneg _ (by omega)) (Int.emod_lt_of_pos _ yp)
   have hpa4 := s04 _ _ hpa
   have dp : (0 : Int) < d := by omega
   walk_at "rd"
   refine ite2 (fun _ => ?_) (fun _ => ?_)
   ·walk_at "rd"
    intro t nt
    obtain ⟨H5,e5,ht5,s5⟩ := newt (xs := [T n.nm,.int (z / 24 % d),T mk]) nt
    rw [← e5]
    clear e5
    have hf5 := s5 _ _ hf4
    have kk : JO H5 (upd H5 fl (.lst (xv ++ [.ref t]))) := JR hf5
    walk_at "rd"
    refine Here.mk ⟨ws ++ [⟨n.nm,z / 24 % d,mk⟩],xv ++ [.ref t],rfl,J9,All2.snoc (hA4.imp fun a y => WsT.keeps a y _ _ (s5.keeps.trans kk)) ⟨t,rfl,kk _ _ ht5 (fun zs z => by cases z)⟩,by rw [List.length_append,List.length_singleton]; omega,fun e he => ?_,by rw [Ji nfc]; exact s5 _ _ hc4,(s04.trans s5).upd nfl⟩
    rcases List.mem_append.mp he with he | he
    ·exact hg3 e he
    ·rw [List.mem_singleton.mp he]
     exact ⟨Int.emod_nonneg _ (by omega),Int.emod_lt_of_pos _ dp⟩
   ·exact Here.mk ⟨ws,xv,rfl,hf4,hA4,by omega,hg3,hc4,s04⟩
  ·rintro σ H3 hv
   obtain ⟨v1,v2,ws,xv,rfl,hf3,hA3,hl3,hg3,hc3,s3⟩ := hv.out
   rw [List.length_map] at hl3
   walk_at "rd"
   exact q fl H3 ws xv s3 nfl hf3 hA3 (by omega) hg3
end
noncomputable def psS (day : Int) (a : Ps × List Nat) : Ps := ⟨a.1.nm,a.1.sk,a.1.most - (dut (cutN a.2 none (some day)) : Int),a.1.car + (dut (cutN a.2 none (some day)) : Int),(a.1.past ++ cutN a.2 none (some day)).drop ((a.1.past ++ cutN a.2 none (some day)).length - (6 : Int).toNat)⟩
noncomputable def ndS (day : Int) (n : Nd) : Nd := ⟨n.day - day,n.kind,n.least,n.most⟩
noncomputable def lvS (day : Int) (l : List Nat × Int) : List Nat × Int := (l.1,l.2 - day)
noncomputable def wsS (day : Int) (l : Ws) : Ws := ⟨l.nm,l.day - day,l.mks⟩
noncomputable def J36 (day : Int) (nds : List Nd) : List Nd := (nds.filter fun n => decide (day ≤ n.day)).map (ndS day)
noncomputable def J3f (day : Int) (ls : List (List Nat × Int)) : List (List Nat × Int) := (ls.filter fun n => decide (day ≤ n.2)).map (lvS day)
noncomputable def Jah (day : Int) (ws : List Ws) : List Ws := (ws.filter fun n => decide (day ≤ n.day)).map (wsS day)
noncomputable def Jf9 (C : Addr) : Sp := fun vs H Q _ => ∃ (p : Addr) (n : Ps) (l : List Nat),vs = [.ref p,T l] ∧ J3O C H p n.nm n.sk n.most n.car n.past ∧ l.length ≤ 100 ∧ n.past.length ≤ 100 ∧
 ∀ q H',Same H H' → J3O C H' q n.nm n.sk (n.most - (dut l : Int)) (n.car + (dut l : Int)) ((n.past ++ l).drop ((n.past ++ l).length - (6 : Int).toNat)) → Q (.ref q) H'
noncomputable def Jee (C1 C2 : Addr) : Sp := fun vs H Q _ => ∃ (h r : Addr) (day dd : Int) (ks : List Nat) (a1 a2 a3 a4 a5 a6 : Addr) (xs ys zs ws u5 u6 : List V) (nds : List Nd) (ps : List Ps) (ls : List (List Nat × Int)) (wl : List Ws) (rows : List (List Nat)),vs = [.ref h,.ref r,.int day] ∧ J5n C2 H h dd ks a1 a2 a3 a4 a5 a6 ∧
 H a1 = some (.lst xs) ∧ All2 NdAt H nds xs ∧ H a2 = some (.lst ys) ∧ All2 (PsO C1) H ps ys ∧ H a3 = some (.lst zs) ∧ All2 LvT H ls zs ∧ H a4 = some (.lst ws) ∧ All2 WsT H wl ws ∧ H a5 = some (.lst u5) ∧ H a6 = some (.lst u6) ∧ H r = some (.lst (rows.map T)) ∧ rows.length = ps.length ∧ ps.length ≤ 8 ∧ nds.length ≤ 1000 ∧ ls.length ≤ 1000 ∧ wl.length ≤ 1000 ∧ 0 ≤ day ∧ (∀ row ∈ rows,row.length ≤ 100) ∧ (∀ n ∈ ps,n.past.length ≤ 100) ∧
 ∀ p H' b1 b2 b3 b4 b5 b6 x1 x2 x3 x4,Same H H' → J5n C2 H' p (dd - day) ks b1 b2 b3 b4 b5 b6 → H' b1 = some (.lst x1) → All2 NdAt H' (J36 day nds) x1 → H' b2 = some (.lst x2) → All2 (PsO C1) H' ((ps.zip rows).map (psS day)) x2 → H' b3 = some (.lst x3) → All2 LvT H' (J3f day ls) x3 → H' b4 = some (.lst x4) → All2 WsT H' (Jah day wl) x4 → H' b5 = some (.lst u5) → H' b6 = some (.lst u6) → Q (.ref p) H'
section
variable {P : Program} {w : World} {K : PySem.W.Frag} {mg : Str → Option Value} {base : Heap} {J8 Jb J7 Ja J3 Jh J2 J1 : Addr}
local macro_rules | `(tactic| walk_at "lk") => `(tactic| first | exact J2n _ _ _ _ _ | exact J3t _ _ _ _ _ | exact J5i _ _ _ _ _ | exact J4C _ _ _ _ _ | exact J5g _ _ _ _ _ | exact J6l _ _ _ _ _ _ _ _ | exact J47 _ _ _ _ _ _ _ _ | exact J44 _ _ _ _ _ _ _ _ | exact J23 _ _ _ _ _ _ _ _ | exact J42 _ _ _ _ _ _ _ _ | exact J5L _ _ _ _ _ _ _ _ | exact J5o _ _ _ _ _ _ _ _ | exact J5l _ _ _ _ _ _ _ _)
theorem J60 (tx : Tx K mg J8 Jb J7 Ja J3 Jh J2 J1) : FnG P w K mg base "person_behind" 3 ["person","marks"] (Jf9 J2) := by
 have J2G := J5T (P := P) (w := w) (base := base) tx
 have J0J := J2S (P := P) (w := w) (base := base) tx
 have J3S := tx.JS.g (J4k (P := P) (w := w) (base := base) tx)
 refine tx.J62.g J2w (fun _ _ _ _ _ _ us hl => match us,hl with | [_,_],_ => rfl) (fun vs H Q E h => ?_) (fun f cdv A outer s H vs Q E hr h => ?_)
 ·obtain ⟨p,n,l,rfl,_⟩ := h
  rfl
 ·obtain ⟨p,n,l,rfl,⟨dx,hp⟩,hl,hpl,q⟩ := h
  refine ⟨_,(J5 (Jj (i := 2) J2w.nd rfl (Or.inl rfl) (Jw J2G (hr.mono (by decide)) (J0 (pv 1) J6)))
   (J5 (Jj (i := 3) J2w.nd rfl (Or.inl rfl) (Jw J0J (hr.mono (by decide)) (J0 (Jf J0F (Jg (K := K) rfl (pv 0) rfl) (pv 1)) (J0 (JdF rfl tx.J2f) J6))))
   (Jc (Jp (J1y (r := rPer J2) J3S (hr.mono (by decide)) JdG (J0 (Jg (K := K) rfl (pv 0) rfl) (J0 (Jg (K := K) rfl (pv 0) rfl) (J0 (Jf J3r (Jg (K := K) rfl (pv 0) rfl) (pv 2)) (J0 (Jf JL (Jg (K := K) rfl (pv 0) rfl) (pv 2)) (J0 (pv 3) J6)))))))))),?_⟩
  walk_at "st"
  clear J2G J0J J3S
  have hcl := tx.JS.cl
  have m1 := tx.Jy
  have m2 := tx.J04
  have m3 := tx.J0r
  have m4 := tx.J08
  have m5 := tx.J0d
  have pl : (n.past ++ l).length ≤ 1000 := by rw [List.length_append]; omega
  walk_at "rd"
  intro H1 s1
  have hp1 := s1 _ _ hp
  walk_at "rd"
  intro q1 H2 s2 _ hq
  walk_at "rd"
  exact q q1 H2 (s1.trans s2) hq
theorem Jfg (tx : Tx K mg J8 Jb J7 Ja J3 Jh J2 J1) : FnG P w K mg base "rest" 5 ["house","rota","day"] (Jee J2 J1) := by
 have J3L := J60 (P := P) (w := w) (base := base) tx
 have J4L := tx.JP.g (J4V (P := P) (w := w) (base := base) tx)
 refine tx.Jfi.g J4Z (fun _ _ _ _ _ _ us hl => match us,hl with | [_,_,_],_ => rfl) (fun vs H Q E h => ?_) (fun f cdv A outer s H vs Q E hr h => ?_)
 ·obtain ⟨h,r,day,dd,ks,a1,a2,a3,a4,a5,a6,xs,ys,zs,ws,u5,u6,nds,ps,ls,wl,rows,rfl,_⟩ := h
  rfl
 ·obtain ⟨h,r,day,dd,ks,a1,a2,a3,a4,a5,a6,xs,ys,zs,ws,u5,u6,nds,ps,ls,wl,rows,rfl,⟨dx,hh⟩,h1,hN,h2,hP,h3,hL,h4,hW,h5,h6,hr1,hrl,hp8,ln,ll,lw,d0,hrow,hpast,q⟩ := h
  refine ⟨_,(J5 (J4f (k := 3) (osc := J4 J3n) (ON := ["house","rota","day","needs","persons","leave","wishes"]) (N := ["at","kind","least","most","day"]) (js := [none,none,none,none,some 2]) J4Z.nd rfl (Or.inl rfl) ⟨rfl,by decide +kernel,by decide +kernel,by decide +kernel,rfl,by decide +kernel⟩ rfl rfl rfl (J07 (K := K) rfl (Jg (K := K) rfl (pv 0) rfl)) (fun _ _ _ _ _ => JbS (K := K) (n := 4) rfl rfl (Jz (Jo (i := 0) (show List.Nodup (["at","kind","least","most","day"] : List Str) from by decide +kernel) rfl (Or.inl rfl)) (Jz (Jo (i := 1) (show List.Nodup (["at","kind","least","most","day"] : List Str) from by decide +kernel) rfl (Or.inl rfl)) (Jz (Jo (i := 2) (show List.Nodup (["at","kind","least","most","day"] : List Str) from by decide +kernel) rfl (Or.inl rfl)) (Jz (Jo (i := 3) (show List.Nodup (["at","kind","least","most","day"] : List Str) from by decide +kernel) rfl (Or.inl rfl)) J1P))))) (fun _ _ _ _ _ => J06 (Jl JbK (pv 0) (pv 4) (Jq _))) (fun _ _ _ _ _ => (J0a (J0 (Jf J3r (pv 0) (pv 4)) (J0 (pv 1) (J0 (pv 2) (J0 (pv 3) J6)))))))
   (J5 (J4f (k := 4) (osc := J4 J3n) (ON := ["house","rota","day","needs","persons","leave","wishes"]) (N := ["person","row","day"]) (js := [none,none,some 2]) J4Z.nd rfl (Or.inl rfl) ⟨rfl,by decide +kernel,by decide +kernel,by decide +kernel,rfl,by decide +kernel⟩ rfl rfl rfl (J5h (K := K) rfl rfl tx.J4q (J0 (Jg (K := K) rfl (pv 0) rfl) (J0 (pv 1) J6))) (fun _ _ _ _ _ => J3q (K := K) (i := 0) (j := 1) rfl rfl (show List.Nodup (["person","row","day"] : List Str) from by decide +kernel) rfl rfl (Or.inl rfl) (Or.inl rfl)) (fun _ _ _ _ _ => J1X) (fun _ _ _ _ _ => (Jw J3L (hr.mono (by decide)) (J0 (pv 0) (J0 (J0e J2N (pv 1) J15 (J0q (pv 2))) J6)))))
   (J5 (J4f (k := 5) (osc := J4 J3n) (ON := ["house","rota","day","needs","persons","leave","wishes"]) (N := ["name","at","day"]) (js := [none,none,some 2]) J4Z.nd rfl (Or.inl rfl) ⟨rfl,by decide +kernel,by decide +kernel,by decide +kernel,rfl,by decide +kernel⟩ rfl rfl rfl (J07 (K := K) rfl (Jg (K := K) rfl (pv 0) rfl)) (fun _ _ _ _ _ => J3q (K := K) (i := 0) (j := 1) rfl rfl (show List.Nodup (["name","at","day"] : List Str) from by decide +kernel) rfl rfl (Or.inl rfl) (Or.inl rfl)) (fun _ _ _ _ _ => J06 (Jl JbK (pv 1) (pv 2) (Jq _))) (fun _ _ _ _ _ => (J0a (J0 (pv 0) (J0 (Jf J3r (pv 1) (pv 2)) J6)))))
   (J5 (J4f (k := 6) (osc := J4 J3n) (ON := ["house","rota","day","needs","persons","leave","wishes"]) (N := ["name","at","marks","day"]) (js := [none,none,none,some 2]) J4Z.nd rfl (Or.inl rfl) ⟨rfl,by decide +kernel,by decide +kernel,by decide +kernel,rfl,by decide +kernel⟩ rfl rfl rfl (J07 (K := K) rfl (Jg (K := K) rfl (pv 0) rfl)) (fun _ _ _ _ _ => JbS (K := K) (n := 3) rfl rfl (Jz (Jo (i := 0) (show List.Nodup (["name","at","marks","day"] : List Str) from by decide +kernel) rfl (Or.inl rfl)) (Jz (Jo (i := 1) (show List.Nodup (["name","at","marks","day"] : List Str) from by decide +kernel) rfl (Or.inl rfl)) (Jz (Jo (i := 2) (show List.Nodup (["name","at","marks","day"] : List Str) from by decide +kernel) rfl (Or.inl rfl)) J1P)))) (fun _ _ _ _ _ => J06 (Jl JbK (pv 1) (pv 3) (Jq _))) (fun _ _ _ _ _ => (J0a (J0 (pv 0) (J0 (Jf J3r (pv 1) (pv 3)) (J0 (pv 2) J6))))))
   (Jc (Jp (J1y (r := rHou J1) J4L (hr.mono (by decide)) JdE (J0 (Jf J3r (Jg (K := K) rfl (pv 0) rfl) (pv 2)) (J0 (Jg (K := K) rfl (pv 0) rfl) (J0 (pv 3) (J0 (pv 4) (J0 (pv 5) (J0 (pv 6) (J0 (Jg (K := K) rfl (pv 0) rfl) (J0 (Jg (K := K) rfl (pv 0) rfl) J6))))))))))))))),?_⟩
  walk_at "st"
  clear J3L J4L
  have hcl := tx.JP.cl
  have m1 := tx.J0M
  have m2 := tx.J0v
  have m3 := tx.J0u
  have m4 := tx.JJ
  have m5 := tx.J0s
  have m6 := tx.J0y
  have m7 := tx.J0t
  have m8 := tx.J0w
  walk_at "rd"
  refine J0b nds (fun n => decide (day ≤ n.day)) (fun n y H => NdAt (ndS day n) y H) (fun σ => ∃ v1 v2 v3 v4,σ = [v1,v2,v3,v4,some (.int day)]) (J0n (SqL.of h1)) hN.len (by omega) ⟨_,_,_,_,rfl⟩ (fun a y Ha Hb k h => NdAt.keeps _ y Ha Hb k h) (fun i a v σ H' ha hv hσ s' Rf Rt hF hR' => ?_) (fun D1 H1 x1 nD1 s1 hx1 hD1 => ?_)
  ·obtain ⟨v1,v2,v3,v4,rfl⟩ := hσ
   obtain ⟨y,hy,t,rfl,ht⟩ := hN.get ha
   rw [hv] at hy
   cases hy
   have ht' := s' _ _ ht
   walk_at "rd"
   refine ite2 (fun c => ?_) (fun c => ?_)
   ·walk_at "rd"
    intro t2 nt2
    exact hR' _ _ _ (decide_eq_true (of_decide_eq_true c)) ⟨_,_,_,_,rfl⟩ (Jr nt2 _) ⟨t2,rfl,J9⟩
   ·exact hF _ _ (decide_eq_false (of_decide_eq_false (Bool.eq_false_iff.mpr c))) ⟨_,_,_,_,rfl⟩ (Same.refl _)
  have hx1' : All2 NdAt H1 (J36 day nds) x1 := All2.mapL (P := NdAt) hx1
  clear hx1
  have hh1 := s1 _ _ hh
  have h21 := s1 _ _ h2
  have hr11 := s1 _ _ hr1
  have hP1 := hP.imp fun a y => PsO.keeps a y _ _ s1.keeps
  walk_at "rd"
  refine J7d (ps.zip rows) (fun _ => true) (fun a y H => PsO J2 (psS day a) y H) (fun σ => ∃ v1 v2,σ = [v1,v2,some (.int day)]) (SqL.of h21) (SqL.of hr11) ?_ ?_ ?_ ⟨_,_,rfl⟩ (fun a y Ha Hb k h => PsO.keeps _ y Ha Hb k h) (fun i a u v p σ H' ha hu hv hσ s' hp Rf Rt hF hR' => ?_) (fun D2 H2 x2 nD2 s2 hx2 hD2 => ?_)
  ·rw [List.length_zip,hP.len]; omega
  ·rw [List.length_zip,List.length_map]; omega
  ·rw [List.length_zip]; omega
  ·obtain ⟨v1,v2,rfl⟩ := hσ
   obtain ⟨n,row⟩ := a
   obtain ⟨hn,hrw⟩ := List.getElem?_zip_eq_some.mp ha
   obtain ⟨y,hy,pa,rfl,hpa⟩ := hP1.get hn
   rw [hu] at hy
   cases hy
   rw [List.getElem?_map,hrw] at hv
   cases hv
   have hr100 := hrow row (List.mem_of_getElem? hrw)
   have hp100 := hpast n (List.mem_of_getElem? hn)
   have cl := J2B row none (some day)
   obtain ⟨H3,e3,hp3,s3⟩ := newt (xs := [V.ref pa,T row]) hp
   rw [← e3]
   clear e3
   have hpa3 := hpa.keeps (s'.trans s3).keeps
   have cl2 : (cutN row none (some day)).length ≤ 100 := by omega
   walk_at "rd"
   intro q1 H4 s4 hq1
   exact hR' _ _ _ rfl ⟨_,_,rfl⟩ (s3.trans s4) ⟨q1,rfl,hq1⟩
  rw [List.filter_eq_self.mpr fun _ _ => rfl] at hx2
  have hx2' : All2 (PsO J2) H2 ((ps.zip rows).map (psS day)) x2 := All2.mapL (P := PsO J2) hx2
  clear hx2
  have s02 := s1.trans s2
  have hh2 := s02 _ _ hh
  have h32 := s02 _ _ h3
  have hL2 := hL.imp fun a y => LvT.keeps a y _ _ s02.keeps
  walk_at "rd"
  refine J0b ls (fun n => decide (day ≤ n.2)) (fun n y H => LvT (lvS day n) y H) (fun σ => ∃ v1 v2,σ = [v1,v2,some (.int day)]) (J0n (SqL.of h32)) hL.len (by omega) ⟨_,_,rfl⟩ (fun a y Ha Hb k h => LvT.keeps _ y Ha Hb k h) (fun i a v σ H' ha hv hσ s' Rf Rt hF hR' => ?_) (fun D3 H3 x3 nD3 s3 hx3 hD3 => ?_)
  ·obtain ⟨v1,v2,rfl⟩ := hσ
   obtain ⟨y,hy,t,rfl,ht⟩ := hL2.get ha
   rw [hv] at hy
   cases hy
   have ht' := s' _ _ ht
   walk_at "rd"
   refine ite2 (fun c => ?_) (fun c => ?_)
   ·walk_at "rd"
    intro t2 nt2
    exact hR' _ _ _ (decide_eq_true (of_decide_eq_true c)) ⟨_,_,rfl⟩ (Jr nt2 _) ⟨t2,rfl,J9⟩
   ·exact hF _ _ (decide_eq_false (of_decide_eq_false (Bool.eq_false_iff.mpr c))) ⟨_,_,rfl⟩ (Same.refl _)
  have hx3' : All2 LvT H3 (J3f day ls) x3 := All2.mapL (P := LvT) hx3
  clear hx3
  have s03 := s02.trans s3
  have hh3 := s03 _ _ hh
  have h43 := s03 _ _ h4
  have hW3 := hW.imp fun a y => WsT.keeps a y _ _ s03.keeps
  walk_at "rd"
  refine J0b wl (fun n => decide (day ≤ n.day)) (fun n y H => WsT (wsS day n) y H) (fun σ => ∃ v1 v2 v3,σ = [v1,v2,v3,some (.int day)]) (J0n (SqL.of h43)) hW.len (by omega) ⟨_,_,_,rfl⟩ (fun a y Ha Hb k h => WsT.keeps _ y Ha Hb k h) (fun i a v σ H' ha hv hσ s' Rf Rt hF hR' => ?_) (fun D4 H4 x4 nD4 s4 hx4 hD4 => ?_)
  ·obtain ⟨v1,v2,v3,rfl⟩ := hσ
   obtain ⟨y,hy,t,rfl,ht⟩ := hW3.get ha
   rw [hv] at hy
   cases hy
   have ht' := s' _ _ ht
   walk_at "rd"
   refine ite2 (fun c => ?_) (fun c => ?_)
   ·walk_at "rd"
    intro t2 nt2
    exact hR' _ _ _ (decide_eq_true (of_decide_eq_true c)) ⟨_,_,_,rfl⟩ (Jr nt2 _) ⟨t2,rfl,J9⟩
   ·exact hF _ _ (decide_eq_false (of_decide_eq_false (Bool.eq_false_iff.mpr c))) ⟨_,_,_,rfl⟩ (Same.refl _)
  have hx4' : All2 WsT H4 (Jah day wl) x4 := All2.mapL (P := WsT) hx4
  clear hx4
  have s04 := s03.trans s4
  have hh4 := s04 _ _ hh
  have g1 := ((s2.trans s3).trans s4) _ _ hD1
  have g2 := (s3.trans s4) _ _ hD2
  have g3 := s4 _ _ hD3
  have g5 := s04 _ _ h5
  have g6 := s04 _ _ h6
  walk_at "rd"
  intro p H5 b1 b2 b3 b4 b5 b6 s5 hHo f1 f2 f3 f4 f5 f6 _ _ _ _ _ _
  exact q p H5 b1 b2 b3 b4 b5 b6 x1 x2 x3 x4 (s04.trans s5) hHo f1 (hx1'.imp fun a y => NdAt.keeps a y _ _ (((s2.trans s3).trans s4).trans s5).keeps) f2 (hx2'.imp fun a y => PsO.keeps a y _ _ ((s3.trans s4).trans s5).keeps) f3 (hx3'.imp fun a y => LvT.keeps a y _ _ (s4.trans s5).keeps) f4 (hx4'.imp fun a y => WsT.keeps a y _ _ s5.keeps) f5 f6
end
structure Ft where
 day : Int
 wd : List Nat
 nm : List Nat
 x : V
noncomputable def Ft.v (f : Ft) : List V := [.int f.day,T f.wd,T f.nm,f.x]
noncomputable def addV (k : Int) : V → V
 | .int z => .int (z + k)
 | y => y
noncomputable def mvT (D : Int) (wh : List Nat → Int) (f : Ft) : Ft := ⟨f.day + D,f.wd,f.nm,if f.wd = wMoF then addV (wh f.nm) f.x else f.x⟩
noncomputable def skX (d : Int) (p : Ps × List Nat) : Ft := ⟨d,J99,p.1.nm,T [mkA p.2 d]⟩
noncomputable def lvX (d : Int) (p : Ps × List Nat) : Ft := ⟨d,J92,p.1.nm,T [mkA p.2 d]⟩
noncomputable def moX (d : Int) (p : Ps × List Nat) : Ft := ⟨d,wMoF,p.1.nm,.int (dut (cutN p.2 none (some (d + 1))) : Int)⟩
noncomputable def neX (rows : List (List Nat)) (d : Int) (k : Nat) : Ft := ⟨d,J3Q,[k],.int (cntF rows d k : Int)⟩
noncomputable def ruX (d : Int) (nm : List Nat) (i : Nat) : Ft := ⟨d,Jbv,nm,.int (i : Nat)⟩
noncomputable def ruPX (rls : List Ru) (d : Int) (a : Ps × List Nat) : List Ft := ((ruI rls a.1.nm).filter (ruB rls (a.1.past ++ cutN a.2 none (some (d + 1))))).map (ruX d a.1.nm)
noncomputable def paX (d : Int) (prs : List Pr) (i : Nat) : Ft := ⟨d,J6U,(prAt prs i).one,.int (i : Nat)⟩
noncomputable def skL (L : List (Ps × List Nat)) (d : Int) : List Ft := ((L.filter (onB d)).filter (skB d)).map (skX d)
noncomputable def lvL (ls : List (List Nat × Int)) (L : List (Ps × List Nat)) (d : Int) : List Ft := ((L.filter (onB d)).filter (lvB ls d)).map (lvX d)
noncomputable def neL (ks : List Nat) (nds : List Nd) (rows : List (List Nat)) (d : Int) : List Ft := (ks.filter (neB nds rows d)).map (neX rows d)
noncomputable def moL (L : List (Ps × List Nat)) (d : Int) : List Ft := ((L.filter (onB d)).filter (moB d)).map (moX d)
noncomputable def ruL (rls : List Ru) (L : List (Ps × List Nat)) (d : Int) : List Ft := (L.map (ruPX rls d)).flatten
noncomputable def paLX (prs : List Pr) (rows : List (List Nat)) (d : Int) : List Ft := ((List.range prs.length).filter fun i => paB rows d (prAt prs i)).map (paX d prs)
noncomputable def dayX (ks : List Nat) (nds : List Nd) (ls : List (List Nat × Int)) (rls : List Ru) (prs : List Pr) (ps : List Ps) (rows : List (List Nat)) (d : Int) : List Ft :=
 skL (ps.zip rows) d ++ lvL ls (ps.zip rows) d ++ neL ks nds rows d ++ moL (ps.zip rows) d ++ ruL rls (ps.zip rows) d ++ paLX prs rows d
noncomputable def allX (ks : List Nat) (nds : List Nd) (ls : List (List Nat × Int)) (rls : List Ru) (prs : List Pr) (ps : List Ps) (rows : List (List Nat)) : Nat → List Ft
 | 0 => []
 | n + 1 => allX ks nds ls rls prs ps rows n ++ dayX ks nds ls rls prs ps rows (n : Int)
theorem Jgl (rls : List Ru) (d : Int) (a : Ps × List Nat) : (ruPX rls d a).map Ft.v = ruP rls d a := by
 unfold ruPX ruP
 rw [List.map_map]
 rfl
theorem Jg0 {ks : List Nat} {nds : List Nd} {ls : List (List Nat × Int)} {rls : List Ru} {prs : List Pr} {ps : List Ps} {rows : List (List Nat)} {d : Int} : (dayX ks nds ls rls prs ps rows d).map Ft.v = dayF ks nds ls rls prs ps rows d := by
 unfold dayF dayX
 rw [List.map_append,List.map_append,List.map_append,List.map_append,List.map_append]
 have e1 : (skL (ps.zip rows) d).map Ft.v = skF ps rows d := by unfold skL skF; rw [List.map_map]; rfl
 have e2 : (lvL ls (ps.zip rows) d).map Ft.v = lvF ls ps rows d := by unfold lvL lvF; rw [List.map_map]; rfl
 have e3 : (neL ks nds rows d).map Ft.v = neF ks nds rows d := by unfold neL neF; rw [List.map_map]; rfl
 have e4 : (moL (ps.zip rows) d).map Ft.v = moF ps rows d := by unfold moL moF; rw [List.map_map]; rfl
 have e5 : (ruL rls (ps.zip rows) d).map Ft.v = ruF rls ps rows d := by
  unfold ruL ruF
  rw [List.map_flatten,List.map_map]
  congr 1
  exact List.map_congr_left fun a _ => Jgl rls d a
 have e6 : (paLX prs rows d).map Ft.v = paF prs rows d := by unfold paLX paF paL; rw [List.map_map]; rfl
 rw [e1,e2,e3,e4,e5,e6]
theorem J72 {ks : List Nat} {nds : List Nd} {ls : List (List Nat × Int)} {rls : List Ru} {prs : List Pr} {ps : List Ps} {rows : List (List Nat)} : ∀ n,(allX ks nds ls rls prs ps rows n).map Ft.v = allF ks nds ls rls prs ps rows n
 | 0 => rfl
 | n + 1 => by rw [allX,allF,List.map_append,J72 n,Jg0,Int.zero_add]
theorem J3z (row : List Nat) (D e : Nat) : mkA (row.drop D) (e : Int) = mkA row ((e : Int) + (D : Int)) := by
 unfold mkA
 rw [List.getD_eq_getElem?_getD,List.getD_eq_getElem?_getD,List.getElem?_drop]
 congr 2
 omega
theorem J94 (row : List Nat) (D e : Nat) : cutN row none (some ((e : Int) + (D : Int) + 1)) = cutN row none (some (D : Int)) ++ cutN (row.drop D) none (some ((e : Int) + 1)) := by
 rw [J45 _ _ (by omega),J45 _ _ (by omega),J45 _ _ (by omega)]
 have e1 : ((e : Int) + (D : Int) + 1).toNat = D + (e + 1) := by omega
 have e2 : ((D : Int)).toNat = D := by omega
 have e3 : ((e : Int) + 1).toNat = e + 1 := by omega
 rw [e1,e2,e3,List.take_add]
theorem J8W (a b : List Nat) : dut (a ++ b) = dut a + dut b := by
 unfold dut
 rw [List.filter_append,List.length_append]
noncomputable def gS (D : Nat) (a : Ps × List Nat) : Ps × List Nat := (psS (D : Int) a,a.2.drop D)
theorem Jau {ps : List Ps} {R : List (List Nat)} (D : Nat) (h : R.length = ps.length) : ((ps.zip R).map (psS (D : Int))).zip (R.map fun r => r.drop D) = (ps.zip R).map (gS D) := by
 have e : R.map (fun r => r.drop D) = (ps.zip R).map fun a => a.2.drop D := by
  have h2 : (ps.zip R).map Prod.snd = R := List.map_snd_zip (by omega)
  have h3 : (ps.zip R).map (fun a => a.2.drop D) = ((ps.zip R).map Prod.snd).map fun r => r.drop D := by rw [List.map_map]; rfl
  rw [h3,h2]
 rw [e,List.zip_map']
 rfl
theorem fff {α β γ : Type} (g : α → β) (p q : β → Bool) (v : β → γ) (p' q' : α → Bool) (v' : α → γ) (L : List α) (hp : ∀ a ∈ L,p (g a) = p' a) (hq : ∀ a ∈ L,q (g a) = q' a) (hv : ∀ a ∈ L,p' a = true → v (g a) = v' a) : (((L.map g).filter p).filter q).map v = ((L.filter p').filter q').map v' := by
 induction L with
 | nil => rfl
 | cons a r ih =>
  have ih := ih (fun b hb => hp b (List.mem_cons_of_mem _ hb)) (fun b hb => hq b (List.mem_cons_of_mem _ hb)) (fun b hb => hv b (List.mem_cons_of_mem _ hb))
  have h1 := hp a List.mem_cons_self
  have h2 := hq a List.mem_cons_self
  have h3 := hv a List.mem_cons_self
  rw [List.map_cons,List.filter_cons,List.filter_cons,h1]
  cases e1 : p' a with
  | false => simpa using ih
  | true =>
   rw [if_pos rfl,if_pos rfl,List.filter_cons,List.filter_cons,h2]
   cases e2 : q' a with
   | false => simpa using ih
   | true => rw [if_pos rfl,if_pos rfl,List.map_cons,List.map_cons,h3 e1,ih]
theorem J7f (D e : Nat) (a : Ps × List Nat) : onB (e : Int) (gS D a) = onB ((e : Int) + (D : Int)) a := by
 unfold onB gS
 rw [J3z]
theorem J7k (D e : Nat) (nm : List Nat) : ∀ ls : List (List Nat × Int),J7Y (J3f (D : Int) ls) nm (e : Int) = J7Y ls nm ((e : Int) + (D : Int))
 | [] => rfl
 | l :: ls => by
  have ih := J7k D e nm ls
  unfold J7Y J3f at ih ⊢
  rw [List.filter_cons]
  have ev : ∀ (x y : Int),eqVs (lvI (l.1,x)) [T nm,.int y] = (eqV (T l.1) (T nm) && (decide (x = y) && true)) := fun x y => rfl
  by_cases c : (D : Int) ≤ l.2
  ·rw [if_pos (decide_eq_true c),List.map_cons,List.map_cons,List.any_cons,List.map_cons,List.any_cons,ih]
   congr 1
   show eqVs (lvI (l.1,l.2 - (D : Int))) _ = eqVs (lvI (l.1,l.2)) _
   rw [ev,ev]
   congr 2
   by_cases z : l.2 = (e : Int) + (D : Int)
   ·rw [decide_eq_true z,decide_eq_true (by omega)]
   ·rw [decide_eq_false z,decide_eq_false (by omega)]
  ·rw [if_neg (by simpa using c),List.map_cons,List.any_cons,ih]
   have : eqVs (lvI l) [T nm,.int ((e : Int) + (D : Int))] = false := by
    show eqVs (lvI (l.1,l.2)) _ = false
    rw [ev,decide_eq_false (by omega)]
    simp
   rw [this,Bool.false_or]
theorem J7b (D e k : Nat) : ∀ nds : List Nd,J0k (J36 (D : Int) nds) (e : Int) k = J0k nds ((e : Int) + (D : Int)) k
 | [] => rfl
 | n :: r => by
  have ih := J7b D e k r
  unfold J36 at ih ⊢
  rw [List.filter_cons]
  by_cases c : (D : Int) ≤ n.day
  ·rw [if_pos (decide_eq_true c),List.map_cons,J0k,J0k,ih]
   by_cases z : n.day = (e : Int) + (D : Int) ∧ n.kind = k
   ·rw [if_pos z,if_pos ⟨by show n.day - (D : Int) = (e : Int); omega,z.2⟩]
    rfl
   ·rw [if_neg z,if_neg fun y => z ⟨by have : n.day - (D : Int) = (e : Int) := y.1; omega,y.2⟩]
  ·rw [if_neg (by simpa using c),J0k,if_neg (fun y => by omega),ih]
theorem J85 (D e k : Nat) (R : List (List Nat)) : cntF (R.map fun r => r.drop D) (e : Int) k = cntF R ((e : Int) + (D : Int)) k := by
 unfold cntF
 rw [List.filter_map,List.length_map]
 congr 1
 refine List.filter_congr fun r _ => ?_
 show decide (mkA (r.drop D) (e : Int) = k) = _
 rw [J3z]
theorem JdN (D e : Nat) (R : List (List Nat)) (p : Pr) : paB (R.map fun r => r.drop D) (e : Int) p = paB R ((e : Int) + (D : Int)) p := by
 unfold paB
 have h : ∀ i : Nat,mkA ((R.map fun r => r.drop D).getD i []) (e : Int) = mkA (R.getD i []) ((e : Int) + (D : Int)) := fun i => by
  rw [← J3z]
  congr 1
  rw [List.getD_eq_getElem?_getD,List.getD_eq_getElem?_getD,List.getElem?_map]
  cases R[i]? with
  | none => simp
  | some r => rfl
 rw [h,h]
noncomputable def Six (u : Ru) : Prop := ∀ (x y : List Nat),u.B (x ++ y) = u.B (x.drop (x.length - 6) ++ y)
theorem Jfq {r : R} (hf : r.fine) (h : r.reach ≤ 6) (nm : List Nat) : Six ⟨nm,r.bad⟩ := fun x y => by
 show r.bad (x ++ y) = r.bad (x.drop (x.length - 6) ++ y)
 by_cases c : x.length ≤ 6
 ·rw [show x.length - 6 = 0 by omega,List.drop_zero]
 ·have e : x ++ y = x.take (x.length - 6) ++ (x.drop (x.length - 6) ++ y) := by rw [← List.append_assoc,List.take_append_drop]
  rw [e]
  exact R.bad_front r hf _ _ (by rw [List.length_append,List.length_drop]; omega)
theorem Jdf {rls : List Ru} (h : ∀ u ∈ rls,Six u) (i : Nat) : Six (ruAt rls i) := by
 unfold ruAt
 rw [List.getD_eq_getElem?_getD]
 cases e : rls[i]? with
 | none => exact fun _ _ => rfl
 | some u => exact h u (List.mem_of_getElem? e)
theorem Je5 (D e : Nat) {rls : List Ru} (h6 : ∀ u ∈ rls,Six u) (wh : List Nat → Int) (a : Ps × List Nat) : (ruPX rls (e : Int) (gS D a)).map (mvT (D : Int) wh) = ruPX rls ((e : Int) + (D : Int)) a := by
 unfold ruPX
 rw [List.map_map]
 have ef : (ruI rls (gS D a).1.nm).filter (ruB rls ((gS D a).1.past ++ cutN (gS D a).2 none (some ((e : Int) + 1)))) = (ruI rls a.1.nm).filter (ruB rls (a.1.past ++ cutN a.2 none (some ((e : Int) + (D : Int) + 1)))) := by
  refine List.filter_congr fun i _ => ?_
  unfold ruB
  rw [J94,← List.append_assoc,Jdf h6 i (a.1.past ++ cutN a.2 none (some (D : Int)))]
  rfl
 rw [ef]
 refine List.map_congr_left fun i _ => ?_
 show mvT (D : Int) wh (ruX (e : Int) a.1.nm i) = _
 unfold mvT ruX
 rw [if_neg (show ¬ Jbv = wMoF by decide)]
theorem Jcx {ks : List Nat} {nds : List Nd} {ls : List (List Nat × Int)} {rls : List Ru} {prs : List Pr} {ps : List Ps} {R : List (List Nat)} (D e : Nat) (hl : R.length = ps.length) (h6 : ∀ u ∈ rls,Six u) {wh : List Nat → Int} (hw : ∀ a ∈ ps.zip R,wh a.1.nm = (dut (cutN a.2 none (some (D : Int))) : Int)) :
  (dayX ks (J36 (D : Int) nds) (J3f (D : Int) ls) rls prs ((ps.zip R).map (psS (D : Int))) (R.map fun r => r.drop D) (e : Int)).map (mvT (D : Int) wh) = dayX ks nds ls rls prs ps R ((e : Int) + (D : Int)) := by
 unfold dayX
 rw [Jau D hl,List.map_append,List.map_append,List.map_append,List.map_append,List.map_append]
 generalize hL : ps.zip R = L at hw
 have e1 : (skL (L.map (gS D)) (e : Int)).map (mvT (D : Int) wh) = skL L ((e : Int) + (D : Int)) := by
  unfold skL
  rw [List.map_map]
  refine fff (gS D) _ _ _ _ _ _ L (fun a _ => J7f D e a) (fun a _ => ?_) (fun a _ _ => ?_)
  ·unfold skB gS
   rw [J3z]
   rfl
  ·show mvT (D : Int) wh (skX (e : Int) (gS D a)) = _
   unfold mvT skX gS
   rw [if_neg (show ¬ J99 = wMoF by decide),J3z]
   rfl
 have e2 : (lvL (J3f (D : Int) ls) (L.map (gS D)) (e : Int)).map (mvT (D : Int) wh) = lvL ls L ((e : Int) + (D : Int)) := by
  unfold lvL
  rw [List.map_map]
  refine fff (gS D) _ _ _ _ _ _ L (fun a _ => J7f D e a) (fun a _ => ?_) (fun a _ _ => ?_)
  ·unfold lvB
   exact J7k D e _ ls
  ·show mvT (D : Int) wh (lvX (e : Int) (gS D a)) = _
   unfold mvT lvX gS
   rw [if_neg (show ¬ J92 = wMoF by decide),J3z]
   rfl
 have e3 : (neL ks (J36 (D : Int) nds) (R.map fun r => r.drop D) (e : Int)).map (mvT (D : Int) wh) = neL ks nds R ((e : Int) + (D : Int)) := by
  unfold neL
  rw [List.map_map]
  have ef : ks.filter (neB (J36 (D : Int) nds) (R.map fun r => r.drop D) (e : Int)) = ks.filter (neB nds R ((e : Int) + (D : Int))) := List.filter_congr fun k _ => by
   unfold neB
   rw [J85,J7b]
  rw [ef]
  refine List.map_congr_left fun k _ => ?_
  show mvT (D : Int) wh (neX _ (e : Int) k) = _
  unfold mvT neX
  rw [if_neg (show ¬ J3Q = wMoF by decide),J85]
 have e4 : (moL (L.map (gS D)) (e : Int)).map (mvT (D : Int) wh) = moL L ((e : Int) + (D : Int)) := by
  unfold moL
  rw [List.map_map]
  refine fff (gS D) _ _ _ _ _ _ L (fun a _ => J7f D e a) (fun a _ => ?_) (fun a ha _ => ?_)
  ·unfold moB
   show decide (a.1.most - (dut (cutN a.2 none (some (D : Int))) : Int) < (dut (cutN (a.2.drop D) none (some ((e : Int) + 1))) : Int)) = _
   rw [J94,J8W]
   by_cases z : a.1.most < ((dut (cutN a.2 none (some (D : Int))) + dut (cutN (a.2.drop D) none (some ((e : Int) + 1))) : Nat) : Int)
   ·rw [decide_eq_true z,decide_eq_true (by omega)]
   ·rw [decide_eq_false z,decide_eq_false (by omega)]
  ·show mvT (D : Int) wh (moX (e : Int) (gS D a)) = _
   unfold mvT moX
   show (⟨(e : Int) + (D : Int),wMoF,a.1.nm,if wMoF = wMoF then addV (wh a.1.nm) (.int (dut (cutN (a.2.drop D) none (some ((e : Int) + 1))) : Int)) else _⟩ : Ft) = _
   rw [if_pos rfl,hw a ha,J94,J8W]
   show (⟨(e : Int) + (D : Int),wMoF,a.1.nm,V.int _⟩ : Ft) = _
   congr 2
   omega
 have e5 : (ruL rls (L.map (gS D)) (e : Int)).map (mvT (D : Int) wh) = ruL rls L ((e : Int) + (D : Int)) := by
  unfold ruL
  rw [List.map_flatten,List.map_map,List.map_map]
  congr 1
  exact List.map_congr_left fun a _ => Je5 D e h6 wh a
 have e6 : (paLX prs (R.map fun r => r.drop D) (e : Int)).map (mvT (D : Int) wh) = paLX prs R ((e : Int) + (D : Int)) := by
  unfold paLX
  rw [List.map_map]
  have ef : ((List.range prs.length).filter fun i => paB (R.map fun r => r.drop D) (e : Int) (prAt prs i)) = (List.range prs.length).filter fun i => paB R ((e : Int) + (D : Int)) (prAt prs i) := List.filter_congr fun i _ => JdN D e R _
  rw [ef]
  refine List.map_congr_left fun i _ => ?_
  show mvT (D : Int) wh (paX (e : Int) prs i) = _
  unfold mvT paX
  rw [if_neg (show ¬ J6U = wMoF by decide)]
 rw [e1,e2,e3,e4,e5,e6]
theorem J84 {ks : List Nat} {nds : List Nd} {ls : List (List Nat × Int)} {rls : List Ru} {prs : List Pr} {ps : List Ps} {R : List (List Nat)} (D : Nat) (hl : R.length = ps.length) (h6 : ∀ u ∈ rls,Six u) {wh : List Nat → Int} (hw : ∀ a ∈ ps.zip R,wh a.1.nm = (dut (cutN a.2 none (some (D : Int))) : Int)) (h0 : allX ks nds ls rls prs ps R D = []) :
  ∀ m,(allX ks (J36 (D : Int) nds) (J3f (D : Int) ls) rls prs ((ps.zip R).map (psS (D : Int))) (R.map fun r => r.drop D) m).map (mvT (D : Int) wh) = allX ks nds ls rls prs ps R (D + m)
 | 0 => by rw [Nat.add_zero,h0]; rfl
 | m + 1 => by
  rw [show D + (m + 1) = (D + m) + 1 from rfl,allX,allX,List.map_append,J84 D hl h6 hw h0 m,Jcx D m hl h6 hw]
  congr 2
  omega
structure Jaz (D : Nat) (R P : List (List Nat)) : Prop where
 len : R.length = P.length
 tk : ∀ (i : Nat) (r p : List Nat),R[i]? = some r → P[i]? = some p → r.take D = p.take D
theorem Jaw {r p : List Nat} {D e : Nat} (h : r.take D = p.take D) (he : e < D) : mkA r (e : Int) = mkA p (e : Int) := by
 unfold mkA
 rw [List.getD_eq_getElem?_getD,List.getD_eq_getElem?_getD,Int.toNat_natCast]
 have e1 : (r.take D)[e]? = r[e]? := by rw [List.getElem?_take,if_pos he]
 have e2 : (p.take D)[e]? = p[e]? := by rw [List.getElem?_take,if_pos he]
 rw [← e1,← e2,h]
theorem take_take {r p : List Nat} {D e : Nat} (h : r.take D = p.take D) (he : e < D) : cutN r none (some ((e : Int) + 1)) = p.take (e + 1) := by
 rw [J45 _ _ (by omega),show ((e : Int) + 1).toNat = e + 1 by omega]
 have e1 : r.take (e + 1) = (r.take D).take (e + 1) := by rw [List.take_take,Nat.min_eq_left (by omega)]
 have e2 : p.take (e + 1) = (p.take D).take (e + 1) := by rw [List.take_take,Nat.min_eq_left (by omega)]
 rw [e1,e2,h]
theorem Jaz.mk_at {D : Nat} {R P : List (List Nat)} (h : Jaz D R P) {e : Nat} (he : e < D) (i : Nat) : mkA (R.getD i []) (e : Int) = mkA (P.getD i []) (e : Int) := by
 rw [List.getD_eq_getElem?_getD,List.getD_eq_getElem?_getD]
 cases e1 : R[i]? with
 | none =>
  have : P[i]? = none := by
   rw [List.getElem?_eq_none_iff] at e1 ⊢
   have := h.len
   omega
  rw [this]
 | some r =>
  have hi := (List.getElem?_eq_some_iff.mp e1).1
  have e2 : P[i]? = some (P[i]'(by have := h.len; omega)) := List.getElem?_eq_getElem (by have := h.len; omega)
  rw [e2]
  exact Jaw (h.tk i r _ e1 e2) he
theorem Jbh {α γ : Type} (p q : α → Bool) (v : α → γ) (L : List α) (h : ∀ a ∈ L,p a = true → q a = false) : ((L.filter p).filter q).map v = [] := by
 have : (L.filter p).filter q = [] := List.filter_eq_nil_iff.mpr fun a ha => by
  obtain ⟨h1,h2⟩ := List.mem_filter.mp ha
  rw [h a h1 h2]
  decide
 rw [this]
 rfl
theorem JeK {ls : List (List Nat × Int)} {nm : List Nat} {d : Int} (h : J7Y ls nm d = true) : (nm,d) ∈ ls := by
 unfold J7Y at h
 obtain ⟨x,hx,h2⟩ := List.any_eq_true.mp h
 obtain ⟨l,hl,rfl⟩ := List.mem_map.mp hx
 have h3 : (eqV (T l.1) (T nm) && (eqV (.int l.2) (.int d) && true)) = true := h2
 rw [Bool.and_eq_true,Bool.and_true] at h3
 have e1 : l.1 = nm := by have z := h3.1; rw [Jfx] at z; exact of_decide_eq_true z
 have e2 : l.2 = d := by
  have := h3.2
  have : decide (l.2 = d) = true := this
  exact of_decide_eq_true this
 rw [← e1,← e2]
 exact hl
noncomputable def J35 (rs : List (List Nat × R)) : List Ru := rs.map fun e => ⟨e.1,e.2.bad⟩
structure Ja9 (ns : List Int) (n : Nat) (ks : List Nat) (nds : List Nd) (ls : List (List Nat × Int)) (rs : List (List Nat × R)) (prs : List Pr) (ps : List Ps) (P : List (List Nat)) : Prop where
 lp : ps.length = P.length
 l6 : ps.length ≤ 6
 ln : ∀ r ∈ P,r.length = n
 pg : ∀ (i : Nat) (m : Ps) (row : List Nat),ps[i]? = some m → P[i]? = some row → Jav ns i m row
 ne : ∀ e < n,∀ k ∈ ks,neB nds P (e : Int) k = false
 lv : ∀ l ∈ ls,JbG (n : Int) ps P l
 ru : ∀ e ∈ rs,JbQ ps P e
 pr : ∀ p ∈ prs,J6T ps P (n : Int) p
theorem Ja9.uniq {ns : List Int} {n : Nat} {ks : List Nat} {nds : List Nd} {ls : List (List Nat × Int)} {rs : List (List Nat × R)} {prs : List Pr} {ps : List Ps} {P : List (List Nat)} (x : Ja9 ns n ks nds ls rs prs ps P) {i j : Nat} {a b : Ps} (h1 : ps[i]? = some a) (h2 : ps[j]? = some b) (h : a.nm = b.nm) : i = j := by
 have i1 := (List.getElem?_eq_some_iff.mp h1).1
 have i2 := (List.getElem?_eq_some_iff.mp h2).1
 have hl := x.lp
 have h6 := x.l6
 have g1 := (x.pg i a _ h1 (List.getElem?_eq_getElem (by omega))).nm
 have g2 := (x.pg j b _ h2 (List.getElem?_eq_getElem (by omega))).nm
 rw [g1,g2] at h
 have := J7Z (p := 0 + (i : Int)) (q := 0 + (j : Int)) ⟨by omega,by omega⟩ ⟨by omega,by omega⟩ h
 omega
theorem Jd5 {ns : List Int} {n : Nat} {ks : List Nat} {nds : List Nd} {ls : List (List Nat × Int)} {rs : List (List Nat × R)} {prs : List Pr} {ps : List Ps} {P R : List (List Nat)} (x : Ja9 ns n ks nds ls rs prs ps P) {D : Nat} (hD : D ≤ n) (ag : Jaz D R P) {e : Nat} (he : e < D) : dayX ks nds ls (J35 rs) prs ps R (e : Int) = [] := by
 have key : ∀ a ∈ ps.zip R,∃ (i : Nat) (p : List Nat),ps[i]? = some a.1 ∧ P[i]? = some p ∧ p.length = n ∧ a.2.take D = p.take D ∧ mkA a.2 (e : Int) = mkA p (e : Int) ∧ mkA p (e : Int) ∈ p ∧ Jav ns i a.1 p := fun a ha => by
  obtain ⟨i,hi⟩ := List.getElem?_of_mem ha
  obtain ⟨h1,h2⟩ := List.getElem?_zip_eq_some.mp hi
  have hil := (List.getElem?_eq_some_iff.mp h1).1
  have hp : P[i]? = some (P[i]'(by have := x.lp; omega)) := List.getElem?_eq_getElem (by have := x.lp; omega)
  generalize P[i]'(by have := x.lp; omega) = p at hp
  have ht := ag.tk i _ _ h2 hp
  have hpl := x.ln p (List.mem_of_getElem? hp)
  refine ⟨i,p,h1,hp,hpl,ht,Jaw ht he,?_,x.pg i _ _ h1 hp⟩
  unfold mkA
  rw [List.getD_eq_getElem?_getD,Int.toNat_natCast,List.getElem?_eq_getElem (by omega)]
  exact List.getElem_mem _
 unfold dayX
 have e1 : skL (ps.zip R) (e : Int) = [] := Jbh _ _ _ _ fun a ha hon => by
  obtain ⟨i,p,h1,h2,hl,ht,hm,hin,g⟩ := key a ha
  unfold skB
  unfold onB at hon
  rw [hm] at hon ⊢
  rcases g.sk _ hin with z | z
  ·rw [decide_eq_true z] at hon
   cases hon
  ·rw [decide_eq_true z]
   rfl
 have e2 : lvL ls (ps.zip R) (e : Int) = [] := Jbh _ _ _ _ fun a ha hon => by
  obtain ⟨i,p,h1,h2,hl,ht,hm,hin,g⟩ := key a ha
  unfold onB at hon
  rw [hm] at hon
  unfold lvB
  refine Bool.eq_false_iff.mpr fun z => ?_
  obtain ⟨j,m,row,j1,j2,j3,j4⟩ := (x.lv _ (JeK z)).out
  have := x.uniq j1 h1 j3
  subst this
  rw [h2] at j2
  cases j2
  have j4' : mkA p (e : Int) = 45 := j4
  rw [decide_eq_true j4'] at hon
  cases hon
 have e3 : neL ks nds R (e : Int) = [] := by
  unfold neL
  have ec : ∀ k,cntF R (e : Int) k = cntF P (e : Int) k := fun k => by
   have em : ∀ rows : List (List Nat),cntF rows (e : Int) k = ((rows.map fun r => mkA r (e : Int)).filter fun m => decide (m = k)).length := fun rows => by
    unfold cntF
    rw [List.filter_map,List.length_map]
    rfl
   rw [em,em]
   congr 2
   refine List.ext_getElem? fun i => ?_
   rw [List.getElem?_map,List.getElem?_map]
   have := ag.mk_at he i
   rw [List.getD_eq_getElem?_getD,List.getD_eq_getElem?_getD] at this
   cases h1 : R[i]? with
   | none =>
    have : P[i]? = none := by
     rw [List.getElem?_eq_none_iff] at h1 ⊢
     have := ag.len
     omega
    rw [this]
   | some r =>
    have hi := (List.getElem?_eq_some_iff.mp h1).1
    have h2 : P[i]? = some (P[i]'(by have := ag.len; omega)) := List.getElem?_eq_getElem (by have := ag.len; omega)
    rw [h1,h2] at this
    rw [h2]
    show some (mkA r (e : Int)) = some _
    congr 1
  have : ks.filter (neB nds R (e : Int)) = [] := List.filter_eq_nil_iff.mpr fun k hk => by
   have := x.ne e (by omega) k hk
   unfold neB at this ⊢
   rw [ec,this]
   decide
  rw [this]
  rfl
 have e4 : moL (ps.zip R) (e : Int) = [] := Jbh _ _ _ _ fun a ha hon => by
  obtain ⟨i,p,h1,h2,hl,ht,hm,hin,g⟩ := key a ha
  unfold moB
  rw [take_take ht he]
  have h3 : dut (p.take (e + 1)) ≤ dut p := by
   have : dut p = dut (p.take (e + 1)) + dut (p.drop (e + 1)) := by rw [← J8W,List.take_append_drop]
   omega
  have h4 := g.mo
  exact decide_eq_false (by omega)
 have e5 : ruL (J35 rs) (ps.zip R) (e : Int) = [] := by
  unfold ruL
  rw [List.flatten_eq_nil_iff]
  intro l hl
  obtain ⟨a,ha,rfl⟩ := List.mem_map.mp hl
  obtain ⟨i,p,h1,h2,hpl,ht,hm,hin,g⟩ := key a ha
  unfold ruPX
  have : (ruI (J35 rs) a.1.nm).filter (ruB (J35 rs) (a.1.past ++ cutN a.2 none (some ((e : Int) + 1)))) = [] := List.filter_eq_nil_iff.mpr fun k hk => by
   unfold ruI at hk
   obtain ⟨hk1,hk2⟩ := List.mem_filter.mp hk
   have hk1 := List.mem_range.mp hk1
   unfold J35 at hk1
   rw [List.length_map] at hk1
   have hr : rs[k]? = some rs[k] := List.getElem?_eq_getElem hk1
   have hrm := List.getElem_mem hk1
   generalize rs[k] = r at hr hrm
   have er : ruAt (J35 rs) k = ⟨r.1,r.2.bad⟩ := J8Z (by unfold J35; rw [List.getElem?_map,hr]; rfl)
   unfold J9Z at hk2
   rw [er] at hk2
   have hk3 : r.1 ∈ [wAll,a.1.nm] := of_decide_eq_true hk2
   have hk4 : r.1 = wAll ∨ r.1 = a.1.nm := by simpa using hk3
   have hb := (x.ru r hrm).kp i a.1 p h1 h2 hk4
   unfold ruB
   rw [er,take_take ht he]
   show ¬ r.2.bad (a.1.past ++ p.take (e + 1)) = true
   intro z
   have : e ∈ badL r.2 a.1.past p := List.mem_filter.mpr ⟨List.mem_range.mpr (by omega),z⟩
   rw [hb] at this
   cases this
  rw [this]
  rfl
 have e6 : paLX prs R (e : Int) = [] := by
  unfold paLX
  have : ((List.range prs.length).filter fun i => paB R (e : Int) (prAt prs i)) = [] := List.filter_eq_nil_iff.mpr fun i hi => by
   have hi := List.mem_range.mp hi
   have hm : prAt prs i ∈ prs := by
    unfold prAt
    rw [List.getD_eq_getElem?_getD,List.getElem?_eq_getElem hi]
    exact List.getElem_mem _
   have := (x.pr _ hm).ok e (by omega)
   unfold paB at this ⊢
   rw [ag.mk_at he,ag.mk_at he,this]
   decide
  rw [this]
  rfl
 rw [e1,e2,e3,e4,e5,e6]
 rfl
theorem Jak {ns : List Int} {n : Nat} {ks : List Nat} {nds : List Nd} {ls : List (List Nat × Int)} {rs : List (List Nat × R)} {prs : List Pr} {ps : List Ps} {P R : List (List Nat)} (x : Ja9 ns n ks nds ls rs prs ps P) {D : Nat} (hD : D ≤ n) (ag : Jaz D R P) : ∀ e,e ≤ D → allX ks nds ls (J35 rs) prs ps R e = []
 | 0,_ => rfl
 | e + 1,he => by rw [allX,Jak x hD ag e (by omega),Jd5 x hD ag (by omega)]; rfl
theorem JbP {X : Cx} {K : PySem.W.Frag} (h : X.K = K) : SlR X (rSlT K) := h ▸ JfP
theorem Ja3 {K : PySem.W.Frag} {H : Hp} {a b : Addr} {xs ys : List V} {Q : VK} (ha : H a = some (.tup xs)) (hb : H b = some (.tup ys)) (hl : xs.length + ys.length ≤ 1000) (q : ∀ t H',Same H H' → H' t = some (.tup (xs ++ ys)) → Q (.ref t) H') : JeU K (.ref a) (.ref b) H Q := by
 refine ⟨a,b,xs,ys,rfl,rfl,SqT.of ha,SqT.of hb,Nat.le_trans hl (by decide),fun e => ?_,fun _ e => ?_,fun _ _ p np => q p _ (Jr np _) J9⟩
 ·subst e
  exact q b H (Same.refl _) hb
 ·subst e
  exact q a H (Same.refl _) (by rw [List.append_nil]; exact ha)
noncomputable def zAt (k : Int) (l : List V) : Int := match l[k.toNat]? with
 | some (.int z) => z
 | _ => 0
theorem JfS {k : Int} {l : List V} {z : Int} (h : l[k.toNat]? = some (.int z)) : zAt k l = z := by unfold zAt; rw [h]
noncomputable def ltB (day k : Int) (l : List V) : Bool := decide (day ≤ zAt k l)
noncomputable def ltS (day k : Int) (l : List V) : List V := cutV l none (some k) ++ [.int (zAt k l - day)] ++ cutV l (some (k + 1)) none
noncomputable def JcO (K : PySem.W.Frag) : Sp := fun vs H Q _ => ∃ (r : Addr) (day k : Int) (L : List (List V)) (xs : List V),vs = [.ref r,.int day,.int k] ∧ H r = some (.lst xs) ∧ All2 TpV H L xs ∧ L.length ≤ 1000 ∧ 0 ≤ k ∧ (∀ l ∈ L,k < (l.length : Int) ∧ l.length ≤ 10 ∧ ∃ z,l[k.toNat]? = some (.int z)) ∧
 ∀ (D : Addr) (H' : Hp) (ys : List V),Same H H' → H D = none → H' D = some (.lst ys) → All2 TpV H' ((L.filter (ltB day k)).map (ltS day k)) ys → Q (.ref D) H'
noncomputable def Jeg (C : Addr) : Sp := fun vs H Q _ => ∃ (p1 p2 : Addr) (n : Ps) (l : List Nat),vs = [.ref p1,.ref p2,T l] ∧ J3O C H p1 n.nm n.sk (n.most - (dut l : Int)) (n.car + (dut l : Int)) ((n.past ++ l).drop ((n.past ++ l).length - (6 : Int).toNat)) ∧ J3O C H p2 n.nm n.sk n.most n.car n.past ∧ l.length ≤ 100 ∧ n.past.length ≤ 100 ∧ ∀ H',Same H H' → Q (.bl true) H'
theorem JdD (l : List Nat) : cutN l (some (-6)) none = l.drop (l.length - (6 : Int).toNat) := by
 unfold cutN
 have e : HT.sIx l.length 0 (some (-6)) = l.length - (6 : Int).toNat := by
  show (if (-6 : Int) < 0 then ((-6 : Int) + (l.length : Int)).toNat else min (-6 : Int).toNat l.length) = _
  rw [if_pos (by decide)]
  have : (6 : Int).toNat = 6 := rfl
  omega
 rw [e]
 show (l.drop (l.length - (6 : Int).toNat)).take (l.length - (l.length - (6 : Int).toNat)) = _
 exact List.take_of_length_le (by rw [List.length_drop]; exact Nat.le_refl _)
section
variable {P : Program} {w : World} {K : PySem.W.Frag} {mg : Str → Option Value} {base : Heap} {J8 Jb J7 Ja J3 Jh J2 J1 : Addr}
local macro_rules | `(tactic| walk_at "lk") => `(tactic| first | exact J2n _ _ _ _ _ | exact J3t _ _ _ _ _ | exact J5i _ _ _ _ _ | exact J4C _ _ _ _ _ | exact J5g _ _ _ _ _)
theorem J9n (tx : Tx K mg J8 Jb J7 Ja J3 Jh J2 J1) : FnG P w K mg base "_law_later" 2 ["_law_rows","_law_day","_law_at"] (JcO K) := by
 refine tx.J9Q.g J8i (fun _ _ _ _ _ _ us hl => match us,hl with | [_,_,_],_ => rfl) (fun vs H Q E h => ?_) (fun f cdv A outer s H vs Q E hr h => ?_)
 ·obtain ⟨r,day,k,L,xs,rfl,_⟩ := h
  rfl
 ·obtain ⟨r,day,k,L,xs,rfl,hr1,hA,hl,k0,hL,q⟩ := h
  refine ⟨_,(Jc (Jp (J05 (osc := J4 J1u) (ON := ["_law_rows","_law_day","_law_at"]) (N := ["_law_row","_law_at","_law_day"]) (js := [none,some 2,some 1]) ⟨rfl,by decide +kernel,by decide +kernel,by decide +kernel,rfl,by decide +kernel⟩ rfl rfl rfl (J07 (K := K) rfl (pv 0)) (fun _ _ _ _ _ => Jo (i := 0) (show List.Nodup (["_law_row","_law_at","_law_day"] : List Str) from by decide +kernel) rfl (Or.inl rfl)) (fun _ _ _ _ _ => J06 (Jl JbK (JE (J2D (K := K) rfl) (pv 0) (pv 1) (fun _ _ => rfl)) (pv 2) (Jq _))) (fun _ _ _ _ _ => (Jf (JbL (K := K) rfl) (Jf (JbL (K := K) rfl) (J0e (JbP (K := K) rfl) (pv 0) J15 (J0q (pv 1))) (J0a (J0 (Jf J3r (JE (J2D (K := K) rfl) (pv 0) (pv 1) (fun _ _ => rfl)) (pv 2)) J6))) (J0e (JbP (K := K) rfl) (pv 0) (J0q (Jf JL (pv 1) Jd)) J15)))))),?_⟩
  walk_at "st"
  walk_at "rd"
  refine J0b L (ltB day k) (fun l y H => TpV (ltS day k l) y H) (fun σ => ∃ v,σ = [v,some (.int k),some (.int day)]) (J0n (SqL.of hr1)) hA.len (by omega) ⟨_,rfl⟩ (fun a y Ha Hb k h => TpV.keeps _ y Ha Hb k h) (fun i a v σ H' ha hv hσ s' Rf Rt hF hR' => ?_) (fun D H1 ys nD s1 hys hD => ?_)
  ·obtain ⟨v1,rfl⟩ := hσ
   obtain ⟨y,hy,t,rfl,ht⟩ := hA.get ha
   rw [hv] at hy
   cases hy
   have ht' := s' _ _ ht
   obtain ⟨g1,g2,z,hz⟩ := hL a (List.mem_of_getElem? ha)
   have hat : atI a k = some (.int z) := by
    have := J0E hz
    rwa [Int.toNat_of_nonneg k0] at this
   have ez : zAt k a = z := JfS hz
   have hw1 : ¬ (HT.sIx a.length 0 none = 0 ∧ HT.sIx a.length a.length (some k) = a.length) := fun z => by
    have e : HT.sIx a.length a.length (some k) = min k.toNat a.length := by
     show (if k < 0 then (k + (a.length : Int)).toNat else min k.toNat a.length) = _
     rw [if_neg (by omega)]
    rw [e] at z
    omega
   have hw2 : ¬ (HT.sIx a.length 0 (some (k + 1)) = 0 ∧ HT.sIx a.length a.length none = a.length) := fun z => by
    have e : HT.sIx a.length 0 (some (k + 1)) = min (k + 1).toNat a.length := by
     show (if k + 1 < 0 then (k + 1 + (a.length : Int)).toNat else min (k + 1).toNat a.length) = _
     rw [if_neg (by omega)]
    rw [e] at z
    omega
   have c1 := J3l a none (some k)
   have c2 := J3l a (some (k + 1)) none
   walk_at "rd"
   refine ite2 (fun c => ?_) (fun c => ?_)
   ·have cc : ltB day k a = true := by unfold ltB; rw [ez]; exact c
    walk_at "rd"
    intro p1 np1
    obtain ⟨H1,e1,hp1,s1⟩ := newt (xs := cutV a none (some k)) np1
    rw [← e1]
    clear e1
    have ht1 := s1 _ _ ht'
    walk_at "rd"
    intro p2 np2
    obtain ⟨H2,e2,hp2,s2⟩ := newt (xs := [V.int (z - day)]) np2
    rw [← e2]
    clear e2
    refine Ja3 (s2 _ _ hp1) hp2 (by rw [List.length_singleton]; omega) fun t3 H3 s3 ht3 => ?_
    have ht13 := (s2.trans s3) _ _ ht1
    walk_at "rd"
    intro p4 np4
    obtain ⟨H4,e4,hp4,s4⟩ := newt (xs := cutV a (some (k + 1)) none) np4
    rw [← e4]
    clear e4
    refine Ja3 (s4 _ _ ht3) hp4 (by rw [List.length_append,List.length_singleton]; omega) fun t5 H5 s5 ht5 => ?_
    refine hR' _ _ _ cc ⟨_,rfl⟩ ((((s1.trans s2).trans s3).trans s4).trans s5) ⟨t5,rfl,?_⟩
    unfold ltS
    rw [ez]
    exact ht5
   ·exact hF _ _ (by unfold ltB; rw [ez]; exact Bool.eq_false_iff.mpr c) ⟨_,rfl⟩ (Same.refl _)
  ·walk_at "rd"
   exact q D H1 ys s1 nD hD (All2.mapL (P := TpV) hys)
theorem J8J (tx : Tx K mg J8 Jb J7 Ja J3 Jh J2 J1) : FnG P w K mg base "_law_person" 2 ["_law_one","_law_person_here","_law_head"] (Jeg J2) := by
 refine tx.J8K.g J3o (fun _ _ _ _ _ _ us hl => match us,hl with | [_,_,_],_ => rfl) (fun vs H Q E h => ?_) (fun f cdv A outer s H vs Q E hr h => ?_)
 ·obtain ⟨p1,p2,n,l,rfl,_⟩ := h
  rfl
 ·obtain ⟨p1,p2,n,l,rfl,⟨dx1,h1⟩,⟨dx2,h2⟩,hl,hpl,q⟩ := h
  refine ⟨_,(J5 (Jj (i := 3) J3o.nd rfl (Or.inl rfl) (Jt (JC (K := K) rfl) rfl tx.J0c PySem.boot_len (J0 (J05 (osc := J4 J11) (ON := ["_law_one","_law_person_here","_law_head","_law_many","_law_past"]) (N := ["_law_mark"]) (js := [none]) ⟨rfl,by decide +kernel,by decide +kernel,by decide +kernel,rfl,by decide +kernel⟩ rfl rfl rfl (J4H (pv 2)) (fun _ _ _ _ _ => Jo (i := 0) (show List.Nodup (["_law_mark"] : List Str) from by decide +kernel) rfl (Or.inl rfl)) (fun _ _ _ _ _ => J06 (Jl J34 (pv 0) (Jv (l := [45]) (by decide +kernel)) (Jq _))) (fun _ _ _ _ _ => (pv 0))) J6)))
   (J5 (Jj (i := 4) J3o.nd rfl (Or.inl rfl) (Jf J0F (Jg (K := K) rfl (pv 1) rfl) (pv 2)))
   (J5 (J01 (PW.pt (J5f (Jl J34 (Jg (K := K) rfl (pv 0) rfl) (Jg (K := K) rfl (pv 1) rfl) (Jq _)) (J5f (Jl J34 (Jg (K := K) rfl (pv 0) rfl) (Jg (K := K) rfl (pv 1) rfl) (Jq _)) (J4F (Jl J34 (Jg (K := K) rfl (pv 0) rfl) (J0e J2N (pv 4) (J0q (Jf1 JdA Jd)) J15) (Jq _)))))) (Jc (Jp J3h)) JA)
   (Jc (Jp (JdY (J2m J0f (Jg (K := K) rfl (pv 0) rfl) (Jf J3r (Jg (K := K) rfl (pv 1) rfl) (pv 3)) (Jq _)) (J8U (J2m J0f (Jg (K := K) rfl (pv 0) rfl) (Jf JL (Jg (K := K) rfl (pv 1) rfl) (pv 3)) (Jq _))))))))),?_⟩
  walk_at "st"
  have hcl := tx.JS.cl
  have m1 := tx.Jy
  have m2 := tx.J04
  have m3 := tx.J0r
  have m4 := tx.J08
  have m5 := tx.J0d
  have pl : (n.past ++ l).length ≤ 1000 := by rw [List.length_append]; omega
  walk_at "rd"
  refine J3C (fun x => !decide (x = T [45])) (fun x => x) (J2X l) ?_ (fun x hx H' s' R hR => ?_) (fun x hx hp H' s' R hR => ?_) (fun D H1 nD s1 hD => ?_)
  ·rw [List.length_map]; omega
  ·obtain ⟨k,_,rfl⟩ := List.mem_map.mp hx
   walk_at "rd"
   exact hR H' (Same.refl _)
  ·walk_at "rd"
   exact hR H' (Same.refl _)
  refine ⟨D,_,rfl,.inl (SqL.of hD),?_⟩
  rw [J6i]
  have h11 := s1 _ _ h1
  have h21 := s1 _ _ h2
  clear hD nD
  walk_at "rd"
  refine ite2 (fun c => absurd c (by simp)) (fun _ => ?_)
  walk_at "rd"
  refine ite2 (fun c => absurd c (by simp)) (fun _ => ?_)
  walk_at "rd"
  refine ite2 (fun c => absurd c ?_) (fun _ => ?_)
  ·rw [JdD]
   simp
  walk_at "rd"
  refine ite2 (fun _ => ?_) (fun c => absurd (decide_eq_true rfl) c)
  walk_at "rd"
  show Q (.bl (decide (V.int (n.car + (dut l : Int)) = V.int (n.car + (dut l : Int))))) H1
  rw [decide_eq_true rfl]
  exact q H1 s1
end
noncomputable abbrev kT (l : List Nat) : Key := Sum.inr ⟨l.toArray⟩
noncomputable def MvOk (D : Int) (wh : List Nat → Int) (kvs : List (Key × V)) (f : Ft) : Prop := f.wd = wMoF → ∃ z row,f.x = .int z ∧ valV kvs (kT f.nm) = some (T row) ∧ row.length ≤ 100 ∧ wh f.nm = (dut (cutN row none (some D)) : Int)
noncomputable def JcI : Sp := fun vs H Q _ => ∃ (fl dc : Addr) (D : Int) (wh : List Nat → Int) (kvs : List (Key × V)) (fts : List Ft) (xs : List V),vs = [.ref fl,.ref dc,.int D] ∧ H fl = some (.lst xs) ∧ All2 TpV H (fts.map Ft.v) xs ∧ fts.length ≤ 2000 ∧ H dc = some (.dK kvs) ∧ 0 ≤ D ∧ (∀ f ∈ fts,MvOk D wh kvs f) ∧
 ∀ (r : Addr) (H' : Hp) (ys : List V),Same H H' → H r = none → H' r = some (.lst ys) → All2 TpV H' ((fts.map (mvT D wh)).map Ft.v) ys → Q (.ref r) H'
section
variable {P : Program} {w : World} {K : PySem.W.Frag} {mg : Str → Option Value} {base : Heap} {J8 Jb J7 Ja J3 Jh J2 J1 : Addr}
theorem J9r (tx : Tx K mg J8 Jb J7 Ja J3 Jh J2 J1) : FnG P w K mg base "_law_moved" 3 ["_law_found","_law_whole","_law_day"] JcI := by
 refine tx.J9o.g J10 (fun _ _ _ _ _ _ us hl => match us,hl with | [_,_,_],_ => rfl) (fun vs H Q E h => ?_) (fun f cdv A outer s H vs Q E hr h => ?_)
 ·obtain ⟨fl,dc,D,wh,kvs,fts,xs,rfl,_⟩ := h
  rfl
 ·obtain ⟨fl,dc,D,wh,kvs,fts,xs,rfl,hfl,hA,hl,hdc,D0,hok,q⟩ := h
  refine ⟨_,(J5 (Jj (i := 3) J10.nd rfl (Or.inl rfl) (J17 J6))
   (J5 (J0l PassesOwn.never rfl (J07 (K := K) rfl (pv 0)) (J2P rfl (Jz (Jo (i := 4) J10.nd rfl (Or.inl rfl)) (Jz (Jo (i := 5) J10.nd rfl (Or.inl rfl)) (Jz (Jo (i := 6) J10.nd rfl (Or.inl rfl)) (Jz (Jo (i := 7) J10.nd rfl (Or.inl rfl)) J1P))))) (J5 (J01 (Jl J0f (pv 5) (Jv (l := [109,111,115,116]) (by decide +kernel)) (Jq _)) (Jc (Jj (i := 7) J10.nd rfl (Or.inl rfl) (Jf JL (pv 7) (Jt (JC (K := K) rfl) rfl tx.J0c PySem.boot_len (J0 (J05 (osc := J4 J1q) (ON := ["_law_found","_law_whole","_law_day","_law_rows","_law_at","_law_word","_law_who","_law_which"]) (N := ["_law_mark"]) (js := [none]) ⟨rfl,by decide +kernel,by decide +kernel,by decide +kernel,rfl,by decide +kernel⟩ rfl rfl rfl (J4H (J0e J2N (Jer (J5k hr) (pv 1) (pv 6) (fun _ _ => rfl)) J15 (J0q (pv 2)))) (fun _ _ _ _ _ => Jo (i := 0) (show List.Nodup (["_law_mark"] : List Str) from by decide +kernel) rfl (Or.inl rfl)) (fun _ _ _ _ _ => J06 (Jl J34 (pv 0) (Jv (l := [45]) (by decide +kernel)) (Jq _))) (fun _ _ _ _ _ => (pv 0))) J6))))) JA)
   (Jc (J1O (J3k PySem.F.plainAttrs_list PySem.F.slot_list_append PySem.F.type_list_append J09 (pv 3) (J0 (J0a (J0 (Jf JL (pv 4) (pv 2)) (J0 (pv 5) (J0 (pv 6) (J0 (pv 7) J6))))) J6))))))
   (Jc (Jp (pv 3))))),?_⟩
  walk_at "st"
  have hxl := hA.len
  rw [List.length_map] at hxl
  walk_at "rd"
  intro rl nrl
  obtain ⟨H1,e1,hrl,s1⟩ := newl (xs := []) nrl
  rw [← e1]
  clear e1
  have hfl1 := s1 _ _ hfl
  walk_at "rd"
  refine J3y (K := K) (xs := xs) (fun i σ H3 => Here (∃ v1 v2 v3 v4 ys,σ = [some (.ref fl),some (.ref dc),some (.int D),some (.ref rl),v1,v2,v3,v4] ∧ H3 rl = some (.lst ys) ∧ All2 TpV H3 (((fts.take i).map (mvT D wh)).map Ft.v) ys ∧ Same H H3))
   (Here.mk ⟨none,none,none,none,[],rfl,hrl,trivial,s1⟩) (fun i σ H3 _ hv => by obtain ⟨_,_,_,_,_,_,_,_,s3⟩ := hv.out; exact SqL.of (s3 _ _ hfl)) ?_ ?_
  ·rintro i x σ H3 hx hv
   obtain ⟨v1,v2,v3,v4,ys,rfl,hr3,hA3,s3⟩ := hv.out
   obtain ⟨fv,hfv,t,rfl,ht⟩ := hA.back hx
   rw [List.getElem?_map] at hfv
   cases ef : fts[i]? with
   | none => rw [ef] at hfv; cases hfv
   | some f =>
   rw [ef] at hfv
   cases hfv
   have hm := hok f (List.mem_of_getElem? ef)
   have tk : fts.take (i + 1) = fts.take i ++ [f] := by rw [List.take_add_one,ef]; rfl
   have hi := (List.getElem?_eq_some_iff.mp ef).1
   have hyl := hA3.len
   rw [List.length_map,List.length_map,List.length_take] at hyl
   have yl : ys.length ≤ 2000 := by omega
   obtain ⟨day,wd,nm,x⟩ := f
   have ht3 : H3 t = some (.tup [.int day,T wd,T nm,x]) := s3 _ _ ht
   have fin : ∀ (x' : V) (H4 : Hp),Same H3 H4 → (mvT D wh ⟨day,wd,nm,x⟩).v = [.int (day + D),T wd,T nm,x'] → ∀ t2,H4 t2 = none → ∀ H5,H5 = upd H4 t2 (.tup [.int (day + D),T wd,T nm,x']) → H5 rl = some (.lst ys) ∧ All2 TpV (upd H5 rl (.lst (ys ++ [.ref t2]))) (((fts.take (i + 1)).map (mvT D wh)).map Ft.v) (ys ++ [.ref t2]) ∧ Same H (upd H5 rl (.lst (ys ++ [.ref t2]))) := fun x' H4 s4 ev t2 nt2 H5 e5 => by
    have s5 : Same H4 H5 := by rw [e5]; exact Jr nt2 _
    have ht5 : H5 t2 = some (.tup [.int (day + D),T wd,T nm,x']) := by rw [e5]; exact J9
    have s35 := s4.trans s5
    have hr5 := s35 _ _ hr3
    have kk : JO H5 (upd H5 rl (.lst (ys ++ [.ref t2]))) := JR hr5
    refine ⟨hr5,?_,(s3.trans s35).upd nrl⟩
    rw [tk,List.map_append,List.map_append]
    exact All2.snoc (hA3.imp fun a y => TpV.keeps a y _ _ (s35.keeps.trans kk)) ⟨t2,rfl,by show _ = some (HO.tup (mvT D wh ⟨day,wd,nm,x⟩).v); rw [ev]; exact kk _ _ ht5 fun zs z => by cases z⟩
   walk_at "rd"
   refine ite2 (fun c => ?_) (fun c => ?_)
   ·have ewd : wd = wMoF := J2p (of_decide_eq_true c)
    obtain ⟨z,row,ex,hv,hrl100,hwh⟩ := hm ewd
    have ex : x = .int z := ex
    have hg : DGet H3 dc (T nm) (some (T row)) := by
     have := DGet.k (k := kT nm) (s3 _ _ hdc)
     rw [show valV kvs (kT nm) = some (T row) from hv] at this
     exact this
    have cl := J2B row none (some D)
    subst ex
    walk_at "rd"
    refine J3C (fun x => !decide (x = T [45])) (fun x => x) (J2X (cutN row none (some D))) ?_ (fun x hx H' s' R hR => ?_) (fun x hx hp H' s' R hR => ?_) (fun D1 H4 nD s4 hD => ?_)
    ·rw [List.length_map]; omega
    ·obtain ⟨k,_,rfl⟩ := List.mem_map.mp hx
     walk_at "rd"
     exact hR H' (Same.refl _)
    ·walk_at "rd"
     exact hR H' (Same.refl _)
    refine ⟨D1,_,rfl,.inl (SqL.of hD),?_⟩
    rw [J6i]
    clear hD nD
    have hr4 := s4 _ _ hr3
    walk_at "rd"
    intro t2 nt2
    obtain ⟨H5,e5⟩ : ∃ H5,H5 = upd H4 t2 (.tup [.int (day + D),T wd,T nm,.int (z + (dut (cutN row none (some D)) : Int))]) := ⟨_,rfl⟩
    obtain ⟨f1,f2,f3⟩ := fin (.int (z + (dut (cutN row none (some D)) : Int))) H4 s4 (by unfold mvT; rw [if_pos ewd]; show [V.int (day + D),T wd,T nm,V.int (z + wh nm)] = _; rw [show wh nm = _ from hwh]) t2 nt2 H5 e5
    rw [← e5]
    walk_at "rd"
    exact Here.mk ⟨_,_,_,_,_,rfl,J9,f2,f3⟩
   ·walk_at "rd"
    intro t2 nt2
    obtain ⟨H5,e5⟩ : ∃ H5,H5 = upd H3 t2 (.tup [.int (day + D),T wd,T nm,x]) := ⟨_,rfl⟩
    have nwd : ¬ wd = wMoF := fun z => c (decide_eq_true (by rw [z]))
    obtain ⟨f1,f2,f3⟩ := fin x H3 (Same.refl _) (by unfold mvT; rw [if_neg nwd]; rfl) t2 nt2 H5 e5
    rw [← e5]
    walk_at "rd"
    exact Here.mk ⟨_,_,_,_,_,rfl,J9,f2,f3⟩
  ·rintro σ H3 hv
   obtain ⟨v1,v2,v3,v4,ys,rfl,hr3,hA3,s3⟩ := hv.out
   rw [List.take_of_length_le (by omega)] at hA3
   walk_at "rd"
   exact q rl H3 ys s3 nrl hr3 hA3
end
noncomputable def J5b (ps : List Ps) (rows : List (List Nat)) (i : Nat) : List (Key × V) := ((ps.zip rows).take i).map fun a => (kT a.1.nm,T a.2)
noncomputable def J9D (P : Program) (w : World) (K : PySem.W.Frag) (mg : Str → Option Value) (base : Heap) (C1 C2 : Addr) : Sp := fun vs H Q _ => ∃ (h1 h2 r : Addr) (D n : Nat) (ks : List Nat) (nds : List Nd) (ps : List Ps) (ls : List (List Nat × Int)) (u5 u6 : List V) (rows : List (List Nat)) (rls : List Ru) (prs : List Pr),vs = [.ref h1,.ref h2,.ref r,.int (D : Int)] ∧
 Hq C1 C2 H h1 (n : Int) ks nds ps ls u5 u6 ∧ Hq C1 C2 H h2 ((n : Int) - (D : Int)) ks (J36 (D : Int) nds) ((ps.zip rows).map (psS (D : Int))) (J3f (D : Int) ls) u5 u6 ∧ H r = some (.lst (rows.map T)) ∧ rows.length = ps.length ∧ ps.length ≤ 8 ∧ ks.length ≤ 4 ∧ D ≤ n ∧ n ≤ 14 ∧ (∀ r ∈ rows,r.length = n) ∧ (∀ n ∈ ps,n.past.length ≤ 50) ∧ All2 (RuT P w K mg base) H rls u5 ∧ rls.length ≤ 8 ∧ All2 PrT H prs u6 ∧ prs.length ≤ 8 ∧ (∀ p ∈ prs,PrIn ps p) ∧
 (∀ u ∈ rls,Six u) ∧ (∀ (i j : Nat) (a b : Ps),ps[i]? = some a → ps[j]? = some b → a.nm = b.nm → i = j) ∧ allX ks nds ls rls prs ps rows D = [] ∧ ∀ H',Same H H' → Q (.bl true) H'
theorem J3v {K : PySem.W.Frag} {H : Hp} {L : List (List V)} {xs ys : List V} (h1 : All2 TpV H L xs) (h2 : All2 TpV H L ys) (hf : ∀ l ∈ L,l.all J0j = true) : J40 K H xs ys := by
 refine ⟨by have := h1.len; have := h2.len; omega,fun j x y hx hy => ?_⟩
 obtain ⟨l,hl,t,rfl,ht⟩ := h1.back hx
 obtain ⟨l',hl',t',rfl,ht'⟩ := h2.back hy
 rw [hl] at hl'
 cases hl'
 have f := hf l (List.mem_of_getElem? hl)
 exact .tups (SqT.of ht) (SqT.of ht') f f (J5H f)
theorem Jd6 {kvs : List (Key × V)} {k : Key} (h : ∀ p ∈ kvs,¬ p.1 = k) : valV kvs k = none := by
 induction kvs with
 | nil => rfl
 | cons p r ih => rw [J3Y (h p List.mem_cons_self),ih fun q hq => h q (List.mem_cons_of_mem _ hq)]
theorem JdV {a b : List Nat} (h : kT a = kT b) : a = b := by
 exact J2p (congrArg V.str (Sum.inr.inj h))
noncomputable def Jdd (L : List (Ps × List Nat)) : Prop := ∀ (i j : Nat) (a b : Ps × List Nat),L[i]? = some a → L[j]? = some b → a.1.nm = b.1.nm → i = j
theorem JdZ {L : List (Ps × List Nat)} (hu : Jdd L) : ∀ {i : Nat} {a : Ps × List Nat},L[i]? = some a → valV (L.map fun a => (kT a.1.nm,T a.2)) (kT a.1.nm) = some (T a.2) := by
 induction L with
 | nil => intro i a h; simp at h
 | cons b r ih =>
  intro i a h
  rw [List.map_cons]
  cases i with
  | zero =>
   have e : b = a := Option.some.inj h
   subst e
   exact J5m rfl
  | succ i =>
   rw [J3Y]
   ·exact ih (fun i j x y h1 h2 h3 => by have := hu (i + 1) (j + 1) x y h1 h2 h3; omega) (i := i) h
   ·intro z
    have z' : b.1.nm = a.1.nm := JdV z
    have := hu 0 (i + 1) b a rfl h z'
    omega
noncomputable def whF (D : Nat) (L : List (Ps × List Nat)) (nm : List Nat) : Int := match L.find? fun a => decide (a.1.nm = nm) with
 | some a => (dut (cutN a.2 none (some (D : Int))) : Int)
 | none => 0
theorem JcU {D : Nat} {L : List (Ps × List Nat)} (hu : Jdd L) {a : Ps × List Nat} (ha : a ∈ L) : whF D L a.1.nm = (dut (cutN a.2 none (some (D : Int))) : Int) := by
 unfold whF
 cases e : L.find? fun b => decide (b.1.nm = a.1.nm) with
 | none => exact absurd (decide_eq_true (rfl : a.1.nm = a.1.nm)) (List.find?_eq_none.mp e a ha)
 | some b =>
  have h1 := List.mem_of_find?_eq_some e
  have h3 := List.find?_some e
  have h2 : b.1.nm = a.1.nm := by simpa using h3
  obtain ⟨i,hi⟩ := List.getElem?_of_mem ha
  obtain ⟨j,hj⟩ := List.getElem?_of_mem h1
  have := hu j i b a hj hi h2
  subst this
  rw [hi] at hj
  cases hj
  rfl
theorem J9c {ks : List Nat} {nds : List Nd} {ls : List (List Nat × Int)} {rls : List Ru} {prs : List Pr} {ps : List Ps} {rows : List (List Nat)} {f : Ft} : ∀ {m : Nat},f ∈ allX ks nds ls rls prs ps rows m → (f.v).all J0j = true ∧ (f.wd = wMoF → ∃ z,f.x = .int z ∧ ∃ a ∈ ps.zip rows,f.nm = a.1.nm)
 | 0,h => by cases h
 | m + 1,h => by
  rw [allX] at h
  rcases List.mem_append.mp h with h | h
  ·exact J9c h
  unfold dayX at h
  simp only [List.mem_append] at h
  rcases h with ((((h | h) | h) | h) | h) | h
  ·obtain ⟨a,_,rfl⟩ := List.mem_map.mp h
   exact ⟨rfl,fun z => absurd z (show ¬ J99 = wMoF by decide)⟩
  ·obtain ⟨a,_,rfl⟩ := List.mem_map.mp h
   exact ⟨rfl,fun z => absurd z (show ¬ J92 = wMoF by decide)⟩
  ·obtain ⟨a,_,rfl⟩ := List.mem_map.mp h
   exact ⟨rfl,fun z => absurd z (show ¬ J3Q = wMoF by decide)⟩
  ·obtain ⟨a,ha,rfl⟩ := List.mem_map.mp h
   exact ⟨rfl,fun _ => ⟨_,rfl,a,(List.mem_filter.mp (List.mem_filter.mp ha).1).1,rfl⟩⟩
  ·obtain ⟨l,hl,h⟩ := List.mem_flatten.mp h
   obtain ⟨a,_,rfl⟩ := List.mem_map.mp hl
   obtain ⟨i,_,rfl⟩ := List.mem_map.mp h
   exact ⟨rfl,fun z => absurd z (show ¬ Jbv = wMoF by decide)⟩
  ·obtain ⟨a,_,rfl⟩ := List.mem_map.mp h
   exact ⟨rfl,fun z => absurd z (show ¬ J6U = wMoF by decide)⟩
section
variable {P : Program} {w : World} {K : PySem.W.Frag} {mg : Str → Option Value} {base : Heap} {J8 Jb J7 Ja J3 Jh J2 J1 : Addr}
local macro_rules | `(tactic| walk_at "lk") => `(tactic| first | exact J2n _ _ _ _ _ | exact J23 _ _ _ _ _ _ _ _)
theorem J9y (tx : Tx K mg J8 Jb J7 Ja J3 Jh J2 J1) : FnG P w K mg base "_law_alike" 40 ["_law_house","_law_left","_law_rota","_law_day"] (J9D P w K mg base J2 J1) := by
 have J6v := JcC (P := P) (w := w) (base := base) tx
 have J5O := J9r (P := P) (w := w) (base := base) tx
 refine tx.J9H.g J2l (fun _ _ _ _ _ _ us hl => match us,hl with | [_,_,_,_],_ => rfl) (fun vs H Q E h => ?_) (fun f cdv A outer s H vs Q E hr h => ?_)
 ·obtain ⟨h1,h2,r,D,n,ks,nds,ps,ls,u5,u6,rows,rls,prs,rfl,_⟩ := h
  rfl
 ·obtain ⟨h1,h2,r,D,n,ks,nds,ps,ls,u5,u6,rows,rls,prs,rfl,hq1,hq2,hr1,hrl,hp8,hk4,hDn,hn14,hrow,hpast,hRu,hr8,hPr,hpr8,hPI,h6,huq,h0,q⟩ := h
  refine ⟨_,(J5 (Jj (i := 4) J2l.nd rfl (Or.inl rfl) Jdu)
   (J5 (J0l PassesOwn.never rfl (J5h (K := K) rfl rfl tx.J4q (J0 (Jg (K := K) rfl (pv 0) rfl) (J0 (pv 2) J6))) (J2P rfl (Jz (Jo (i := 5) J2l.nd rfl (Or.inl rfl)) (Jz (Jo (i := 6) J2l.nd rfl (Or.inl rfl)) J1P))) (Jc (Jes (J5k hr) (pv 4) (Jg (K := K) rfl (pv 5) rfl) (pv 6) rfl)))
   (J5 (Jj (i := 7) J2l.nd rfl (Or.inl rfl) (Jw J6v (hr.mono (by decide)) (J0 (pv 1) (J0 (J05 (osc := J4 J1m) (ON := ["_law_house","_law_left","_law_rota","_law_day","_law_whole","_law_person_here","_law_row","_law_found"]) (N := ["_law_row","_law_day"]) (js := [none,some 3]) ⟨rfl,by decide +kernel,by decide +kernel,by decide +kernel,rfl,by decide +kernel⟩ rfl rfl rfl (J07 (K := K) rfl (pv 2)) (fun _ _ _ _ _ => Jo (i := 0) (show List.Nodup (["_law_row","_law_day"] : List Str) from by decide +kernel) rfl (Or.inl rfl)) (fun _ _ _ _ _ => J1X) (fun _ _ _ _ _ => (J0e J2N (pv 0) (J0q (pv 1)) J15))) J6))))
   (Jc (Jp (J2m (JeG (K := K) rfl (J5k hr)) (Jw J5O (hr.mono (by decide)) (J0 (pv 7) (J0 (pv 4) (J0 (pv 3) J6)))) (Jw J6v (hr.mono (by decide)) (J0 (pv 0) (J0 (pv 2) J6))) (Jq _))))))),?_⟩
  walk_at "st"
  clear J6v J5O
  have hclH := tx.JP.cl
  have hclP := tx.JS.cl
  have m1 := tx.JJ
  have m2 := tx.Jy
  obtain ⟨a1,a2,a3,a4,a5,a6,xs,ys,zs,ws,⟨dx,hh⟩,g1,g2,g3,g4,g5⟩ := id hq1
  have hyl := g4.len
  have huL : Jdd (ps.zip rows) := fun i j a b h1 h2 h3 => huq i j a.1 b.1 (List.getElem?_zip_eq_some.mp h1).1 (List.getElem?_zip_eq_some.mp h2).1 h3
  walk_at "rd"
  intro dc ndc
  obtain ⟨H1,e1,hd1,s1⟩ : ∃ H1,H1 = upd H dc (.dK []) ∧ H1 dc = some (.dK []) ∧ Same H H1 := ⟨_,rfl,J9,Jr ndc _⟩
  rw [← e1]
  clear e1
  have hh1 := s1 _ _ hh
  have g31 := s1 _ _ g3
  have hr11 := s1 _ _ hr1
  walk_at "rd"
  refine Jax (K := K) (xs := ys) (ys := rows.map T) (fun i σ H3 => Here (∃ v5 v6,σ = [some (.ref h1),some (.ref h2),some (.ref r),some (.int (D : Int)),some (.ref dc),v5,v6,none] ∧ H3 dc = some (.dK (J5b ps rows i)) ∧ Same H H3))
   (Here.mk ⟨none,none,rfl,hd1,s1⟩) (fun i σ H3 _ _ hv => by obtain ⟨_,_,_,_,s3⟩ := hv.out; exact ⟨SqL.of (s3 _ _ g3),SqL.of (s3 _ _ hr1)⟩) ?_ ?_
  ·rintro i x y p σ H3 hx hy hp hv
   obtain ⟨v5,v6,rfl,hd3,s3⟩ := hv.out
   obtain ⟨m,hm,pa,rfl,dx',hpa⟩ := g4.back hx
   obtain ⟨row,hrw,rfl⟩ : ∃ row,rows[i]? = some row ∧ y = T row := by
    rw [List.getElem?_map] at hy
    cases e : rows[i]? with
    | none => rw [e] at hy; cases hy
    | some z => rw [e] at hy; exact ⟨z,rfl,(Option.some.inj hy).symm⟩
   have hz : (ps.zip rows)[i]? = some (m,row) := List.getElem?_zip_eq_some.mpr ⟨hm,hrw⟩
   obtain ⟨H4,e4,hp4,s4⟩ := newt (xs := [V.ref pa,T row]) hp
   rw [← e4]
   clear e4
   have s04 := s3.trans s4
   have hpa4 := s04 _ _ hpa
   have hd4 := s4 _ _ hd3
   have ek : J5b ps rows (i + 1) = putK (J5b ps rows i) (kT m.nm) (T row) := by
    rw [JdW]
    ·unfold J5b
     rw [List.take_add_one,hz,List.map_append]
     rfl
    ·refine Jd6 fun q hq z => ?_
     unfold J5b at hq
     obtain ⟨a,ha,rfl⟩ := List.mem_map.mp hq
     obtain ⟨j,hj⟩ := List.getElem?_of_mem ha
     rw [List.getElem?_take] at hj
     split at hj
     ·rename_i hlt
      have := huL j i a (m,row) hj hz (JdV z)
      omega
     ·cases hj
   have hdp : DPut H4 dc (T m.nm) (T row) (upd H4 dc (.dK (J5b ps rows (i + 1)))) := by
    rw [ek]
    refine DPut.k (k := kT m.nm) hd4 (Nat.lt_of_le_of_lt (m := 8) ?_ (by decide))
    unfold J5b
    rw [List.length_map,List.length_take,List.length_zip]
    omega
   walk_at "rd"
   exact Here.mk ⟨_,_,rfl,J9,s04.upd ndc⟩
  ·rintro i σ H3 hi hv
   obtain ⟨v5,v6,rfl,hd3,s3⟩ := hv.out
   rw [List.length_map] at hi
   have hr3 := s3 _ _ hr1
   have il : i = (ps.zip rows).length := by rw [List.length_zip]; omega
   have eR : J5b ps rows i = (ps.zip rows).map fun a => (kT a.1.nm,T a.2) := by
    unfold J5b
    rw [List.take_of_length_le (by omega)]
   rw [eR] at hd3
   walk_at "rd"
   refine J0b rows (fun _ => true) (fun r y _ => y = T (r.drop D)) (fun σ => ∃ v,σ = [v,some (.int (D : Int))]) (J0n (SqL.of hr3)) (by rw [List.length_map]) (by omega) ⟨_,rfl⟩ (fun _ _ _ _ _ z => z) (fun k a v σ H' ha hv hσ s' Rf Rt _ hR => ?_) (fun Db H4 y4 nDb s4 hys hDb => ?_)
   ·obtain ⟨w1,rfl⟩ := hσ
    rw [List.getElem?_map,ha] at hv
    cases hv
    have hal := hrow a (List.mem_of_getElem? ha)
    walk_at "rd"
    exact hR _ _ _ rfl ⟨_,rfl⟩ (Same.refl _) (by rw [J73 _ _ (by omega),Int.toNat_natCast])
   rw [List.filter_eq_self.mpr fun _ _ => rfl] at hys
   have ey : y4 = (rows.map fun r => r.drop D).map T := by rw [List.map_map]; exact hys.eqmap fun a y h => h
   rw [ey] at hDb
   clear ey hys
   have s04 := s3.trans s4
   have hq24 := hq2.same s04
   have hRu4 := hRu.imp fun a y => RuT.keeps a y _ _ s04.keeps
   have hPr4 := hPr.imp fun a y => PrT.keeps a y _ _ s04.keeps
   have hdc4 := s4 _ _ hd3
   have epn : ((ps.zip rows).map (psS (D : Int))).map (·.nm) = ps.map (·.nm) := by
    rw [List.map_map]
    have : (ps.zip rows).map Prod.fst = ps := List.map_fst_zip (by omega)
    rw [show ((fun x : Ps => x.nm) ∘ psS (D : Int)) = (fun x : Ps => x.nm) ∘ Prod.fst from rfl,← List.map_map,this]
   refine ⟨h2,Db,(n : Int) - (D : Int),ks,_,_,_,u5,u6,_,rls,prs,rfl,hq24,hDb,by rw [List.length_map,List.length_map,List.length_zip]; omega,by rw [List.length_map,List.length_zip]; omega,hk4,by omega,by omega,fun r hr => ?_,fun m hm => ?_,hRu4,hr8,hPr4,hpr8,fun p hp => ?_,fun D7 H7 y7 s7 nD7 hD7 hA7 => ?_⟩
   ·obtain ⟨r0,h0r,rfl⟩ := List.mem_map.mp hr
    have := hrow r0 h0r
    rw [List.length_drop]
    omega
   ·obtain ⟨a,ha,rfl⟩ := List.mem_map.mp hm
    obtain ⟨k,hk⟩ := List.getElem?_of_mem ha
    obtain ⟨e1,e2⟩ := List.getElem?_zip_eq_some.mp hk
    have i1 := hpast a.1 (List.mem_of_getElem? e1)
    have i2 := hrow a.2 (List.mem_of_getElem? e2)
    have i3 := J2B a.2 none (some (D : Int))
    show ((a.1.past ++ cutN a.2 none (some (D : Int))).drop _).length ≤ 100
    rw [List.length_drop,List.length_append]
    omega
   ·have := hPI p hp
    unfold PrIn at this ⊢
    rw [epn]
    exact this
   have em : ((n : Int) - (D : Int)).toNat = n - D := by omega
   rw [em,← J72] at hA7
   generalize hft : allX ks (J36 (D : Int) nds) (J3f (D : Int) ls) rls prs ((ps.zip rows).map (psS (D : Int))) (rows.map fun r => r.drop D) (n - D) = fts at hA7
   have hsh := J84 D (by omega) h6 (wh := whF D (ps.zip rows)) (fun a ha => JcU huL ha) h0 (n - D)
   rw [hft,show D + (n - D) = n by omega] at hsh
   have hfl : fts.length ≤ 2000 := by
    have e1 : fts.length = (fts.map Ft.v).length := by rw [List.length_map]
    rw [e1,← hft,J72]
    have := J8N (nds := J36 (D : Int) nds) (ls := J3f (D : Int) ls) (rows := rows.map fun r => r.drop D) (ps := (ps.zip rows).map (psS (D : Int))) (by rw [List.length_map,List.length_zip]; omega) hk4 hr8 hpr8 (n - D)
    omega
   have hdc7 := s7 _ _ hdc4
   have hmv : ∀ f ∈ fts,MvOk (D : Int) (whF D (ps.zip rows)) ((ps.zip rows).map fun a => (kT a.1.nm,T a.2)) f := fun f hf hw => by
    rw [← hft] at hf
    obtain ⟨z,hz,a',ha',hn'⟩ := (J9c hf).2 hw
    rw [Jau D (by omega)] at ha'
    obtain ⟨a,ha,rfl⟩ := List.mem_map.mp ha'
    have hn : f.nm = a.1.nm := hn'
    obtain ⟨k,hk⟩ := List.getElem?_of_mem ha
    have i2 := hrow a.2 (List.mem_of_getElem? (List.getElem?_zip_eq_some.mp hk).2)
    refine ⟨z,a.2,hz,?_,by omega,?_⟩
    ·rw [hn]
     exact JdZ huL hk
    ·rw [hn]
     exact JcU huL ha
   clear hft
   walk_at "rd"
   intro r8 H8 y8 s8 nr8 hr8' hA8
   rw [hsh,J72] at hA8
   have s08 := (s04.trans s7).trans s8
   have hq18 := hq1.same s08
   have hR8 := s08 _ _ hr1
   have hRu8 := hRu.imp fun a y => RuT.keeps a y _ _ s08.keeps
   have hPr8 := hPr.imp fun a y => PrT.keeps a y _ _ s08.keeps
   refine ⟨_,rfl,_,rfl,h1,r,(n : Int),ks,nds,ps,ls,u5,u6,rows,rls,prs,rfl,hq18,hR8,hrl,hp8,hk4,by omega,by omega,fun r hr => by have := hrow r hr; omega,fun m hm => Nat.le_trans (hpast m hm) (by decide),hRu8,hr8,hPr8,hpr8,hPI,fun D9 H9 y9 s9 nD9 hD9 hA9 => ?_⟩
   rw [Int.toNat_natCast] at hA9
   refine ⟨r8,D9,y8,y9,rfl,rfl,SqL.of (s9 _ _ hr8'),SqL.of hD9,J3v (hA8.imp fun a y => TpV.keeps a y _ _ s9.keeps) hA9 fun l hl => ?_,q H9 (s08.trans s9)⟩
   rw [← J72] at hl
   obtain ⟨f,hf,rfl⟩ := List.mem_map.mp hl
   exact (J9c hf).1
end
section
variable {P : Program} {w : World} {K : PySem.W.Frag} {mg : Str → Option Value} {base : Heap} {J8 Jb J7 Ja J3 Jh J2 J1 : Addr}
theorem badq (tx : Tx K mg J8 Jb J7 Ja J3 Jh J2 J1) {H : Hp} {r : R} {p : Addr} (hR : JD (cs6 J8 Jb J7 Ja J3 Jh J2 J1) H r p) (hd : r.depth ≤ 4) : BadQ P w K mg base H p r.bad := by
 obtain ⟨dx,fs,ob,nb,_⟩ := hR.obj
 exact ⟨_,dx,fs,5 + r.depth,_,Jg3 (cs6 J8 Jb J7 Ja J3 Jh J2 J1) r,ob,nb,J6M (P := P) (w := w) (base := base) tx r,by omega,fun m hm H' Q' k q => ⟨p,m,rfl,hR.keeps k,by omega,q⟩⟩
end
theorem Jcw (c : Int) : 1 ≤ (J3H c).length ∧ (J3H c).length ≤ 4 := by
 unfold J3H
 rw [List.length_map,List.length_range]
 have h0 : 0 ≤ c % 4 := Int.emod_nonneg _ (by decide)
 have h1 : c % 4 < 4 := Int.emod_lt_of_pos _ (by decide)
 omega
theorem JcY (c : Int) : ∀ x ∈ J3H c,isUp x = true := fun x hx => by
 unfold J3H at hx
 obtain ⟨k,_,rfl⟩ := List.mem_map.mp hx
 have h0 : 0 ≤ (c / 4 + (0 + (k : Int)) * (1 + c / 104 % 6)) % 26 := Int.emod_nonneg _ (by decide)
 have h1 : (c / 4 + (0 + (k : Int)) * (1 + c / 104 % 6)) % 26 < 26 := Int.emod_lt_of_pos _ (by decide)
 generalize (c / 4 + (0 + (k : Int)) * (1 + c / 104 % 6)) % 26 = v at h0 h1
 unfold isUp cap
 rw [Bool.and_eq_true]
 exact ⟨decide_eq_true (by omega),decide_eq_true (by omega)⟩
theorem J5J : ∀ r : R,r.sz + 1 ≤ 2 ^ (r.depth + 1)
 | .nev _ => Nat.le_refl _
 | .most _ _ _ => Nat.le_refl _
 | .least _ _ _ => Nat.le_refl _
 | .both l r => by
  have h1 := J5J l
  have h2 := J5J r
  have h3 : 2 ^ (l.depth + 1) ≤ 2 ^ (max l.depth r.depth + 1) := Nat.pow_le_pow_right (by decide) (by omega)
  have h4 : 2 ^ (r.depth + 1) ≤ 2 ^ (max l.depth r.depth + 1) := Nat.pow_le_pow_right (by decide) (by omega)
  show l.sz + r.sz + 1 + 1 ≤ 2 ^ (max l.depth r.depth + 1 + 1)
  rw [Nat.pow_succ]
  omega
 | .either l r => by
  have h1 := J5J l
  have h2 := J5J r
  have h3 : 2 ^ (l.depth + 1) ≤ 2 ^ (max l.depth r.depth + 1) := Nat.pow_le_pow_right (by decide) (by omega)
  have h4 : 2 ^ (r.depth + 1) ≤ 2 ^ (max l.depth r.depth + 1) := Nat.pow_le_pow_right (by decide) (by omega)
  show l.sz + r.sz + 1 + 1 ≤ 2 ^ (max l.depth r.depth + 1 + 1)
  rw [Nat.pow_succ]
  omega
 | .neg i => by
  have h1 := J5J i
  show i.sz + 1 + 1 ≤ 2 ^ (i.depth + 1 + 1)
  rw [Nat.pow_succ]
  omega
theorem J96 {r : R} (h : r.depth ≤ 2) : r.sz ≤ 7 := by
 have h1 := J5J r
 have h2 : 2 ^ (r.depth + 1) ≤ 2 ^ 3 := Nat.pow_le_pow_right (by decide) (by omega)
 omega
theorem All2.withP {α : Type} {P : α → V → Hp → Prop} {p : α → Prop} {H : Hp} : ∀ {as : List α} {ys : List V},(∀ a ∈ as,p a) → All2 P H as ys → All2 (fun a y H => p a ∧ P a y H) H as ys
 | [],[],_,_ => trivial
 | a :: _,_ :: _,hp,h => ⟨⟨hp a List.mem_cons_self,h.1⟩,All2.withP (fun b hb => hp b (List.mem_cons_of_mem _ hb)) h.2⟩
 | [],_ :: _,_,h => h.elim
 | _ :: _,[],_,h => h.elim
theorem J2x : ∀ {r : R},r.ok → r.fine
 | .nev _,h => J5D h
 | .most _ _ _,h => h.2.1
 | .least _ _ _,h => h.2.1
 | .both _ _,h => ⟨J2x h.1,J2x h.2⟩
 | .either _ _,h => ⟨J2x h.1,J2x h.2⟩
 | .neg i,h => J2x (r := i) h
noncomputable def ndV (n : Nd) : List V := [.int n.day,T [n.kind],.int n.least,.int n.most]
noncomputable def lvW (l : List Nat × Int) : List V := [T l.1,.int l.2]
noncomputable def wsV (l : Ws) : List V := [T l.nm,.int l.day,T l.mks]
theorem Jf2 {H : Hp} {nds : List Nd} {xs : List V} (h : All2 NdAt H nds xs) : All2 TpV H (nds.map ndV) xs := All2.mapL (P := TpV) (h.imp fun a y ⟨t,e,g⟩ => ⟨t,e,g⟩)
theorem Jdm {H : Hp} {ls : List (List Nat × Int)} {xs : List V} (h : All2 LvT H ls xs) : All2 TpV H (ls.map lvW) xs := All2.mapL (P := TpV) (h.imp fun a y ⟨t,e,g⟩ => ⟨t,e,g⟩)
theorem Jf0 {H : Hp} {wl : List Ws} {xs : List V} (h : All2 WsT H wl xs) : All2 TpV H (wl.map wsV) xs := All2.mapL (P := TpV) (h.imp fun a y ⟨t,e,g⟩ => ⟨t,e,g⟩)
theorem JdT (D : Int) (nds : List Nd) : ((nds.map ndV).filter (ltB D 0)).map (ltS D 0) = (J36 D nds).map ndV := by
 unfold J36
 rw [List.filter_map,List.map_map,List.map_map]
 rfl
theorem JcV (D : Int) (ls : List (List Nat × Int)) : ((ls.map lvW).filter (ltB D 1)).map (ltS D 1) = (J3f D ls).map lvW := by
 unfold J3f
 rw [List.filter_map,List.map_map,List.map_map]
 rfl
theorem Jd9 (D : Int) (wl : List Ws) : ((wl.map wsV).filter (ltB D 1)).map (ltS D 1) = (Jah D wl).map wsV := by
 unfold Jah
 rw [List.filter_map,List.map_map,List.map_map]
 rfl
section
variable {P : Program} {w : World} {K : PySem.W.Frag} {mg : Str → Option Value} {base : Heap} {J8 Jb J7 Ja J3 Jh J2 J1 : Addr}
local macro_rules | `(tactic| walk_at "lk") => `(tactic| first | exact J6l _ _ _ _ _ _ _ _ | exact J47 _ _ _ _ _ _ _ _ | exact J23 _ _ _ _ _ _ _ _ | exact J44 _ _ _ _ _ _ _ _ | exact J42 _ _ _ _ _ _ _ _ | exact J5L _ _ _ _ _ _ _ _ | exact J5o _ _ _ _ _ _ _ _ | exact J5l _ _ _ _ _ _ _ _)
theorem JfJ {f : Addr} {fd : FuncData} (tx : Tx K mg J8 Jb J7 Ja J3 Jh J2 J1) (F : Fun K "law" "law" J3a f fd) : FnOk P w K mg base CX0 60 f fd ["_law_script"] (sp_law K) := by
 have Ju := J2A (P := P) (w := w) (base := base) tx
 have J5R := J9P (P := P) (w := w) (base := base) tx
 have J4p := J7t (P := P) (w := w) (base := base) tx
 have J3d := J52 (P := P) (w := w) (base := base) tx
 have J2Q := J4i (P := P) (w := w) (base := base) tx
 have J39 := J4S (P := P) (w := w) (base := base) tx
 have J3K := J61 (P := P) (w := w) (base := base) tx
 have J3e := J4U (P := P) (w := w) (base := base) tx
 have J3b := J4J (P := P) (w := w) (base := base) tx
 have JU := J2k (P := P) (w := w) (base := base) tx
 have JcK := Jfg (P := P) (w := w) (base := base) tx
 have J4T := J8J (P := P) (w := w) (base := base) tx
 have J3c := J9n (P := P) (w := w) (base := base) tx
 have J5P := J9y (P := P) (w := w) (base := base) tx
 have J4L := tx.JP.g (J4V (P := P) (w := w) (base := base) tx)
 refine F.ok J0Q (fun vs H Q E h => ?_) (fun cdv A outer s H vs Q E hr h => ?_)
 ·obtain ⟨a,ns,rfl,_⟩ := h
  rfl
 ·obtain ⟨sc,ns,rfl,hS,hns,q⟩ := h
  refine ⟨_,(J5 (Jj (i := 1) J0Q.nd rfl (Or.inl rfl) (Jf JL Jd (Jf JF (Jw Ju (hr.mono (by decide)) (J0 (pv 0) (J0 Jd J6))) Jd)))
   (J5 (Jj (i := 2) J0Q.nd rfl (Or.inr rfl) (Jf JL Jd (Jf JF (Jf JQ (Jw Ju (hr.mono (by decide)) (J0 (pv 0) (J0 Jd J6))) Jd) Jd)))
   (J5 (Jj (i := 3) J0Q.nd rfl (Or.inl rfl) (Jw J5R (hr.mono (by decide)) (J0 (Jw Ju (hr.mono (by decide)) (J0 (pv 0) (J0 Jd J6))) J6)))
   (J5 (Jj (i := 4) J0Q.nd rfl (Or.inl rfl) (Jw J4p (hr.mono (by decide)) (J0 (pv 0) (J0 (pv 1) (J0 (pv 2) (J0 (pv 3) J6))))))
   (J5 (Jj (i := 5) J0Q.nd rfl (Or.inl rfl) (Jw J3d (hr.mono (by decide)) (J0 (pv 4) (J0 (pv 2) (J0 (pv 3) (J0 (Jw Ju (hr.mono (by decide)) (J0 (pv 0) (J0 Jd J6))) (J0 (J1N (Jbb rfl) rfl tx.J2M J1z (J0 (J1N Jab rfl tx.JY Jap (J0 (pv 2) J6)) J6)) J6)))))))
   (J5 (Jj (i := 6) J0Q.nd rfl (Or.inl rfl) (Jw J2Q (hr.mono (by decide)) (J0 (pv 0) (J0 (pv 4) (J0 (pv 3) J6)))))
   (J5 (Jj (i := 7) J0Q.nd rfl (Or.inl rfl) (Jw J39 (hr.mono (by decide)) (J0 (pv 4) (J0 (pv 6) (J0 (pv 2) (J0 (Jw Ju (hr.mono (by decide)) (J0 (pv 0) (J0 Jd J6))) J6))))))
   (J5 (Jj (i := 8) J0Q.nd rfl (Or.inl rfl) (Jw J3K (hr.mono (by decide)) (J0 (pv 0) (J0 (pv 6) (J0 (pv 2) (J0 (pv 3) (J0 Jd J6)))))))
   (J5 (Jj (i := 9) J0Q.nd rfl (Or.inl rfl) (Jw J3e (hr.mono (by decide)) (J0 (pv 0) (J0 (pv 4) (J0 (pv 6) (J0 (pv 3) (J0 Jd J6)))))))
   (J5 (Jj (i := 10) J0Q.nd rfl (Or.inl rfl) (Jw J3b (hr.mono (by decide)) (J0 (pv 4) (J0 (pv 6) (J0 (Jw Ju (hr.mono (by decide)) (J0 (pv 0) (J0 Jd J6))) J6)))))
   (J5 (Jj (i := 11) J0Q.nd rfl (Or.inl rfl) (J1y (r := rHou J1) J4L (hr.mono (by decide)) JdE (J0 (pv 2) (J0 (pv 3) (J0 (pv 5) (J0 (pv 6) (J0 (pv 7) (J0 (pv 8) (J0 (pv 9) (J0 (pv 10) J6))))))))))
   (J5 (Jj (i := 12) J0Q.nd rfl (Or.inl rfl) (Jf JF (Jf JQ (Jw Ju (hr.mono (by decide)) (J0 (pv 0) (J0 Jd J6))) Jd) (pv 2)))
   (J5 (Jj (i := 13) J0Q.nd rfl (Or.inr rfl) (Jf J0F (Jv (l := [45]) (by decide +kernel)) (pv 3)))
   (J5 (Jj (i := 14) J0Q.nd rfl (Or.inr rfl) (Jw JU (hr.mono (by decide)) (J0 (Jw Ju (hr.mono (by decide)) (J0 (pv 0) (J0 Jd J6))) (J0 (Jf J2y (pv 1) (pv 2)) J6))))
   (J5 (Jj (i := 15) J0Q.nd rfl (Or.inl rfl) (J17 J6))
   (J5 (J0l PassesOwn.never rfl (JW rfl tx.JY (J0 (pv 1) J6)) (Jo (i := 16) J0Q.nd rfl (Or.inr rfl)) (J5 (J4f (k := 17) (osc := J4 J3a) (ON := ["_law_script","_law_many","_law_days","_law_kinds_here","_law_rota","_law_needs","_law_persons","_law_leave","_law_wishes","_law_rules","_law_pairs","_law_house","_law_day","_law_marks","_law_numbers","_law_other","_law_p","_law_late","_law_left","_law_told"]) (N := ["_law_at","_law_marks","_law_numbers","_law_p","_law_days"]) (js := [none,some 13,some 14,some 16,some 2]) J0Q.nd rfl (Or.inl rfl) ⟨rfl,by decide +kernel,by decide +kernel,by decide +kernel,rfl,by decide +kernel⟩ rfl rfl rfl (Jc5 rfl tx.JY (J0 (pv 12) (J0 (pv 2) J6))) (fun _ _ _ _ _ => Jo (i := 0) (show List.Nodup (["_law_at","_law_marks","_law_numbers","_law_p","_law_days"] : List Str) from by decide +kernel) rfl (Or.inl rfl)) (fun _ _ _ _ _ => J1X) (fun _ _ _ _ _ => (JE J0V (pv 1) (Jf JF (JE (JG (K := K) rfl) (pv 2) (Jf JL (Jf J2y (pv 3) (pv 4)) (pv 0)) (fun _ _ => rfl)) (Jt J03 rfl tx.J0c PySem.boot_len (J0 (pv 1) J6))) (fun _ _ => rfl))))
   (Jc (J1O (J3k PySem.F.plainAttrs_list PySem.F.slot_list_append PySem.F.type_list_append J09 (pv 15) (J0 (Jf J0F (J0e J2N (JE (JG (K := K) rfl) (pv 4) (pv 16) (fun _ _ => rfl)) J15 (J0q (pv 12))) (J43 (K := K) rfl (Jv (l := []) (by decide +kernel)) (J0 (pv 17) J6))) J6))))))
   (J5 (Jj (i := 18) J0Q.nd rfl (Or.inl rfl) (Jw JcK (hr.mono (by decide)) (J0 (pv 11) (J0 (J1N J16 rfl tx.J2M J1z (J0 (pv 15) J6)) (J0 (pv 12) J6)))))
   (J5 (J01 (PW.pt (J5f (Jl J34 (Jg (K := K) rfl (pv 18) rfl) (Jf J3r (pv 2) (pv 12)) (Jq _)) (J5f (Jl J34 (Jg (K := K) rfl (pv 18) rfl) (pv 3) (Jq _)) (J4F (Jl J34 (Jt (JC (K := K) rfl) rfl tx.J0c PySem.boot_len (J0 (Jg (K := K) rfl (pv 18) rfl) J6)) (pv 1) (Jq _)))))) (Jc (Jp J3h)) JA)
   (J5 (J0l PassesOwn.never rfl (JW rfl tx.JY (J0 (pv 1) J6)) (Jo (i := 16) J0Q.nd rfl (Or.inr rfl)) (Jc (J01 (JcS (J3Z (Jw J4T (hr.mono (by decide)) (J0 (JE (JG (K := K) rfl) (Jg (K := K) rfl (pv 18) rfl) (pv 16) (fun _ _ => rfl)) (J0 (JE (JG (K := K) rfl) (pv 6) (pv 16) (fun _ _ => rfl)) (J0 (J0e J2N (JE (JG (K := K) rfl) (pv 4) (pv 16) (fun _ _ => rfl)) J15 (J0q (pv 12))) J6)))))) (Jc (Jp J3h)) JA)))
   (J5 (J01 (PW.pt (J5f (Jl (J59 (K := K) rfl (J5k hr)) (Jg (K := K) rfl (pv 18) rfl) (Jw J3c (hr.mono (by decide)) (J0 (pv 5) (J0 (pv 12) (J0 Jd J6)))) (Jq _)) (J4F (Jl (J59 (K := K) rfl (J5k hr)) (Jg (K := K) rfl (pv 18) rfl) (Jw J3c (hr.mono (by decide)) (J0 (pv 7) (J0 (pv 12) (J0 Jd J6)))) (Jq _))))) (Jc (Jp J3h)) JA)
   (J5 (J01 (PW.pt (J5f (Jl (J59 (K := K) rfl (J5k hr)) (Jg (K := K) rfl (pv 18) rfl) (Jw J3c (hr.mono (by decide)) (J0 (pv 8) (J0 (pv 12) (J0 Jd J6)))) (Jq _)) (J4F (Jl (J59 (K := K) rfl (J5k hr)) (Jg (K := K) rfl (pv 18) rfl) (pv 10) (Jq _))))) (Jc (Jp J3h)) JA)
   (J5 (J4f (k := 19) (osc := J4 J3a) (ON := ["_law_script","_law_many","_law_days","_law_kinds_here","_law_rota","_law_needs","_law_persons","_law_leave","_law_wishes","_law_rules","_law_pairs","_law_house","_law_day","_law_marks","_law_numbers","_law_other","_law_p","_law_late","_law_left","_law_told"]) (N := ["_law_name_here","_law_rule_here"]) (js := [none,none]) J0Q.nd rfl (Or.inl rfl) ⟨rfl,by decide +kernel,by decide +kernel,by decide +kernel,rfl,by decide +kernel⟩ rfl rfl rfl (J07 (K := K) rfl (Jg (K := K) rfl (pv 18) rfl)) (fun _ _ _ _ _ => J3q (K := K) (i := 0) (j := 1) rfl rfl (show List.Nodup (["_law_name_here","_law_rule_here"] : List Str) from by decide +kernel) rfl rfl (Or.inl rfl) (Or.inl rfl)) (fun _ _ _ _ _ => J1X) (fun _ _ _ _ _ => (J0a (J0 (pv 0) (J0 (J6g (P := P) (w := w) (K := K) (mg := mg) (base := base) hr (pv 1) rfl rfl rfl rfl rfl) J6)))))
   (J5 (J01 (Jl (J59 (K := K) rfl (J5k hr)) (pv 19) (J05 (osc := J4 J3a) (ON := ["_law_script","_law_many","_law_days","_law_kinds_here","_law_rota","_law_needs","_law_persons","_law_leave","_law_wishes","_law_rules","_law_pairs","_law_house","_law_day","_law_marks","_law_numbers","_law_other","_law_p","_law_late","_law_left","_law_told"]) (N := ["_law_name_here","_law_rule_here"]) (js := [none,none]) ⟨rfl,by decide +kernel,by decide +kernel,by decide +kernel,rfl,by decide +kernel⟩ rfl rfl rfl (J07 (K := K) rfl (pv 9)) (fun _ _ _ _ _ => J3q (K := K) (i := 0) (j := 1) rfl rfl (show List.Nodup (["_law_name_here","_law_rule_here"] : List Str) from by decide +kernel) rfl rfl (Or.inl rfl) (Or.inl rfl)) (fun _ _ _ _ _ => J1X) (fun _ _ _ _ _ => (J0a (J0 (pv 0) (J0 (J6g (P := P) (w := w) (K := K) (mg := mg) (base := base) hr (pv 1) rfl rfl rfl rfl rfl) J6))))) (Jq _)) (Jc (Jp J3h)) JA)
   (Jc (Jp (Jw J5P (hr.mono (by decide)) (J0 (pv 11) (J0 (pv 18) (J0 (pv 15) (J0 (pv 12) J6)))))))))))))))))))))))))))))),?_⟩
  walk_at "st"
  clear Ju J5R J4p J3d J2Q J39 J3K J3e J3b JU JcK J4T J3c J5P J4L
  have m0 : 0 ≤ J1Q ns 0 % 6 := Int.emod_nonneg _ (by decide)
  have m1 : J1Q ns 0 % 6 < 6 := Int.emod_lt_of_pos _ (by decide)
  have d0 : 0 ≤ J1Q ns 0 / 6 % 10 := Int.emod_nonneg _ (by decide)
  have d1 : J1Q ns 0 / 6 % 10 < 10 := Int.emod_lt_of_pos _ (by decide)
  obtain ⟨k1,k4⟩ := Jcw (J1Q ns 1)
  have hup := JcY (J1Q ns 1)
  have hnd := J8P (J1Q ns 1)
  walk_at "rd"
  intro H1 s1
  have hS1 := s1.seq hS
  generalize J3H (J1Q ns 1) = ks at k1 k4 hup hnd ⊢
  generalize hmm : 1 + J1Q ns 0 % 6 = m at ⊢
  generalize hdd : 1 + J1Q ns 0 / 6 % 10 = d at ⊢
  have m1' : 1 ≤ m := by omega
  have m6 : m ≤ 6 := by omega
  have d1' : 1 ≤ d := by omega
  have d10 : d ≤ 10 := by omega
  clear hmm hdd m0 m1 d0 d1
  walk_at "rd"
  intro r H2 rows s2 nr hr2 hrl hrows
  have hS2 := s2.seq hS1
  have hrd : ∀ row ∈ rows,(row.length : Int) = d := fun row h => (hrows row h).1
  have hr6 : rows.length ≤ 6 := by omega
  walk_at "rd"
  intro pr npr
  obtain ⟨H3,e3,hpr3,s3⟩ : ∃ H3,H3 = upd H2 pr (.rng 0 d) ∧ H3 pr = some (.rng 0 d) ∧ Same H2 H3 := ⟨_,rfl,J9,Jr npr _⟩
  rw [← e3]
  clear e3
  walk_at "rd"
  intro sl nsl
  obtain ⟨H4,e4,hsl,s4⟩ := newl (xs := (List.range d.toNat).map fun (i : Nat) => V.int (i : Int)) nsl
  rw [← e4]
  clear e4
  have s24 := s3.trans s4
  have hr4 := s24 _ _ hr2
  have hS4 := s24.seq hS2
  walk_at "rd"
  intro na H5 nds nx s5 nna hna hN hnxl hne
  have s25 := s24.trans s5
  have hr5 := s25 _ _ hr2
  have hS5 := s25.seq hS2
  have hrin : ∀ row ∈ rows,row.length ≤ 10 ∧ inKs ks row := fun row h => ⟨by have := hrd row h; omega,(hrows row h).2⟩
  walk_at "rd"
  intro pl H6 ps ys s6 npl hpl hP hpsl hPG
  have s26 := s25.trans s6
  have hr6' := s26 _ _ hr2
  have hS6 := s26.seq hS2
  walk_at "rd"
  intro lv H7 ls lx s7 nlv hlv hL hll hLG
  have s27 := s26.trans s7
  have hS7 := s27.seq hS2
  have hpl7 := s7 _ _ hpl
  have hP7 := hP.imp fun a y => PsO.keeps a y _ _ s7.keeps
  have p1 : 1 ≤ ps.length := by omega
  walk_at "rd"
  intro wa H8 wl wx s8 nwa hwa hW hwl hWG
  have s28 := s27.trans s8
  have s68 := s7.trans s8
  have hS8 := s28.seq hS2
  have hr8 := s28 _ _ hr2
  have hpl8 := s68 _ _ hpl
  have hP8 := hP.imp fun a y => PsO.keeps a y _ _ s68.keeps
  have r1 : 1 ≤ rows.length := by omega
  have hr10 : ∀ row ∈ rows,row.length ≤ 10 := fun row h => (hrin row h).1
  have hpg : ∀ (i : Nat) (n : Ps),ps[i]? = some n → ∃ row,rows[i]? = some row ∧ Jav ns i n row := fun i n h => by
   have hi := (List.getElem?_eq_some_iff.mp h).1
   exact ⟨_,List.getElem?_eq_getElem (by omega),hPG i n _ h (List.getElem?_eq_getElem (by omega))⟩
  have hpast : ∀ n ∈ ps,n.past.length ≤ 6 := fun n hn => by
   obtain ⟨i,hi⟩ := List.getElem?_of_mem hn
   obtain ⟨row,_,g⟩ := hpg i n hi
   exact g.pl
  walk_at "rd"
  intro ra H9 rs rx s9 nra hra hR hrl6 hRG
  have s29 := s28.trans s9
  have s69 := s68.trans s9
  have hr9 := s29 _ _ hr2
  have hS9 := s29.seq hS2
  have hpl9 := s69 _ _ hpl
  have hP9 := hP.imp fun a y => PsO.keeps a y _ _ s69.keeps
  have hnm : ∀ (i : Nat) (n : Ps),ps[i]? = some n → n.nm = J4v (J1Q ns 1) (0 + (i : Int)) := fun i n h => by
   obtain ⟨row,_,g⟩ := hpg i n h
   exact g.nm
  walk_at "rd"
  intro pp H10 prs px s10 npp hpp hPr hpr2 hPrG
  have s2A := s29.trans s10
  have hnaA := ((((s6.trans s7).trans s8).trans s9).trans s10) _ _ hna
  have hplA := (s69.trans s10) _ _ hpl
  have hlvA := ((s8.trans s9).trans s10) _ _ hlv
  have hwaA := (s9.trans s10) _ _ hwa
  have hraA := s10 _ _ hra
  have hSA := s2A.seq hS2
  have hNA := hN.imp fun a y => NdAt.keeps a y _ _ ((((s6.trans s7).trans s8).trans s9).trans s10).keeps
  have hPA := hP.imp fun a y => PsO.keeps a y _ _ (s69.trans s10).keeps
  have hLA := hL.imp fun a y => LvT.keeps a y _ _ ((s8.trans s9).trans s10).keeps
  have hWA := hW.imp fun a y => WsT.keeps a y _ _ (s9.trans s10).keeps
  have hRA := hR.imp fun a y => RlT.keeps a y _ _ s10.keeps
  have hrA := s2A _ _ hr2
  clear hS1 hS4 hS5 hS6 hS7 hS8 hS9 hr4 hr5 hr6' hr8 hr9 hpl7 hpl8 hpl9 hP7 hP8 hP9 hsl hpr3 hna hpl hlv hwa hra hN hP hL hW hR
  walk_at "rd"
  intro ho H11 a1 a2 a3 a4 a5 a6 s11 hHo e1 e2 e3 e4 e5 e6 n1 n2 n3 n4 n5 n6
  have hSB := s11.seq hSA
  have hrB := s11 _ _ hrA
  have hplB := s11 _ _ hplA
  have hNB := hNA.imp fun a y => NdAt.keeps a y _ _ s11.keeps
  have hPB := hPA.imp fun a y => PsO.keeps a y _ _ s11.keeps
  have hLB := hLA.imp fun a y => LvT.keeps a y _ _ s11.keeps
  have hWB := hWA.imp fun a y => WsT.keeps a y _ _ s11.keeps
  have hRB := hRA.imp fun a y => RlT.keeps a y _ _ s11.keeps
  have hPrB := hPr.imp fun a y => PrT.keeps a y _ _ s11.keeps
  have hnaB := s11 _ _ hnaA
  have hlvB := s11 _ _ hlvA
  have hwaB := s11 _ _ hwaA
  have hraB := s11 _ _ hraA
  have hppB := s11 _ _ hpp
  have dp : (0 : Int) < d := by omega
  have md0 : 0 ≤ m * d := Int.mul_nonneg (by omega) (by omega)
  have md1 : m * d ≤ 60 := by
   have := Int.mul_le_mul m6 d10 (by omega) (by decide)
   omega
  have D0 : 0 ≤ J1Q ns 10 / 7 % d := Int.emod_nonneg _ (by omega)
  have D1 : J1Q ns 10 / 7 % d < d := Int.emod_lt_of_pos _ dp
  walk_at "rd"
  generalize J1Q ns 10 / 7 % d = D at D0 D1 ⊢
  intro st H12 xs s12 nst hst hxs
  clear hSA hrA hplA hNA hPA hLA hWA hRA hPr hnaA hlvA hwaA hraA hpp
  walk_at "rd"
  intro ot not'
  obtain ⟨H13,e13,hot,s13⟩ := newl (xs := []) not'
  rw [← e13]
  clear e13
  have fot : H11 ot = none := s12.free not'
  have hst13 := s13 _ _ hst
  have nso : st ≠ ot := Je hst not'
  have lk : ([45] ++ ks).length = ks.length + 1 := by rw [List.length_append,List.length_singleton]; omega
  have lk0 : (0 : Int) < (([45] ++ ks).length : Int) := by rw [lk]; omega
  have lk5 : ([45] ++ ks).length ≤ 10 := by omega
  walk_at "rd"
  refine J0I (n := m.toNat) (fun i σ HX => Here (∃ (v1 v2 : Option V) (R : List (List Nat)),σ = [some (.ref sc),some (.int m),some (.int d),some (T ks),some (.ref r),some (.ref na),some (.ref pl),some (.ref lv),some (.ref wa),some (.ref ra),some (.ref pp),some (.ref ho),some (.int D),some (T ([45] ++ ks)),some (.ref st),some (.ref ot),v1,v2,none,none] ∧ HX ot = some (.lst (R.map T)) ∧ R.length = i ∧ (∀ (j : Nat) (row prow : List Nat),R[j]? = some row → rows[j]? = some prow → (row.length : Int) = d ∧ row.take D.toNat = prow.take D.toNat) ∧ HX st = some (.lst (xs.map V.int)) ∧ Same H11 HX))
   (Here.mk ⟨none,none,[],rfl,hot,rfl,fun j row prow h => by simp at h,hst13,s12.trans s13⟩) ?_ ?_
  ·rintro i σ HX hi hv
   obtain ⟨v1,v2,R,rfl,hoX,hRl,hRR,hsX,sX⟩ := hv.out
   have hri : rows[i]? = some (rows[i]'(by omega)) := List.getElem?_eq_getElem (by omega)
   generalize rows[i]'(by omega) = row at hri
   have hrl' := hrd row (List.mem_of_getElem? hri)
   have aT : atI (rows.map T) (0 + (i : Int)) = some (T row) := by
    rw [Int.zero_add]
    exact J0E (by rw [List.getElem?_map,hri]; rfl)
   have hid : 0 ≤ (i : Int) * d := Int.mul_nonneg (by omega) (by omega)
   have hm2 : ((i : Int) + 1) * d ≤ m * d := Int.mul_le_mul_of_nonneg_right (by omega) (by omega)
   rw [Int.add_mul,Int.one_mul] at hm2
   walk_at "rd"
   refine Jaf (fun _ y => ∃ c,y = T [c]) (J2c D (d - D).toNat) ?_ (fun x hx H' s' R' hR => ?_) (fun Db H14 ys2 nD s14 hlen hPP hD => ?_)
   ·rw [List.length_map,List.length_range]; omega
   ·obtain ⟨k,hk',rfl⟩ := List.mem_map.mp hx
    have hk' := List.mem_range.mp hk'
    have hst' := s' _ _ hsX
    obtain ⟨z,hz,_⟩ := J46 xs ((0 + (i : Int)) * d + (D + (k : Int))) (by rw [Int.zero_add]; omega) (by rw [Int.zero_add]; omega)
    obtain ⟨c,hc,_⟩ := J2E ([45] ++ ks) (z % (([45] ++ ks).length : Int)) (Int.emod_nonneg _ (by omega)) (Int.emod_lt_of_pos _ lk0)
    walk_at "rd"
    exact hR _ H' ⟨c,rfl⟩ (Same.refl _)
   rw [List.length_map,List.length_range] at hlen
   obtain ⟨l,rfl,hcs⟩ := J77 (ys := ys2) fun y hy => by
    obtain ⟨i,hi,rfl⟩ := List.mem_iff_getElem.mp hy
    exact hPP i _ _ (List.getElem?_eq_getElem (by rw [List.length_map,List.length_range]; omega)) (List.getElem?_eq_getElem hi)
   have hjl : (((l.map fun c => [c]).map List.length).sum + (l.map fun c => [c]).length * ([] : List Nat).length ≤ 16777216) := by
    rw [J3x,List.length_map,List.length_nil,Nat.mul_zero]
    omega
   have hD3 : SqL K H14 Db ((l.map fun c => [c]).map T) := SqL.of hD
   have hoY := s14 _ _ hoX
   have hrY := (sX.trans s14) _ _ hrB
   have hll : l.length = (d - D).toNat := by omega
   have ll100 : l.length ≤ 100 := by omega
   have cl := J2B row none (some D)
   have cl100 : (cutN row none (some D)).length ≤ 100 := by omega
   have Rl : (R.map T).length ≤ 100 := by rw [List.length_map]; omega
   clear hPP hlen
   walk_at "rd"
   rw [J2V,J2Y]
   walk_at "rd"
   refine Here.mk ⟨_,_,R ++ [cutN row none (some D) ++ l],rfl,by rw [J9,List.map_append]; rfl,by rw [List.length_append,List.length_singleton,hRl],fun j rw' prow hj hpj => ?_,by rw [Ji nso]; exact s14 _ _ hsX,(sX.trans s14).upd fot⟩
   rcases Nat.lt_trichotomy j R.length with z | z | z
   ·rw [List.getElem?_append_left z] at hj
    exact hRR j rw' prow hj hpj
   ·rw [List.getElem?_append_right (by omega),z,Nat.sub_self] at hj
    have e := Option.some.inj hj
    rw [z,hRl,hri] at hpj
    have e' := Option.some.inj hpj
    subst e e'
    rw [J45 _ _ D0]
    have tl : (row.take D.toNat).length = D.toNat := by rw [List.length_take]; omega
    refine ⟨by rw [List.length_append,tl]; omega,?_⟩
    rw [List.take_append_of_le_length (by omega),List.take_of_length_le (by omega)]
   ·rw [List.getElem?_append_right (by omega)] at hj
    have := (List.getElem?_eq_some_iff.mp hj).1
    rw [List.length_singleton] at this
    omega
  ·rintro σ HX hv
   obtain ⟨v1,v2,R,rfl,hoX,hRl,hRR,hsX,sX⟩ := hv.out
   walk_at "rd"
   intro lo nlo
   obtain ⟨H15,e15,hlo,s15⟩ := newl (xs := R.map T) nlo
   rw [← e15]
   clear e15
   have sB := sX.trans s15
   have hRd : ∀ row ∈ R,(row.length : Int) = d := fun row h => by
    obtain ⟨j,hj⟩ := List.getElem?_of_mem h
    have hjl := (List.getElem?_eq_some_iff.mp hj).1
    exact (hRR j row _ hj (List.getElem?_eq_getElem (by omega))).1
   have hRp : R.length = ps.length := by omega
   have nl : nds.length = nx.length := hNB.len.symm
   have wll := hWB.len
   have hNC := hNB.imp fun a y => NdAt.keeps a y _ _ sB.keeps
   have hPC := hPB.imp fun a y => PsO.keeps a y _ _ sB.keeps
   have hLC := hLB.imp fun a y => LvT.keeps a y _ _ sB.keeps
   have hWC := hWB.imp fun a y => WsT.keeps a y _ _ sB.keeps
   have hHC := hHo.keeps sB.keeps
   refine ⟨_,rfl,ho,lo,D,d,ks,a1,a2,a3,a4,a5,a6,nx,ys,lx,wx,rx,px,nds,ps,ls,wl,R,rfl,hHC,sB _ _ e1,hNC,sB _ _ e2,hPC,sB _ _ e3,hLC,sB _ _ e4,hWC,sB _ _ e5,sB _ _ e6,hlo,hRp,by omega,by omega,by omega,by omega,D0,fun row h => by have := hRd row h; omega,fun n hn => Nat.le_trans (hpast n hn) (by decide),fun le H16 b1 b2 b3 b4 b5 b6 x1 x2 x3 x4 s16 hle f1 y1 f2 y2 f3 y3 f4 y4 f5 f6 => ?_⟩
   have hx2l := y2.len
   rw [List.length_map,List.length_zip] at hx2l
   obtain ⟨dx,hle'⟩ := id hle
   have cH := tx.JP.cl
   have c1 := tx.J0M
   have c2 := tx.J0v
   have c3 := tx.J0u
   have c4 := tx.JJ
   have c5 := tx.J0s
   have c6 := tx.J0y
   have c7 := tx.J0t
   have c8 := tx.J0w
   have hx2m : (x2.length : Int) = m := by omega
   walk_at "rd"
   refine ite2 (fun c => absurd c (by simp)) (fun _ => ?_)
   walk_at "rd"
   refine ite2 (fun c => absurd c (by simp)) (fun _ => ?_)
   walk_at "rd"
   rw [hx2m]
   refine ite2 (fun c => absurd c (by simp)) (fun _ => ?_)
   have sC := sB.trans s16
   have hrC := sC _ _ hrB
   have hplC := sC _ _ hplB
   have hPD := hPC.imp fun a y => PsO.keeps a y _ _ s16.keeps
   walk_at "rd"
   refine J0I (n := m.toNat) (fun i σ HY => Here (∃ (v1 : Option V),σ = [some (.ref sc),some (.int m),some (.int d),some (T ks),some (.ref r),some (.ref na),some (.ref pl),some (.ref lv),some (.ref wa),some (.ref ra),some (.ref pp),some (.ref ho),some (.int D),some (T ([45] ++ ks)),some (.ref st),some (.ref ot),v1,v2,some (.ref le),none] ∧ Same H16 HY))
    (Here.mk ⟨_,rfl,Same.refl _⟩) ?_ ?_
   ·rintro i σ HY hi hv
    obtain ⟨w1,rfl,sY⟩ := hv.out
    have hri : rows[i]? = some (rows[i]'(by omega)) := List.getElem?_eq_getElem (by omega)
    generalize rows[i]'(by omega) = row at hri
    have hRi : R[i]? = some (R[i]'(by omega)) := List.getElem?_eq_getElem (by omega)
    generalize R[i]'(by omega) = rw' at hRi
    have hni : ps[i]? = some (ps[i]'(by omega)) := List.getElem?_eq_getElem (by omega)
    generalize ps[i]'(by omega) = n at hni
    have hrl' := hrd row (List.mem_of_getElem? hri)
    obtain ⟨_,htk⟩ := hRR i rw' row hRi hri
    have aT : atI (rows.map T) (0 + (i : Int)) = some (T row) := by
     rw [Int.zero_add]
     exact J0E (by rw [List.getElem?_map,hri]; rfl)
    obtain ⟨u1,hu1,q1,rfl,hq1⟩ := y2.get (i := i) (a := psS D (n,rw')) (by rw [List.getElem?_map,show (ps.zip R)[i]? = some (n,rw') from List.getElem?_zip_eq_some.mpr ⟨hni,hRi⟩]; rfl)
    obtain ⟨u2,hu2,q2,rfl,hq2⟩ := hPD.get hni
    have b1' : atI x2 (0 + (i : Int)) = some (.ref q1) := by rw [Int.zero_add]; exact J0E hu1
    have b2' : atI ys (0 + (i : Int)) = some (.ref q2) := by rw [Int.zero_add]; exact J0E hu2
    have ecut : cutN rw' none (some D) = cutN row none (some D) := by rw [J45 _ _ D0,J45 _ _ D0,htk]
    have g1 : J3O J2 HY q1 n.nm n.sk (n.most - (dut (cutN row none (some D)) : Int)) (n.car + (dut (cutN row none (some D)) : Int)) ((n.past ++ cutN row none (some D)).drop ((n.past ++ cutN row none (some D)).length - (6 : Int).toNat)) := by
     have := hq1.keeps sY.keeps
     unfold psS at this
     rw [show ((n,rw') : Ps × List Nat).2 = rw' from rfl,ecut] at this
     exact this
    have g2 := hq2.keeps sY.keeps
    have hleY := sY _ _ hle'
    have f2Y := sY _ _ f2
    have hrY := sY _ _ hrC
    have hplY := sY _ _ hplC
    have cl := J2B row none (some D)
    have cl100 : (cutN row none (some D)).length ≤ 100 := by omega
    have pn100 : n.past.length ≤ 100 := Nat.le_trans (hpast n (List.mem_of_getElem? hni)) (by decide)
    walk_at "rd"
    intro H17 s17
    refine ⟨true,rfl,?_⟩
    exact Here.mk ⟨_,rfl,sY.trans s17⟩
   ·rintro σ HY hv
    obtain ⟨w1,rfl,sY⟩ := hv.out
    have sD := sC.trans sY
    have hleY := sY _ _ hle'
    have f1Y := sY _ _ f1
    have f3Y := sY _ _ f3
    have hnaY := sD _ _ hnaB
    have hNY := Jf2 (hNB.imp fun a y => NdAt.keeps a y _ _ sD.keeps)
    have z0 : (0 : Int) ≤ 0 := Int.le_refl _
    have ln1 : (nds.map ndV).length ≤ 1000 := by rw [List.length_map]; omega
    have hok1 : ∀ l ∈ nds.map ndV,(0 : Int) < (l.length : Int) ∧ l.length ≤ 10 ∧ ∃ z,l[(0 : Int).toNat]? = some (V.int z) := fun l hl => by
     obtain ⟨n,_,rfl⟩ := List.mem_map.mp hl
     exact ⟨by show (0 : Int) < 4; decide,by show 4 ≤ 10; decide,n.day,rfl⟩
    have hlvY := sD _ _ hlvB
    have hwaY := sD _ _ hwaB
    have hLY := Jdm (hLB.imp fun a y => LvT.keeps a y _ _ sD.keeps)
    have hWY := Jf0 (hWB.imp fun a y => WsT.keeps a y _ _ sD.keeps)
    have z1 : (0 : Int) ≤ 1 := by decide
    have ln2 : (ls.map lvW).length ≤ 1000 := by rw [List.length_map]; omega
    have ln3 : (wl.map wsV).length ≤ 1000 := by rw [List.length_map]; omega
    have hok2 : ∀ l ∈ ls.map lvW,(1 : Int) < (l.length : Int) ∧ l.length ≤ 10 ∧ ∃ z,l[(1 : Int).toNat]? = some (V.int z) := fun l hl => by
     obtain ⟨n,_,rfl⟩ := List.mem_map.mp hl
     exact ⟨by show (1 : Int) < 2; decide,by show 2 ≤ 10; decide,n.2,rfl⟩
    have hok3 : ∀ l ∈ wl.map wsV,(1 : Int) < (l.length : Int) ∧ l.length ≤ 10 ∧ ∃ z,l[(1 : Int).toNat]? = some (V.int z) := fun l hl => by
     obtain ⟨n,_,rfl⟩ := List.mem_map.mp hl
     exact ⟨by show (1 : Int) < 3; decide,by show 3 ≤ 10; decide,n.day,rfl⟩
    have fl1 : ∀ l ∈ (J36 D nds).map ndV,l.all J0j = true := fun l hl => by obtain ⟨n,_,rfl⟩ := List.mem_map.mp hl; rfl
    have fl2 : ∀ l ∈ (J3f D ls).map lvW,l.all J0j = true := fun l hl => by obtain ⟨n,_,rfl⟩ := List.mem_map.mp hl; rfl
    have fl3 : ∀ l ∈ (Jah D wl).map wsV,l.all J0j = true := fun l hl => by obtain ⟨n,_,rfl⟩ := List.mem_map.mp hl; rfl
    walk_at "rd"
    intro L1 HZ yz sZ nL1 hL1 hA1
    rw [JdT] at hA1
    refine ⟨b1,L1,x1,yz,rfl,rfl,SqL.of (sZ _ _ f1Y),SqL.of hL1,J3v (Jf2 (y1.imp fun a y => NdAt.keeps a y _ _ (sY.trans sZ).keeps)) hA1 fl1,false,rfl,?_⟩
    have hleZ := sZ _ _ hleY
    have f3Z := sZ _ _ f3Y
    have hlvZ := sZ _ _ hlvY
    have hLZ := hLY.imp fun a y => TpV.keeps a y _ _ sZ.keeps
    clear hA1 hL1
    walk_at "rd"
    intro L2 HU yu sU nL2 hL2 hA2
    rw [JcV] at hA2
    refine ⟨b3,L2,x3,yu,rfl,rfl,SqL.of (sU _ _ f3Z),SqL.of hL2,J3v (Jdm (y3.imp fun a y => LvT.keeps a y _ _ ((sY.trans sZ).trans sU).keeps)) hA2 fl2,false,rfl,?_⟩
    have sZU := sZ.trans sU
    have sYU := sY.trans sZU
    have hleU := sU _ _ hleZ
    have f4U := sYU _ _ f4
    have hwaU := sZU _ _ hwaY
    have hWU := hWY.imp fun a y => TpV.keeps a y _ _ sZU.keeps
    clear hA2 hL2
    walk_at "rd"
    intro L3 HV yv sV nL3 hL3 hA3
    rw [Jd9] at hA3
    refine ⟨b4,L3,x4,yv,rfl,rfl,SqL.of (sV _ _ f4U),SqL.of hL3,J3v (Jf0 (y4.imp fun a y => WsT.keeps a y _ _ (sYU.trans sV).keeps)) hA3 fl3,false,rfl,?_⟩
    have sYV := sYU.trans sV
    have hleV := sV _ _ hleU
    have f6V := sYV _ _ f6
    have hppV := (sC.trans sYV) _ _ hppB
    have rpx : ∀ x ∈ px,∃ p,x = V.ref p := fun x hx => by
     obtain ⟨i,hi⟩ := List.getElem?_of_mem hx
     obtain ⟨_,_,t,e,_⟩ := hPrB.back hi
     exact ⟨t,e⟩
    have hal6 : J40 K HV px px := J40.same K HV px rpx
    clear hA3 hL3
    walk_at "rd"
    have sBV := sC.trans sYV
    have f5V := sYV _ _ f5
    have hRV := hRB.imp fun a y => RlT.keeps a y _ _ sBV.keeps
    refine ⟨⟨_,SqL.of f5V⟩,?_⟩
    refine J0b rs (fun _ => true) (fun e y H => TpV [T e.1,T e.2.tx] y H) (fun σ => ∃ v1 v2,σ = [v1,v2]) (J0n (SqL.of f5V)) hRV.len (by omega) ⟨_,_,rfl⟩ (fun a y Ha Hb k h => TpV.keeps _ y Ha Hb k h) (fun i a v σ H' ha hv hσ s' Rf Rt _ hR' => ?_) (fun T1 HW yt nT1 sW hyt hT1 => ?_)
    ·obtain ⟨w1,w2,rfl⟩ := hσ
     obtain ⟨y,hy,t,p,rfl,ht,hrp⟩ := hRV.get ha
     rw [hv] at hy
     cases hy
     have ht' := s' _ _ ht
     have hg := hRG a (List.mem_of_getElem? ha)
     have hrp' := hrp.same s'
     obtain ⟨dx,fs,ob,_,_,nt⟩ := hrp'.obj
     have Gt := JbY (P := P) (w := w) (base := base) tx 7 a.2 hg.ok (J96 hg.dp) (Nat.le_trans (J96 hg.dp) (by decide))
     walk_at "rd"
     intro t2 nt2
     exact hR' _ _ _ rfl ⟨_,_,rfl⟩ (Jr nt2 _) ⟨t2,rfl,J9⟩
    rw [List.filter_eq_self.mpr fun _ _ => rfl] at hyt
    have hraW := (sBV.trans sW) _ _ hraB
    have hRW := hRV.imp fun a y => RlT.keeps a y _ _ sW.keeps
    walk_at "rd"
    refine J0b rs (fun _ => true) (fun e y H => TpV [T e.1,T e.2.tx] y H) (fun σ => ∃ v1 v2,σ = [v1,v2]) (J0n (SqL.of hraW)) hRW.len (by omega) ⟨_,_,rfl⟩ (fun a y Ha Hb k h => TpV.keeps _ y Ha Hb k h) (fun i a v σ H' ha hv hσ s' Rf Rt _ hR' => ?_) (fun T2 HT yt2 nT2 sT hyt2 hT2 => ?_)
    ·obtain ⟨w1,w2,rfl⟩ := hσ
     obtain ⟨y,hy,t,p,rfl,ht,hrp⟩ := hRW.get ha
     rw [hv] at hy
     cases hy
     have ht' := s' _ _ ht
     have hg := hRG a (List.mem_of_getElem? ha)
     have hrp' := hrp.same s'
     obtain ⟨dx,fs,ob,_,_,nt⟩ := hrp'.obj
     have Gt := JbY (P := P) (w := w) (base := base) tx 7 a.2 hg.ok (J96 hg.dp) (Nat.le_trans (J96 hg.dp) (by decide))
     walk_at "rd"
     intro t2 nt2
     exact hR' _ _ _ rfl ⟨_,_,rfl⟩ (Jr nt2 _) ⟨t2,rfl,J9⟩
    rw [List.filter_eq_self.mpr fun _ _ => rfl] at hyt2
    have hat : J40 K HT yt yt2 := J3v (L := rs.map fun e => [T e.1,T e.2.tx]) (All2.mapL (P := TpV) (hyt.imp fun a y => TpV.keeps _ y _ _ sT.keeps)) (All2.mapL (P := TpV) hyt2) fun l hl => by obtain ⟨n,_,rfl⟩ := List.mem_map.mp hl; rfl
    refine ⟨T1,T2,yt,yt2,rfl,rfl,SqL.of (sT _ _ hT1),SqL.of hT2,hat,false,rfl,?_⟩
    have sBT := (sBV.trans sW).trans sT
    have sCT := ((sY.trans (sZU.trans sV)).trans sW).trans sT
    have eD : ((D.toNat : Nat) : Int) = D := Int.toNat_of_nonneg D0
    have ed : ((d.toNat : Nat) : Int) = d := Int.toNat_of_nonneg (by omega)
    have plant : Ja9 ns d.toNat ks nds ls rs prs ps rows := ⟨hpsl,by omega,fun r h => by have := hrd r h; omega,hPG,hne,fun l h => by rw [ed]; exact hLG l h,hRG,fun p h => by rw [ed]; exact hPrG p h⟩
    have agree : Jaz D.toNat R rows := ⟨by omega,fun i r p h1 h2 => (hRR i r p h1 h2).2⟩
    have hRuT : All2 (RuT P w K mg base) HT (J35 rs) rx := All2.mapL (P := RuT P w K mg base) ((All2.withP (fun a h => hRG a h) (hRB.imp fun a y => RlT.keeps a y _ _ sBT.keeps)).imp fun a y h => by
     obtain ⟨hg,t,p,e,ht,hr⟩ := h
     exact ⟨t,p,e,ht,badq tx hr (Nat.le_trans hg.dp (by decide))⟩)
    have hAq1 : Hq J2 J1 HT ho ((d.toNat : Nat) : Int) ks nds ps ls rx px := by
     rw [ed]
     exact Hq.same ⟨a1,a2,a3,a4,a5,a6,nx,ys,lx,wx,hHo,e1,hNB,e2,hPB,e3,hLB,e4,e5,e6⟩ sBT
    have hAq2 : Hq J2 J1 HT le (((d.toNat : Nat) : Int) - ((D.toNat : Nat) : Int)) ks (J36 ((D.toNat : Nat) : Int) nds) ((ps.zip R).map (psS ((D.toNat : Nat) : Int))) (J3f ((D.toNat : Nat) : Int) ls) rx px := by
     rw [ed,eD]
     exact Hq.same ⟨b1,b2,b3,b4,b5,b6,x1,x2,x3,x4,hle,f1,y1,f2,y2,f3,y3,f4,f5,f6⟩ sCT
    have hotT := (((s15.trans s16).trans sCT)) _ _ hoX
    have fin : J9D P w K mg base J2 J1 [.ref ho,.ref le,.ref ot,.int D] HT Q E0 := ⟨ho,le,ot,D.toNat,d.toNat,ks,nds,ps,ls,rx,px,R,J35 rs,prs,by rw [eD],hAq1,hAq2,hotT,hRp,by omega,k4,by omega,by omega,fun r h => by have := hRd r h; omega,fun n hn => Nat.le_trans (hpast n hn) (by decide),hRuT,by unfold J35; rw [List.length_map]; omega,hPrB.imp fun a y => PrT.keeps a y _ _ sBT.keeps,by omega,fun p h => (hPrG p h).inn,fun u hu => by
     obtain ⟨e,he,rfl⟩ := List.mem_map.mp hu
     exact Jfq (J2x (hRG e he).ok) (hRG e he).far e.1,fun i j a b h1 h2 h3 => plant.uniq h1 h2 h3,Jak plant (by omega) agree D.toNat (Nat.le_refl _),fun H' _ => q H'⟩
    exact ⟨_,rfl,_,rfl,_,rfl,_,rfl,fin⟩
end
open PySem.W in
theorem all_mk {l : OpenLaw} {w : World} {K : Frag} {h : Heap} {mg : Str → Option Value} {fa J8 Jb J7 Ja J3 Jh J2 J1 q1 q2 q3 q4 q5 q6 q7 q8 q9 q10 q11 q12 q13 q14 q15 q16 q17 q18 q19 q20 q21 q22 q23 q24 q25 q26 q27 q28 q29 q30 q31 q32 q33 q34 q35 q36 q37 q38 q39 q40 q41 q42 q43 q44 q45 q46 q47 q48 q49 q50 q51 q52 q53 q54 q55 q56 q57 q58 q59 q60 q61 q62 : Addr} (X : K.In h) (G : h.Ns mainGlobals mg) (hfa : mg "law" = some (.ref fa))
  {od1 an1 od2 an2 od3 an3 od4 an4 od5 an5 od6 an6 od7 an7 od8 an8 od9 an9 od10 an10 od11 an11 od12 an12 od13 an13 od14 an14 od15 an15 od16 an16 od17 an17 od18 an18 od19 an19 od20 an20 od21 an21 od22 an22 od23 an23 od24 an24 od25 an25 od26 an26 od27 an27 od28 an28 od29 an29 od30 an30 od31 an31 od32 an32 od33 an33 od34 an34 od35 an35 od36 an36 od37 an37 od38 an38 od39 an39 od40 an40 od41 an41 od42 an42 od43 an43 od44 an44 od45 an45 od46 an46 od47 an47 od48 an48 od49 an49 od50 an50 od51 an51 od52 an52 od53 an53 od54 an54 od55 an55 od56 an56 od57 an57 od58 an58 od59 an59 od60 an60 od61 an61 od62 an62 : Option Addr} {sl1 sl2 sl3 sl4 sl5 sl6 sl7 sl8 sl9 sl10 sl11 sl12 sl13 sl14 sl15 sl16 sl17 sl18 sl19 sl20 sl21 sl22 sl23 sl24 sl25 sl26 sl27 sl28 sl29 sl30 sl31 sl32 sl33 sl34 sl35 sl36 sl37 sl38 sl39 sl40 sl41 sl42 sl43 sl44 sl45 sl46 sl47 sl48 sl49 sl50 sl51 sl52 sl53 sl54 sl55 sl56 sl57 sl58 sl59 sl60 sl61 sl62 : Array (Option Value)} {oc1 kV1 dc1 pm1 cd1 ct1 oc2 kV2 dc2 pm2 cd2 ct2 oc3 kV3 dc3 pm3 cd3 ct3 oc4 kV4 dc4 pm4 cd4 ct4 oc5 kV5 dc5 pm5 cd5 ct5 oc6 kV6 dc6 pm6 cd6 ct6 oc7 kV7 dc7 pm7 cd7 ct7 oc8 kV8 dc8 pm8 cd8 ct8 oc9 kV9 dc9 pm9 cd9 ct9 oc10 kV10 dc10 pm10 cd10 ct10 oc11 kV11 dc11 pm11 cd11 ct11 oc12 kV12 dc12 pm12 cd12 ct12 oc13 kV13 dc13 pm13 cd13 ct13 oc14 kV14 dc14 pm14 cd14 ct14 oc15 kV15 dc15 pm15 cd15 ct15 oc16 kV16 dc16 pm16 cd16 ct16 oc17 kV17 dc17 pm17 cd17 ct17 oc18 kV18 dc18 pm18 cd18 ct18 oc19 kV19 dc19 pm19 cd19 ct19 oc20 kV20 dc20 pm20 cd20 ct20 oc21 kV21 dc21 pm21 cd21 ct21 oc22 kV22 dc22 pm22 cd22 ct22 oc23 kV23 dc23 pm23 cd23 ct23 oc24 kV24 dc24 pm24 cd24 ct24 oc25 kV25 dc25 pm25 cd25 ct25 oc26 kV26 dc26 pm26 cd26 ct26 oc27 kV27 dc27 pm27 cd27 ct27 oc28 kV28 dc28 pm28 cd28 ct28 oc29 kV29 dc29 pm29 cd29 ct29 oc30 kV30 dc30 pm30 cd30 ct30 oc31 kV31 dc31 pm31 cd31 ct31 oc32 kV32 dc32 pm32 cd32 ct32 oc33 kV33 dc33 pm33 cd33 ct33 oc34 kV34 dc34 pm34 cd34 ct34 oc35 kV35 dc35 pm35 cd35 ct35 oc36 kV36 dc36 pm36 cd36 ct36 oc37 kV37 dc37 pm37 cd37 ct37 oc38 kV38 dc38 pm38 cd38 ct38 oc39 kV39 dc39 pm39 cd39 ct39 oc40 kV40 dc40 pm40 cd40 ct40 oc41 kV41 dc41 pm41 cd41 ct41 oc42 kV42 dc42 pm42 cd42 ct42 oc43 kV43 dc43 pm43 cd43 ct43 oc44 kV44 dc44 pm44 cd44 ct44 oc45 kV45 dc45 pm45 cd45 ct45 oc46 kV46 dc46 pm46 cd46 ct46 oc47 kV47 dc47 pm47 cd47 ct47 oc48 kV48 dc48 pm48 cd48 ct48 oc49 kV49 dc49 pm49 cd49 ct49 oc50 kV50 dc50 pm50 cd50 ct50 oc51 kV51 dc51 pm51 cd51 ct51 oc52 kV52 dc52 pm52 cd52 ct52 oc53 kV53 dc53 pm53 cd53 ct53 oc54 kV54 dc54 pm54 cd54 ct54 oc55 kV55 dc55 pm55 cd55 ct55 oc56 kV56 dc56 pm56 cd56 ct56 oc57 kV57 dc57 pm57 cd57 ct57 oc58 kV58 dc58 pm58 cd58 ct58 oc59 kV59 dc59 pm59 cd59 ct59 oc60 kV60 dc60 pm60 cd60 ct60 oc61 kV61 dc61 pm61 cd61 ct61 oc62 kV62 dc62 pm62 cd62 ct62 : Value}
  {tk_PAST_MARKS : Tok}
  (J8H : nsIn K mainGlobals "Never" = some (some (.ref J8)))
  (JaP : nsIn K mainGlobals "Most" = some (some (.ref Jb)))
  (J8g : nsIn K mainGlobals "Least" = some (some (.ref J7)))
  (JaJ : nsIn K mainGlobals "Both" = some (some (.ref Ja)))
  (J6w : nsIn K mainGlobals "Either" = some (some (.ref J3)))
  (JcB : nsIn K mainGlobals "Not" = some (some (.ref Jh)))
  (J6s : nsIn K mainGlobals "Person" = some (some (.ref J2)))
  (J8F : nsIn K mainGlobals "House" = some (some (.ref J1)))
  (a1 : nsIn K mainGlobals "fits" = some (some (.ref q1)))
  (l1 : K.lookup q1 = some ⟨oc1,od1,.func (fnOf "fits" "fits" (Jm J5p) (Jk J5p) (J4 J5p) .none kV1 dc1 pm1 an1 cd1 ct1),sl1⟩)
  (c1 : codeIn K cd1 "fits" = true)
  (k1 : keepIn K (.ref q1) = true)
  (a2 : nsIn K mainGlobals "last_marks" = some (some (.ref q2)))
  (l2 : K.lookup q2 = some ⟨oc2,od2,.func (fnOf "last_marks" "last_marks" (Jm J1D) (Jk J1D) (J4 J1D) .none kV2 dc2 pm2 an2 cd2 ct2),sl2⟩)
  (c2 : codeIn K cd2 "last_marks" = true)
  (k2 : keepIn K (.ref q2) = true)
  (a3 : nsIn K mainGlobals "let_by" = some (some (.ref q3)))
  (l3 : K.lookup q3 = some ⟨oc3,od3,.func (fnOf "let_by" "let_by" (Jm J2Z) (Jk J2Z) (J4 J2Z) .none kV3 dc3 pm3 an3 cd3 ct3),sl3⟩)
  (c3 : codeIn K cd3 "let_by" = true)
  (k3 : keepIn K (.ref q3) = true)
  (a4 : nsIn K mainGlobals "count_among" = some (some (.ref q4)))
  (l4 : K.lookup q4 = some ⟨oc4,od4,.func (fnOf "count_among" "count_among" (Jm J0P) (Jk J0P) (J4 J0P) .none kV4 dc4 pm4 an4 cd4 ct4),sl4⟩)
  (c4 : codeIn K cd4 "count_among" = true)
  (k4 : keepIn K (.ref q4) = true)
  (a5 : findIn K (.ref J8) "__init__" = some (some (.ref q5)))
  (i5 : isFn K (.ref q5) = true)
  (l5 : K.lookup q5 = some ⟨oc5,od5,.func (fnOf "__init__" "Never.__init__" (Jm J1G) (Jk J1G) (J4 J1G) .none kV5 dc5 pm5 an5 cd5 ct5),sl5⟩)
  (c5 : codeIn K cd5 "Never.__init__" = true)
  (k5 : keepIn K (.ref q5) = true)
  (a6 : findIn K (.ref J8) "bad" = some (some (.ref q6)))
  (i6 : isFn K (.ref q6) = true)
  (l6 : K.lookup q6 = some ⟨oc6,od6,.func (fnOf "bad" "Never.bad" (Jm J1s) (Jk J1s) (J4 J1s) .none kV6 dc6 pm6 an6 cd6 ct6),sl6⟩)
  (c6 : codeIn K cd6 "Never.bad" = true)
  (k6 : keepIn K (.ref q6) = true)
  (a7 : findIn K (.ref Jb) "__init__" = some (some (.ref q7)))
  (i7 : isFn K (.ref q7) = true)
  (l7 : K.lookup q7 = some ⟨oc7,od7,.func (fnOf "__init__" "Most.__init__" (Jm J25) (Jk J25) (J4 J25) .none kV7 dc7 pm7 an7 cd7 ct7),sl7⟩)
  (c7 : codeIn K cd7 "Most.__init__" = true)
  (k7 : keepIn K (.ref q7) = true)
  (a8 : findIn K (.ref Jb) "bad" = some (some (.ref q8)))
  (i8 : isFn K (.ref q8) = true)
  (l8 : K.lookup q8 = some ⟨oc8,od8,.func (fnOf "bad" "Most.bad" (Jm J2q) (Jk J2q) (J4 J2q) .none kV8 dc8 pm8 an8 cd8 ct8),sl8⟩)
  (c8 : codeIn K cd8 "Most.bad" = true)
  (k8 : keepIn K (.ref q8) = true)
  (a9 : findIn K (.ref J7) "__init__" = some (some (.ref q9)))
  (i9 : isFn K (.ref q9) = true)
  (l9 : K.lookup q9 = some ⟨oc9,od9,.func (fnOf "__init__" "Least.__init__" (Jm J1J) (Jk J1J) (J4 J1J) .none kV9 dc9 pm9 an9 cd9 ct9),sl9⟩)
  (c9 : codeIn K cd9 "Least.__init__" = true)
  (k9 : keepIn K (.ref q9) = true)
  (a10 : findIn K (.ref J7) "bad" = some (some (.ref q10)))
  (i10 : isFn K (.ref q10) = true)
  (l10 : K.lookup q10 = some ⟨oc10,od10,.func (fnOf "bad" "Least.bad" (Jm J24) (Jk J24) (J4 J24) .none kV10 dc10 pm10 an10 cd10 ct10),sl10⟩)
  (c10 : codeIn K cd10 "Least.bad" = true)
  (k10 : keepIn K (.ref q10) = true)
  (a11 : findIn K (.ref Ja) "__init__" = some (some (.ref q11)))
  (i11 : isFn K (.ref q11) = true)
  (l11 : K.lookup q11 = some ⟨oc11,od11,.func (fnOf "__init__" "Both.__init__" (Jm J27) (Jk J27) (J4 J27) .none kV11 dc11 pm11 an11 cd11 ct11),sl11⟩)
  (c11 : codeIn K cd11 "Both.__init__" = true)
  (k11 : keepIn K (.ref q11) = true)
  (a12 : findIn K (.ref J3) "__init__" = some (some (.ref q12)))
  (i12 : isFn K (.ref q12) = true)
  (l12 : K.lookup q12 = some ⟨oc12,od12,.func (fnOf "__init__" "Either.__init__" (Jm J1e) (Jk J1e) (J4 J1e) .none kV12 dc12 pm12 an12 cd12 ct12),sl12⟩)
  (c12 : codeIn K cd12 "Either.__init__" = true)
  (k12 : keepIn K (.ref q12) = true)
  (a13 : findIn K (.ref Jh) "__init__" = some (some (.ref q13)))
  (i13 : isFn K (.ref q13) = true)
  (l13 : K.lookup q13 = some ⟨oc13,od13,.func (fnOf "__init__" "Not.__init__" (Jm J2s) (Jk J2s) (J4 J2s) .none kV13 dc13 pm13 an13 cd13 ct13),sl13⟩)
  (c13 : codeIn K cd13 "Not.__init__" = true)
  (k13 : keepIn K (.ref q13) = true)
  (a14 : findIn K (.ref Ja) "bad" = some (some (.ref q14)))
  (i14 : isFn K (.ref q14) = true)
  (l14 : K.lookup q14 = some ⟨oc14,od14,.func (fnOf "bad" "Both.bad" (Jm J2u) (Jk J2u) (J4 J2u) .none kV14 dc14 pm14 an14 cd14 ct14),sl14⟩)
  (c14 : codeIn K cd14 "Both.bad" = true)
  (k14 : keepIn K (.ref q14) = true)
  (a15 : findIn K (.ref J3) "bad" = some (some (.ref q15)))
  (i15 : isFn K (.ref q15) = true)
  (l15 : K.lookup q15 = some ⟨oc15,od15,.func (fnOf "bad" "Either.bad" (Jm J1E) (Jk J1E) (J4 J1E) .none kV15 dc15 pm15 an15 cd15 ct15),sl15⟩)
  (c15 : codeIn K cd15 "Either.bad" = true)
  (k15 : keepIn K (.ref q15) = true)
  (a16 : findIn K (.ref Jh) "bad" = some (some (.ref q16)))
  (i16 : isFn K (.ref q16) = true)
  (l16 : K.lookup q16 = some ⟨oc16,od16,.func (fnOf "bad" "Not.bad" (Jm J2U) (Jk J2U) (J4 J2U) .none kV16 dc16 pm16 an16 cd16 ct16),sl16⟩)
  (c16 : codeIn K cd16 "Not.bad" = true)
  (k16 : keepIn K (.ref q16) = true)
  (a17 : nsIn K mainGlobals "count_text" = some (some (.ref q17)))
  (l17 : K.lookup q17 = some ⟨oc17,od17,.func (fnOf "count_text" "count_text" (Jm J1F) (Jk J1F) (J4 J1F) .none kV17 dc17 pm17 an17 cd17 ct17),sl17⟩)
  (c17 : codeIn K cd17 "count_text" = true)
  (k17 : keepIn K (.ref q17) = true)
  (a18 : findIn K (.ref J8) "text" = some (some (.ref q18)))
  (i18 : isFn K (.ref q18) = true)
  (l18 : K.lookup q18 = some ⟨oc18,od18,.func (fnOf "text" "Never.text" (Jm J1B) (Jk J1B) (J4 J1B) .none kV18 dc18 pm18 an18 cd18 ct18),sl18⟩)
  (c18 : codeIn K cd18 "Never.text" = true)
  (k18 : keepIn K (.ref q18) = true)
  (a19 : findIn K (.ref Jb) "text" = some (some (.ref q19)))
  (i19 : isFn K (.ref q19) = true)
  (l19 : K.lookup q19 = some ⟨oc19,od19,.func (fnOf "text" "Most.text" (Jm J29) (Jk J29) (J4 J29) .none kV19 dc19 pm19 an19 cd19 ct19),sl19⟩)
  (c19 : codeIn K cd19 "Most.text" = true)
  (k19 : keepIn K (.ref q19) = true)
  (a20 : findIn K (.ref J7) "text" = some (some (.ref q20)))
  (i20 : isFn K (.ref q20) = true)
  (l20 : K.lookup q20 = some ⟨oc20,od20,.func (fnOf "text" "Least.text" (Jm J1K) (Jk J1K) (J4 J1K) .none kV20 dc20 pm20 an20 cd20 ct20),sl20⟩)
  (c20 : codeIn K cd20 "Least.text" = true)
  (k20 : keepIn K (.ref q20) = true)
  (a21 : nsIn K mainGlobals "is_joined" = some (some (.ref q21)))
  (l21 : K.lookup q21 = some ⟨oc21,od21,.func (fnOf "is_joined" "is_joined" (Jm J2a) (Jk J2a) (J4 J2a) .none kV21 dc21 pm21 an21 cd21 ct21),sl21⟩)
  (c21 : codeIn K cd21 "is_joined" = true)
  (k21 : keepIn K (.ref q21) = true)
  (a22 : nsIn K mainGlobals "part_text" = some (some (.ref q22)))
  (l22 : K.lookup q22 = some ⟨oc22,od22,.func (fnOf "part_text" "part_text" (Jm J28) (Jk J28) (J4 J28) .none kV22 dc22 pm22 an22 cd22 ct22),sl22⟩)
  (c22 : codeIn K cd22 "part_text" = true)
  (k22 : keepIn K (.ref q22) = true)
  (a23 : findIn K (.ref Ja) "text" = some (some (.ref q23)))
  (i23 : isFn K (.ref q23) = true)
  (l23 : K.lookup q23 = some ⟨oc23,od23,.func (fnOf "text" "Both.text" (Jm J26) (Jk J26) (J4 J26) .none kV23 dc23 pm23 an23 cd23 ct23),sl23⟩)
  (c23 : codeIn K cd23 "Both.text" = true)
  (k23 : keepIn K (.ref q23) = true)
  (a24 : findIn K (.ref J3) "text" = some (some (.ref q24)))
  (i24 : isFn K (.ref q24) = true)
  (l24 : K.lookup q24 = some ⟨oc24,od24,.func (fnOf "text" "Either.text" (Jm J1f) (Jk J1f) (J4 J1f) .none kV24 dc24 pm24 an24 cd24 ct24),sl24⟩)
  (c24 : codeIn K cd24 "Either.text" = true)
  (k24 : keepIn K (.ref q24) = true)
  (a25 : findIn K (.ref Jh) "text" = some (some (.ref q25)))
  (i25 : isFn K (.ref q25) = true)
  (l25 : K.lookup q25 = some ⟨oc25,od25,.func (fnOf "text" "Not.text" (Jm J2v) (Jk J2v) (J4 J2v) .none kV25 dc25 pm25 an25 cd25 ct25),sl25⟩)
  (c25 : codeIn K cd25 "Not.text" = true)
  (k25 : keepIn K (.ref q25) = true)
  (a26 : nsIn K mainGlobals "bad_days" = some (some (.ref q26)))
  (l26 : K.lookup q26 = some ⟨oc26,od26,.func (fnOf "bad_days" "bad_days" (Jm J1Z) (Jk J1Z) (J4 J1Z) .none kV26 dc26 pm26 an26 cd26 ct26),sl26⟩)
  (c26 : codeIn K cd26 "bad_days" = true)
  (k26 : keepIn K (.ref q26) = true)
  (a27 : findIn K (.ref J2) "__init__" = some (some (.ref q27)))
  (i27 : isFn K (.ref q27) = true)
  (l27 : K.lookup q27 = some ⟨oc27,od27,.func (fnOf "__init__" "Person.__init__" (Jm J1i) (Jk J1i) (J4 J1i) .none kV27 dc27 pm27 an27 cd27 ct27),sl27⟩)
  (c27 : codeIn K cd27 "Person.__init__" = true)
  (k27 : keepIn K (.ref q27) = true)
  (a28 : findIn K (.ref J1) "__init__" = some (some (.ref q28)))
  (i28 : isFn K (.ref q28) = true)
  (l28 : K.lookup q28 = some ⟨oc28,od28,.func (fnOf "__init__" "House.__init__" (Jm J1I) (Jk J1I) (J4 J1I) .none kV28 dc28 pm28 an28 cd28 ct28),sl28⟩)
  (c28 : codeIn K cd28 "House.__init__" = true)
  (k28 : keepIn K (.ref q28) = true)
  (a29 : findIn K (.ref J1) "need" = some (some (.ref q29)))
  (i29 : isFn K (.ref q29) = true)
  (l29 : K.lookup q29 = some ⟨oc29,od29,.func (fnOf "need" "House.need" (Jm J1A) (Jk J1A) (J4 J1A) .none kV29 dc29 pm29 an29 cd29 ct29),sl29⟩)
  (c29 : codeIn K cd29 "House.need" = true)
  (k29 : keepIn K (.ref q29) = true)
  (a30 : nsIn K mainGlobals "duties_in" = some (some (.ref q30)))
  (l30 : K.lookup q30 = some ⟨oc30,od30,.func (fnOf "duties_in" "duties_in" (Jm J1r) (Jk J1r) (J4 J1r) .none kV30 dc30 pm30 an30 cd30 ct30),sl30⟩)
  (c30 : codeIn K cd30 "duties_in" = true)
  (k30 : keepIn K (.ref q30) = true)
  (a31 : findIn K (.ref J1) "place_of" = some (some (.ref q31)))
  (i31 : isFn K (.ref q31) = true)
  (l31 : K.lookup q31 = some ⟨oc31,od31,.func (fnOf "place_of" "House.place_of" (Jm J0x) (Jk J0x) (J4 J0x) .none kV31 dc31 pm31 an31 cd31 ct31),sl31⟩)
  (c31 : codeIn K cd31 "House.place_of" = true)
  (k31 : keepIn K (.ref q31) = true)
  (a32 : nsIn K mainGlobals "on_duty" = some (some (.ref q32)))
  (l32 : K.lookup q32 = some ⟨oc32,od32,.func (fnOf "on_duty" "on_duty" (Jm J2r) (Jk J2r) (J4 J2r) .none kV32 dc32 pm32 an32 cd32 ct32),sl32⟩)
  (c32 : codeIn K cd32 "on_duty" = true)
  (k32 : keepIn K (.ref q32) = true)
  (a33 : nsIn K mainGlobals "skill_faults" = some (some (.ref q33)))
  (l33 : K.lookup q33 = some ⟨oc33,od33,.func (fnOf "skill_faults" "skill_faults" (Jm J0z) (Jk J0z) (J4 J0z) .none kV33 dc33 pm33 an33 cd33 ct33),sl33⟩)
  (c33 : codeIn K cd33 "skill_faults" = true)
  (k33 : keepIn K (.ref q33) = true)
  (a34 : nsIn K mainGlobals "leave_faults" = some (some (.ref q34)))
  (l34 : K.lookup q34 = some ⟨oc34,od34,.func (fnOf "leave_faults" "leave_faults" (Jm J0C) (Jk J0C) (J4 J0C) .none kV34 dc34 pm34 an34 cd34 ct34),sl34⟩)
  (c34 : codeIn K cd34 "leave_faults" = true)
  (k34 : keepIn K (.ref q34) = true)
  (a35 : nsIn K mainGlobals "need_faults" = some (some (.ref q35)))
  (l35 : K.lookup q35 = some ⟨oc35,od35,.func (fnOf "need_faults" "need_faults" (Jm J0T) (Jk J0T) (J4 J0T) .none kV35 dc35 pm35 an35 cd35 ct35),sl35⟩)
  (c35 : codeIn K cd35 "need_faults" = true)
  (k35 : keepIn K (.ref q35) = true)
  (a36 : nsIn K mainGlobals "most_faults" = some (some (.ref q36)))
  (l36 : K.lookup q36 = some ⟨oc36,od36,.func (fnOf "most_faults" "most_faults" (Jm J1a) (Jk J1a) (J4 J1a) .none kV36 dc36 pm36 an36 cd36 ct36),sl36⟩)
  (c36 : codeIn K cd36 "most_faults" = true)
  (k36 : keepIn K (.ref q36) = true)
  (a37 : findIn K (.ref J1) "rules_for" = some (some (.ref q37)))
  (i37 : isFn K (.ref q37) = true)
  (l37 : K.lookup q37 = some ⟨oc37,od37,.func (fnOf "rules_for" "House.rules_for" (Jm JZ) (Jk JZ) (J4 JZ) .none kV37 dc37 pm37 an37 cd37 ct37),sl37⟩)
  (c37 : codeIn K cd37 "House.rules_for" = true)
  (k37 : keepIn K (.ref q37) = true)
  (a38 : nsIn K mainGlobals "rule_faults" = some (some (.ref q38)))
  (l38 : K.lookup q38 = some ⟨oc38,od38,.func (fnOf "rule_faults" "rule_faults" (Jm J0U) (Jk J0U) (J4 J0U) .none kV38 dc38 pm38 an38 cd38 ct38),sl38⟩)
  (c38 : codeIn K cd38 "rule_faults" = true)
  (k38 : keepIn K (.ref q38) = true)
  (a39 : nsIn K mainGlobals "breaks_pair" = some (some (.ref q39)))
  (l39 : K.lookup q39 = some ⟨oc39,od39,.func (fnOf "breaks_pair" "breaks_pair" (Jm J1h) (Jk J1h) (J4 J1h) .none kV39 dc39 pm39 an39 cd39 ct39),sl39⟩)
  (c39 : codeIn K cd39 "breaks_pair" = true)
  (k39 : keepIn K (.ref q39) = true)
  (a40 : nsIn K mainGlobals "pair_faults" = some (some (.ref q40)))
  (l40 : K.lookup q40 = some ⟨oc40,od40,.func (fnOf "pair_faults" "pair_faults" (Jm J1g) (Jk J1g) (J4 J1g) .none kV40 dc40 pm40 an40 cd40 ct40),sl40⟩)
  (c40 : codeIn K cd40 "pair_faults" = true)
  (k40 : keepIn K (.ref q40) = true)
  (a41 : nsIn K mainGlobals "faults" = some (some (.ref q41)))
  (l41 : K.lookup q41 = some ⟨oc41,od41,.func (fnOf "faults" "faults" (Jm J3s) (Jk J3s) (J4 J3s) .none kV41 dc41 pm41 an41 cd41 ct41),sl41⟩)
  (c41 : codeIn K cd41 "faults" = true)
  (k41 : keepIn K (.ref q41) = true)
  (a42 : nsIn K mainGlobals "_law_cell_at" = some (some (.ref q42)))
  (l42 : K.lookup q42 = some ⟨oc42,od42,.func (fnOf "_law_cell_at" "_law_cell_at" (Jm J1b) (Jk J1b) (J4 J1b) .none kV42 dc42 pm42 an42 cd42 ct42),sl42⟩)
  (c42 : codeIn K cd42 "_law_cell_at" = true)
  (k42 : keepIn K (.ref q42) = true)
  (a43 : nsIn K mainGlobals "_law_stream" = some (some (.ref q43)))
  (l43 : K.lookup q43 = some ⟨oc43,od43,.func (fnOf "_law_stream" "_law_stream" (Jm J1C) (Jk J1C) (J4 J1C) .none kV43 dc43 pm43 an43 cd43 ct43),sl43⟩)
  (c43 : codeIn K cd43 "_law_stream" = true)
  (k43 : keepIn K (.ref q43) = true)
  (a44 : nsIn K mainGlobals "_law_kinds" = some (some (.ref q44)))
  (l44 : K.lookup q44 = some ⟨oc44,od44,.func (fnOf "_law_kinds" "_law_kinds" (Jm J1w) (Jk J1w) (J4 J1w) .none kV44 dc44 pm44 an44 cd44 ct44),sl44⟩)
  (c44 : codeIn K cd44 "_law_kinds" = true)
  (k44 : keepIn K (.ref q44) = true)
  (a45 : nsIn K mainGlobals "_law_name" = some (some (.ref q45)))
  (l45 : K.lookup q45 = some ⟨oc45,od45,.func (fnOf "_law_name" "_law_name" (Jm J20) (Jk J20) (J4 J20) .none kV45 dc45 pm45 an45 cd45 ct45),sl45⟩)
  (c45 : codeIn K cd45 "_law_name" = true)
  (k45 : keepIn K (.ref q45) = true)
  (a46 : nsIn K mainGlobals "_law_some" = some (some (.ref q46)))
  (l46 : K.lookup q46 = some ⟨oc46,od46,.func (fnOf "_law_some" "_law_some" (Jm J21) (Jk J21) (J4 J21) .none kV46 dc46 pm46 an46 cd46 ct46),sl46⟩)
  (c46 : codeIn K cd46 "_law_some" = true)
  (k46 : keepIn K (.ref q46) = true)
  (a47 : nsIn K mainGlobals "_law_planted" = some (some (.ref q47)))
  (l47 : K.lookup q47 = some ⟨oc47,od47,.func (fnOf "_law_planted" "_law_planted" (Jm J1c) (Jk J1c) (J4 J1c) .none kV47 dc47 pm47 an47 cd47 ct47),sl47⟩)
  (c47 : codeIn K cd47 "_law_planted" = true)
  (k47 : keepIn K (.ref q47) = true)
  (a48 : nsIn K mainGlobals "_law_needs_about" = some (some (.ref q48)))
  (l48 : K.lookup q48 = some ⟨oc48,od48,.func (fnOf "_law_needs_about" "_law_needs_about" (Jm JX) (Jk JX) (J4 JX) .none kV48 dc48 pm48 an48 cd48 ct48),sl48⟩)
  (c48 : codeIn K cd48 "_law_needs_about" = true)
  (k48 : keepIn K (.ref q48) = true)
  (a49 : nsIn K mainGlobals "_law_carried" = some (some (.ref q49)))
  (l49 : K.lookup q49 = some ⟨oc49,od49,.func (fnOf "_law_carried" "_law_carried" (Jm J1d) (Jk J1d) (J4 J1d) .none kV49 dc49 pm49 an49 cd49 ct49),sl49⟩)
  (c49 : codeIn K cd49 "_law_carried" = true)
  (k49 : keepIn K (.ref q49) = true)
  (a50 : nsIn K mainGlobals "_law_persons_about" = some (some (.ref q50)))
  (l50 : K.lookup q50 = some ⟨oc50,od50,.func (fnOf "_law_persons_about" "_law_persons_about" (Jm JM) (Jk JM) (J4 JM) .none kV50 dc50 pm50 an50 cd50 ct50),sl50⟩)
  (c50 : codeIn K cd50 "_law_persons_about" = true)
  (k50 : keepIn K (.ref q50) = true)
  (a51 : nsIn K mainGlobals "_law_leave_about" = some (some (.ref q51)))
  (l51 : K.lookup q51 = some ⟨oc51,od51,.func (fnOf "_law_leave_about" "_law_leave_about" (Jm J0h) (Jk J0h) (J4 J0h) .none kV51 dc51 pm51 an51 cd51 ct51),sl51⟩)
  (c51 : codeIn K cd51 "_law_leave_about" = true)
  (k51 : keepIn K (.ref q51) = true)
  (a52 : nsIn K mainGlobals "_law_rule" = some (some (.ref q52)))
  (l52 : K.lookup q52 = some ⟨oc52,od52,.func (fnOf "_law_rule" "_law_rule" (Jm J2t) (Jk J2t) (J4 J2t) .none kV52 dc52 pm52 an52 cd52 ct52),sl52⟩)
  (c52 : codeIn K cd52 "_law_rule" = true)
  (k52 : keepIn K (.ref q52) = true)
  (a53 : nsIn K mainGlobals "_law_rules_about" = some (some (.ref q53)))
  (l53 : K.lookup q53 = some ⟨oc53,od53,.func (fnOf "_law_rules_about" "_law_rules_about" (Jm J0i) (Jk J0i) (J4 J0i) .none kV53 dc53 pm53 an53 cd53 ct53),sl53⟩)
  (c53 : codeIn K cd53 "_law_rules_about" = true)
  (k53 : keepIn K (.ref q53) = true)
  (a54 : nsIn K mainGlobals "_law_pairs_about" = some (some (.ref q54)))
  (l54 : K.lookup q54 = some ⟨oc54,od54,.func (fnOf "_law_pairs_about" "_law_pairs_about" (Jm J0g) (Jk J0g) (J4 J0g) .none kV54 dc54 pm54 an54 cd54 ct54),sl54⟩)
  (c54 : codeIn K cd54 "_law_pairs_about" = true)
  (k54 : keepIn K (.ref q54) = true)
  (a55 : nsIn K mainGlobals "_law_wishes_of" = some (some (.ref q55)))
  (l55 : K.lookup q55 = some ⟨oc55,od55,.func (fnOf "_law_wishes_of" "_law_wishes_of" (Jm J0G) (Jk J0G) (J4 J0G) .none kV55 dc55 pm55 an55 cd55 ct55),sl55⟩)
  (c55 : codeIn K cd55 "_law_wishes_of" = true)
  (k55 : keepIn K (.ref q55) = true)
  (a56 : nsIn K mainGlobals "person_behind" = some (some (.ref q56)))
  (l56 : K.lookup q56 = some ⟨oc56,od56,.func (fnOf "person_behind" "person_behind" (Jm J0H) (Jk J0H) (J4 J0H) .none kV56 dc56 pm56 an56 cd56 ct56),sl56⟩)
  (c56 : codeIn K cd56 "person_behind" = true)
  (k56 : keepIn K (.ref q56) = true)
  (a57 : nsIn K mainGlobals "rest" = some (some (.ref q57)))
  (l57 : K.lookup q57 = some ⟨oc57,od57,.func (fnOf "rest" "rest" (Jm J3n) (Jk J3n) (J4 J3n) .none kV57 dc57 pm57 an57 cd57 ct57),sl57⟩)
  (c57 : codeIn K cd57 "rest" = true)
  (k57 : keepIn K (.ref q57) = true)
  (a58 : nsIn K mainGlobals "_law_later" = some (some (.ref q58)))
  (l58 : K.lookup q58 = some ⟨oc58,od58,.func (fnOf "_law_later" "_law_later" (Jm J1u) (Jk J1u) (J4 J1u) .none kV58 dc58 pm58 an58 cd58 ct58),sl58⟩)
  (c58 : codeIn K cd58 "_law_later" = true)
  (k58 : keepIn K (.ref q58) = true)
  (a59 : nsIn K mainGlobals "_law_person" = some (some (.ref q59)))
  (l59 : K.lookup q59 = some ⟨oc59,od59,.func (fnOf "_law_person" "_law_person" (Jm J11) (Jk J11) (J4 J11) .none kV59 dc59 pm59 an59 cd59 ct59),sl59⟩)
  (c59 : codeIn K cd59 "_law_person" = true)
  (k59 : keepIn K (.ref q59) = true)
  (a60 : nsIn K mainGlobals "_law_moved" = some (some (.ref q60)))
  (l60 : K.lookup q60 = some ⟨oc60,od60,.func (fnOf "_law_moved" "_law_moved" (Jm J1q) (Jk J1q) (J4 J1q) .none kV60 dc60 pm60 an60 cd60 ct60),sl60⟩)
  (c60 : codeIn K cd60 "_law_moved" = true)
  (k60 : keepIn K (.ref q60) = true)
  (a61 : nsIn K mainGlobals "_law_alike" = some (some (.ref q61)))
  (l61 : K.lookup q61 = some ⟨oc61,od61,.func (fnOf "_law_alike" "_law_alike" (Jm J1m) (Jk J1m) (J4 J1m) .none kV61 dc61 pm61 an61 cd61 ct61),sl61⟩)
  (c61 : codeIn K cd61 "_law_alike" = true)
  (k61 : keepIn K (.ref q61) = true)
  (a62 : nsIn K mainGlobals "law" = some (some (.ref q62)))
  (l62 : K.lookup q62 = some ⟨oc62,od62,.func (fnOf "law" "law" (Jm J3a) (Jk J3a) (J4 J3a) .none kV62 dc62 pm62 an62 cd62 ct62),sl62⟩)
  (c62 : codeIn K cd62 "law" = true)
  (k62 : keepIn K (.ref q62) = true)
  (J4P : plainGet K J8 Str.empty = true)
  (J54 : hasDictIn K J8 = true)
  (J4W : plainOver K J8 = true)
  (J4M : findIn K (.ref J8) "__setattr__" = some (some (.builtin "object.__setattr__")))
  (J6x : makesIn K J8 = true)
  (J6r : keepIn K (.ref J8) = true)
  (J67 : plainGet K Jb Str.empty = true)
  (J69 : hasDictIn K Jb = true)
  (J6a : plainOver K Jb = true)
  (J65 : findIn K (.ref Jb) "__setattr__" = some (some (.builtin "object.__setattr__")))
  (J8w : makesIn K Jb = true)
  (J8o : keepIn K (.ref Jb) = true)
  (J4Y : plainGet K J7 Str.empty = true)
  (J55 : hasDictIn K J7 = true)
  (J56 : plainOver K J7 = true)
  (J4Q : findIn K (.ref J7) "__setattr__" = some (some (.builtin "object.__setattr__")))
  (J6A : makesIn K J7 = true)
  (J6E : keepIn K (.ref J7) = true)
  (J6d : plainGet K Ja Str.empty = true)
  (J6e : hasDictIn K Ja = true)
  (J6c : plainOver K Ja = true)
  (J6b : findIn K (.ref Ja) "__setattr__" = some (some (.builtin "object.__setattr__")))
  (J8k : makesIn K Ja = true)
  (J8h : keepIn K (.ref Ja) = true)
  (J48 : plainGet K J3 Str.empty = true)
  (J4a : hasDictIn K J3 = true)
  (J4b : plainOver K J3 = true)
  (J49 : findIn K (.ref J3) "__setattr__" = some (some (.builtin "object.__setattr__")))
  (J5q : makesIn K J3 = true)
  (J5w : keepIn K (.ref J3) = true)
  (J8G : plainGet K Jh Str.empty = true)
  (J8C : hasDictIn K Jh = true)
  (J8I : plainOver K Jh = true)
  (J8q : findIn K (.ref Jh) "__setattr__" = some (some (.builtin "object.__setattr__")))
  (JaH : makesIn K Jh = true)
  (JaM : keepIn K (.ref Jh) = true)
  (J5x : plainGet K J2 Str.empty = true)
  (J5r : hasDictIn K J2 = true)
  (J5z : plainOver K J2 = true)
  (J5u : findIn K (.ref J2) "__setattr__" = some (some (.builtin "object.__setattr__")))
  (J5A : makesIn K J2 = true)
  (J5t : keepIn K (.ref J2) = true)
  (J6n : plainGet K J1 Str.empty = true)
  (J6z : hasDictIn K J1 = true)
  (J6H : plainOver K J1 = true)
  (J6G : findIn K (.ref J1) "__setattr__" = some (some (.builtin "object.__setattr__")))
  (J6L : makesIn K J1 = true)
  (J6J : keepIn K (.ref J1) = true)
  (yn : specialIn K (.builtin "object.__class__") "__get__" = some (some (.builtin "getset_descriptor.__get__")))
  (yt : takesIn K (.builtin "object.__class__") = some true)
  (J6u : findIn K (.ref J8) "__class__" = some (some (.builtin "object.__class__")))
  (J6N : mroIn K J8 (.type "object") = some true)
  (J2h : kitOne K (.ref J8) (.ref Ja) = some false)
  (J1v : kitOne K (.ref J8) (.ref J3) = some false)
  (J8a : findIn K (.ref Jb) "__class__" = some (some (.builtin "object.__class__")))
  (J8d : mroIn K Jb (.type "object") = some true)
  (J2J : kitOne K (.ref Jb) (.ref Ja) = some false)
  (J1U : kitOne K (.ref Jb) (.ref J3) = some false)
  (J6q : findIn K (.ref J7) "__class__" = some (some (.builtin "object.__class__")))
  (J6o : mroIn K J7 (.type "object") = some true)
  (J2e : kitOne K (.ref J7) (.ref Ja) = some false)
  (J1t : kitOne K (.ref J7) (.ref J3) = some false)
  (J89 : findIn K (.ref Ja) "__class__" = some (some (.builtin "object.__class__")))
  (J8t : mroIn K Ja (.type "object") = some true)
  (J2I : kitOne K (.ref Ja) (.ref Ja) = some true)
  (J1S : kitOne K (.ref Ja) (.ref J3) = some false)
  (J5s : findIn K (.ref J3) "__class__" = some (some (.builtin "object.__class__")))
  (J5v : mroIn K J3 (.type "object") = some true)
  (J1V : kitOne K (.ref J3) (.ref Ja) = some false)
  (J19 : kitOne K (.ref J3) (.ref J3) = some true)
  (JaE : findIn K (.ref Jh) "__class__" = some (some (.builtin "object.__class__")))
  (JaR : mroIn K Jh (.type "object") = some true)
  (J31 : kitOne K (.ref Jh) (.ref Ja) = some false)
  (J2j : kitOne K (.ref Jh) (.ref J3) = some false)
  (J1x : findIn K (.ref Ja) "left" = some none)
  (J14 : findIn K (.ref Ja) "right" = some none)
  (J0S : findIn K (.ref J3) "left" = some none)
  (J0A : findIn K (.ref J3) "right" = some none)
  (J0M : findIn K (.ref J1) "days" = some none)
  (J0v : findIn K (.ref J1) "kinds" = some none)
  (J0u : findIn K (.ref J1) "needs" = some none)
  (JJ : findIn K (.ref J1) "persons" = some none)
  (J0s : findIn K (.ref J1) "leave" = some none)
  (J0y : findIn K (.ref J1) "wishes" = some none)
  (J0t : findIn K (.ref J1) "rules" = some none)
  (J0w : findIn K (.ref J1) "pairs" = some none)
  (J13 : findIn K (.ref J7) "many" = some none)
  (J0R : findIn K (.ref J7) "marks" = some none)
  (J0N : findIn K (.ref J7) "days" = some none)
  (J1n : findIn K (.ref Jb) "many" = some none)
  (J12 : findIn K (.ref Jb) "marks" = some none)
  (J1k : findIn K (.ref Jb) "days" = some none)
  (J0p : findIn K (.ref J8) "word" = some none)
  (J1p : findIn K (.ref Jh) "inner" = some none)
  (Jy : findIn K (.ref J2) "name" = some none)
  (J04 : findIn K (.ref J2) "skills" = some none)
  (J0r : findIn K (.ref J2) "most" = some none)
  (J08 : findIn K (.ref J2) "carried" = some none)
  (J0d : findIn K (.ref J2) "past" = some none)
  (J9A : nsIn K mainGlobals "all" = some none)
  (J9T : nsIn K mainGlobals "any" = some none)
  (J0Y : nsIn K mainGlobals "enumerate" = some none)
  (J0K : nsIn K mainGlobals "isinstance" = some none)
  (J0c : nsIn K mainGlobals "len" = some none)
  (J2M : nsIn K mainGlobals "list" = some none)
  (J9M : nsIn K mainGlobals "max" = some none)
  (J9t : nsIn K mainGlobals "min" = some none)
  (JY : nsIn K mainGlobals "range" = some none)
  (J4q : nsIn K mainGlobals "zip" = some none)
  (J2f : nsIn K mainGlobals "PAST_MARKS" = some (some (.int 6 tk_PAST_MARKS)))
  : ∃ fd : FuncData,(∀ (s : Shared) (v : Value),BindsTo s fd ⟨[v],[]⟩ [("_law_script",v)]) ∧ ∀ base : Heap,K.In base → base.Ns mainGlobals mg → FnOk l.prog w K mg base CX0 60 fa fd ["_law_script"] (sp_law K) := by
 have e := hfa.symm.trans (mg_of X G a62)
 cases e
 have T : Tx K mg J8 Jb J7 Ja J3 Jh J2 J1 := ⟨⟨_,_,Js (st := J5p) l1 c1 k1,mg_of X G a1⟩,
  ⟨_,_,Js (st := J1D) l2 c2 k2,mg_of X G a2⟩,
  ⟨_,_,Js (st := J2Z) l3 c3 k3,mg_of X G a3⟩,
  ⟨_,_,Js (st := J0P) l4 c4 k4,mg_of X G a4⟩,
  ⟨_,_,Js (st := J1G) l5 c5 k5,⟨a5,i5,k5⟩⟩,
  ⟨_,_,Js (st := J1s) l6 c6 k6,⟨a6,i6,k6⟩⟩,
  ⟨_,_,Js (st := J25) l7 c7 k7,⟨a7,i7,k7⟩⟩,
  ⟨_,_,Js (st := J2q) l8 c8 k8,⟨a8,i8,k8⟩⟩,
  ⟨_,_,Js (st := J1J) l9 c9 k9,⟨a9,i9,k9⟩⟩,
  ⟨_,_,Js (st := J24) l10 c10 k10,⟨a10,i10,k10⟩⟩,
  ⟨_,_,Js (st := J27) l11 c11 k11,⟨a11,i11,k11⟩⟩,
  ⟨_,_,Js (st := J1e) l12 c12 k12,⟨a12,i12,k12⟩⟩,
  ⟨_,_,Js (st := J2s) l13 c13 k13,⟨a13,i13,k13⟩⟩,
  ⟨_,_,Js (st := J2u) l14 c14 k14,⟨a14,i14,k14⟩⟩,
  ⟨_,_,Js (st := J1E) l15 c15 k15,⟨a15,i15,k15⟩⟩,
  ⟨_,_,Js (st := J2U) l16 c16 k16,⟨a16,i16,k16⟩⟩,
  ⟨_,_,Js (st := J1F) l17 c17 k17,mg_of X G a17⟩,
  ⟨_,_,Js (st := J1B) l18 c18 k18,⟨a18,i18,k18⟩⟩,
  ⟨_,_,Js (st := J29) l19 c19 k19,⟨a19,i19,k19⟩⟩,
  ⟨_,_,Js (st := J1K) l20 c20 k20,⟨a20,i20,k20⟩⟩,
  ⟨_,_,Js (st := J2a) l21 c21 k21,mg_of X G a21⟩,
  ⟨_,_,Js (st := J28) l22 c22 k22,mg_of X G a22⟩,
  ⟨_,_,Js (st := J26) l23 c23 k23,⟨a23,i23,k23⟩⟩,
  ⟨_,_,Js (st := J1f) l24 c24 k24,⟨a24,i24,k24⟩⟩,
  ⟨_,_,Js (st := J2v) l25 c25 k25,⟨a25,i25,k25⟩⟩,
  ⟨_,_,Js (st := J1Z) l26 c26 k26,mg_of X G a26⟩,
  ⟨_,_,Js (st := J1i) l27 c27 k27,⟨a27,i27,k27⟩⟩,
  ⟨_,_,Js (st := J1I) l28 c28 k28,⟨a28,i28,k28⟩⟩,
  ⟨_,_,Js (st := J1A) l29 c29 k29,⟨a29,i29,k29⟩⟩,
  ⟨_,_,Js (st := J1r) l30 c30 k30,mg_of X G a30⟩,
  ⟨_,_,Js (st := J0x) l31 c31 k31,⟨a31,i31,k31⟩⟩,
  ⟨_,_,Js (st := J2r) l32 c32 k32,mg_of X G a32⟩,
  ⟨_,_,Js (st := J0z) l33 c33 k33,mg_of X G a33⟩,
  ⟨_,_,Js (st := J0C) l34 c34 k34,mg_of X G a34⟩,
  ⟨_,_,Js (st := J0T) l35 c35 k35,mg_of X G a35⟩,
  ⟨_,_,Js (st := J1a) l36 c36 k36,mg_of X G a36⟩,
  ⟨_,_,Js (st := JZ) l37 c37 k37,⟨a37,i37,k37⟩⟩,
  ⟨_,_,Js (st := J0U) l38 c38 k38,mg_of X G a38⟩,
  ⟨_,_,Js (st := J1h) l39 c39 k39,mg_of X G a39⟩,
  ⟨_,_,Js (st := J1g) l40 c40 k40,mg_of X G a40⟩,
  ⟨_,_,Js (st := J3s) l41 c41 k41,mg_of X G a41⟩,
  ⟨_,_,Js (st := J1b) l42 c42 k42,mg_of X G a42⟩,
  ⟨_,_,Js (st := J1C) l43 c43 k43,mg_of X G a43⟩,
  ⟨_,_,Js (st := J1w) l44 c44 k44,mg_of X G a44⟩,
  ⟨_,_,Js (st := J20) l45 c45 k45,mg_of X G a45⟩,
  ⟨_,_,Js (st := J21) l46 c46 k46,mg_of X G a46⟩,
  ⟨_,_,Js (st := J1c) l47 c47 k47,mg_of X G a47⟩,
  ⟨_,_,Js (st := JX) l48 c48 k48,mg_of X G a48⟩,
  ⟨_,_,Js (st := J1d) l49 c49 k49,mg_of X G a49⟩,
  ⟨_,_,Js (st := JM) l50 c50 k50,mg_of X G a50⟩,
  ⟨_,_,Js (st := J0h) l51 c51 k51,mg_of X G a51⟩,
  ⟨_,_,Js (st := J2t) l52 c52 k52,mg_of X G a52⟩,
  ⟨_,_,Js (st := J0i) l53 c53 k53,mg_of X G a53⟩,
  ⟨_,_,Js (st := J0g) l54 c54 k54,mg_of X G a54⟩,
  ⟨_,_,Js (st := J0G) l55 c55 k55,mg_of X G a55⟩,
  ⟨_,_,Js (st := J0H) l56 c56 k56,mg_of X G a56⟩,
  ⟨_,_,Js (st := J3n) l57 c57 k57,mg_of X G a57⟩,
  ⟨_,_,Js (st := J1u) l58 c58 k58,mg_of X G a58⟩,
  ⟨_,_,Js (st := J11) l59 c59 k59,mg_of X G a59⟩,
  ⟨_,_,Js (st := J1q) l60 c60 k60,mg_of X G a60⟩,
  ⟨_,_,Js (st := J1m) l61 c61 k61,mg_of X G a61⟩,
  ⟨_,_,Js (st := J3a) l62 c62 k62,mg_of X G a62⟩,
  ⟨⟨J4P,J54,J4W,J4M⟩,mg_of X G J8H,J6x,J6r⟩,
  ⟨⟨J67,J69,J6a,J65⟩,mg_of X G JaP,J8w,J8o⟩,
  ⟨⟨J4Y,J55,J56,J4Q⟩,mg_of X G J8g,J6A,J6E⟩,
  ⟨⟨J6d,J6e,J6c,J6b⟩,mg_of X G JaJ,J8k,J8h⟩,
  ⟨⟨J48,J4a,J4b,J49⟩,mg_of X G J6w,J5q,J5w⟩,
  ⟨⟨J8G,J8C,J8I,J8q⟩,mg_of X G JcB,JaH,JaM⟩,
  ⟨⟨J5x,J5r,J5z,J5u⟩,mg_of X G J6s,J5A,J5t⟩,
  ⟨⟨J6n,J6z,J6H,J6G⟩,mg_of X G J8F,J6L,J6J⟩,
  ⟨⟨J4P,J54,J4W,J4M⟩,J6u,yn,yt,J6N⟩,
  J2h,
  J1v,
  ⟨⟨J67,J69,J6a,J65⟩,J8a,yn,yt,J8d⟩,
  J2J,
  J1U,
  ⟨⟨J4Y,J55,J56,J4Q⟩,J6q,yn,yt,J6o⟩,
  J2e,
  J1t,
  ⟨⟨J6d,J6e,J6c,J6b⟩,J89,yn,yt,J8t⟩,
  J2I,
  J1S,
  ⟨⟨J48,J4a,J4b,J49⟩,J5s,yn,yt,J5v⟩,
  J1V,
  J19,
  ⟨⟨J8G,J8C,J8I,J8q⟩,JaE,yn,yt,JaR⟩,
  J31,
  J2j,
  J1x,
  J14,
  J0S,
  J0A,
  J0M,
  J0v,
  J0u,
  JJ,
  J0s,
  J0y,
  J0t,
  J0w,
  J13,
  J0R,
  J0N,
  J1n,
  J12,
  J1k,
  J0p,
  J1p,
  Jy,
  J04,
  J0r,
  J08,
  J0d,
  mg_none_of X G J9A,
  mg_none_of X G J9T,
  mg_none_of X G J0Y,
  mg_none_of X G J0K,
  mg_none_of X G J0c,
  mg_none_of X G J2M,
  mg_none_of X G J9M,
  mg_none_of X G J9t,
  mg_none_of X G JY,
  mg_none_of X G J4q,
  ⟨_,mg_of X G J2f⟩⟩
 refine ⟨fnOf "law" "law" (Jm J3a) (Jk J3a) (J4 J3a) .none kV62 dc62 pm62 an62 cd62 ct62,fun s v => .of_eq rfl,fun base _ _ => ?_⟩
 exact JfJ T (Js (st := J3a) l62 c62 k62)
theorem walk {l : PySem.W.OpenLaw} {q : Program} {loose : List Str} {XP : (Str → Option Value) → Heap → Prop} {YP : World → Heap → Prop} {d : DefRec} {K : Params → PySem.W.Frag} (hn : l.most = some 63) (hdf : d.params.defaults = [])
  (hY : ∀ (w : World) (h : Heap),YP w h → (K w.params).In h)
  (F : ∀ (w : World) (mg : Str → Option Value) (fa : Addr) (h : Heap),(K w.params).In h → h.Ns mainGlobals mg → mg d.name = some (.ref fa) →
   ∃ fd : FuncData,(∀ (s : Shared) (u : Value),BindsTo s fd ⟨[u],[]⟩ [("_law_script",u)]) ∧ ∀ base : Heap,(K w.params).In base → base.Ns mainGlobals mg → FnOk l.prog w (K w.params) mg base CX0 60 fa fd ["_law_script"] (sp_law (K w.params))) :
  PySem.W.WalkO q loose XP YP l.row.toRowW d [] (fun f vs => PySem.call f vs) :=
 L2.walk_of (n := 63) (k := 60) (x := "_law_script") (CX := fun _ => CX0) (sp := fun w => sp_law (K w.params)) hn (by decide) hdf ⟨rfl,by decide,by decide⟩ hY F (fun _ _ a ns hl _ hS => ⟨a,ns,rfl,hS,hl,fun _ => rfl⟩) fun _ _ _ _ _ z => z
theorem walkX {q : Program} {loose : List Str} {XP : (Str → Option Value) → Heap → Prop} {K : Params → PySem.W.Frag} {as : List Addr} {n t : Nat} {r : PySem.W.RowW} {d : DefRec} {kwd : List (Str × Expr)} {run : Value → List Value → Sem Value} (e : ∀ P,as = (K P).map (·.1))
  (h : PySem.W.WalkO q loose XP (fun w hp => (K w.params).In hp) r d kwd run) : PySem.W.WalkX q loose XP (PySem.W.X.obsZ as) (PySem.W.X.valZ K n t) r d kwd run := by
 intro w s₀ s₁ mg mb G Y a o pm cd doc dV kV h1 h2 h3 h4 h5 h6 args vals as' L p1 p2 p3 p4 p5
 exact h w s₀ s₁ mg mb G (PySem.W.InK.keeps w _ _ (PySem.W.X.z_facts e Y).2.1 L.keeps) a o pm cd doc dV kV h1 h2 h3 h4 h5 h6 args vals as' p1 p2 p3 p4 p5
end K72
namespace PySem.W.Fast
def tw8184348796248471678:=()
def tw9948426554712595680:=()
def tw455749846588210706:=()
def tw4154798265320876233:=()
def tw15886687529040759593:=()
def tw6006753555437102281:=()
def tw17249214975522796008:=()
def tw3160629626967595039:=()
def tw10766172513518579468:=()
def tw16715681640995999578:=()
def tw17001892552097230091:=()
def tw1565462378677198251:=()
def tw17929617272644810169:=()
def tw10673423788733403935:=()
def tw6061142609029343460:=()
def tw11672140624154066169:=()
def tw6842664839544389053:=()
def tw15597252791975272106:=()
def tw16144689905104091422:=()
def tw12705077747606649762:=()
def tw17774350294918532146:=()
def tw4269327308831504999:=()
def tw12443533042624840763:=()
def tw17429863824647533169:=()
def tw16245896478530871338:=()
def tw3730791229347559749:=()
def tw6060944487101347150:=()
def tw5107008659099156237:=()
def tw3578236042479361787:=()
def tw358143749036216078:=()
def tw4134187494529920689:=()
def tw17582739836067673924:=()
def tw2097227274052662250:=()
def tw1419785285539167776:=()
def tw5508612990915493301:=()
def tw657434364462994816:=()
def tw2066280774514799683:=()
def tw10903531717246894868:=()
def tw11711074972577826079:=()
def tw7095452033225851791:=()
def tw2906701029187940523:=()
def tw10316832874208896929:=()
def tw15530081072364266516:=()
def tw1079671560065279175:=()
def tw5042698489421720357:=()
def tw13887378304988424989:=()
def tw13046903759850953979:=()
def tw14318369345137305974:=()
def tw4089594169546165659:=()
def tw9581872196374645512:=()
def tw3967317132286395429:=()
def tw6324931973279017046:=()
def tw11951326192850888127:=()
def tw15160790506462700560:=()
def tw11780594095346270591:=()
def tw13300368254324381855:=()
def tw12557629564232734425:=()
def tw17919685266734036821:=()
def tw7476185834724083611:=()
def tw4101317965522248665:=()
def tw7506156412008271495:=()
def tw1348955891940488448:=()
def tw4065258999685807752:=()
def tw6182434755859918237:=()
def tw1934363492532560558:=()
def tw13716334828776389993:=()
def tw10689805395221691698:=()
def tw17551327007981581513:=()
def tw5854334831823093003:=()
def tw14838465013879000730:=()
def tw13825789767727932486:=()
def tw6590151578148469246:=()
def tw2258978431852032457:=()
def tw15905932914494794819:=()
def tw1689143330104376658:=()
def tw13157733684835707841:=()
def tw2741314086822503092:=()
def tw10295405201217118894:=()
def tw6889346421574095136:=()
def tw12367535347864448970:=()
def tw7757261959157013607:=()
def tw13920104881317842853:=()
def tw17126221431718201123:=()
def tw265846257126240109:=()
def tw498445276801738716:=()
def tw1516079914562781876:=()
def tw16141504671118746444:=()
def tw3223743463330048769:=()
def tw14760609942429531789:=()
def tw6197488545870526047:=()
def tw973152063039624967:=()
def tw14855188326322999442:=()
def tw11353362153691877619:=()
def tw5986190773598936433:=()
def tw12038247459835901914:=()
def tw7333474428040837715:=()
def tw14514662242021637169:=()
def tw9252228857518763817:=()
def tw15156238768512661665:=()
def tw5057451312723471114:=()
def tw2296278300490806355:=()
def tw1205679885935482312:=()
def tw10844962143134206042:=()
def tw12044539089604184079:=()
def tw14475145757347497144:=()
def tw2286083191354025812:=()
def tw4695069324024508544:=()
def tw3964474938503177358:=()
def tw9920037811908155362:=()
def tw922348224865591446:=()
def tw7645177788362165811:=()
def tw15529132803202639169:=()
def tw8683280528829388509:=()
def tw15673726488859798382:=()
def tw8493994029507390946:=()
def tw7834627440021931916:=()
def tw16196354541434209476:=()
def tw4311204814712762832:=()
def tw9384209523582015631:=()
def tw1615711134961700060:=()
def tw2528577575565625165:=()
def tw6282474630140464387:=()
def tw9248798115090794221:=()
def tw11416056580236694870:=()
def tw9820750774849783134:=()
def tw6037974055998215822:=()
def tw6598992499457489059:=()
def tw10210857837450343944:=()
def tw18348097863224929289:=()
def tw9452088688988404333:=()
def tw16441823322076413139:=()
def tw2161500697580488620:=()
def tw14013397064774515004:=()
def tw16032850886023446163:=()
def tw11272907562885562159:=()
def tw7839607589168108945:=()
def tw15498377740217985199:=()
def tw3816532359910907847:=()
def tw12507591083396621642:=()
def tw1132556407620649680:=()
def tw7193995979471626518:=()
def tw5150978166876340518:=()
def tw16339564697986311423:=()
def tw17188626068539098998:=()
def tw3994661435942744748:=()
def tw5842982694938792553:=()
def tw2146754697051314587:=()
def tw18139414300166112735:=()
def tw9653789785493945944:=()
def tw5833274916046749297:=()
def tw16865667066892954499:=()
def tw8555195714407923706:=()
def tw15775953851508388417:=()
def tw6017341321570928957:=()
def tw18421860081438181924:=()
def tw8118275100370317139:=()
def tw9905374194526342804:=()
def tw15245084201687783845:=()
def tw3701493233207173288:=()
def tw417626857811045670:=()
def tw15650936134973853937:=()
def tw3875565375740828700:=()
def tw17547281655286151673:=()
def tw5117227165736882094:=()
def tw10411209115666015235:=()
def tw7498298231589266637:=()
def tw3502949099103515957:=()
def tw10673154715757613491:=()
def tw11688802707210874630:=()
def tw4923231326210868798:=()
def tw16474708152158978329:=()
def tw1065954507327349581:=()
def tw9683291792985001391:=()
def tw8161294934222778611:=()
def tw7660843820249018802:=()
def tw3899417645581054825:=()
def tw9890356848274309327:=()
def tw4449424806653914629:=()
def tw390920437858307061:=()
def tw6312681218432536837:=()
def tw15596156720656243229:=()
def tw7972141137824293587:=()
def tw9450377105537550227:=()
def tw2602399296745162757:=()
def tw12041772920841773292:=()
def tw5949282074766014794:=()
def tw478742108097396950:=()
def tw7420463752266770720:=()
def tw7546349610434533970:=()
def tw6807214786400756801:=()
def tw504223135781826322:=()
def tw13245171751563388833:=()
def tw8825694856864468002:=()
def tw17546715559673689266:=()
def tw667227400299633459:=()
def tw729970184824082242:=()
def tw18200463480893091632:=()
def tw12344662681436427209:=()
def tw12779119362997075587:=()
def tw13130605964329665983:=()
def tw13730918536444149827:=()
def tw8732794923558218669:=()
def tw8098723517166849679:=()
def tw16036823483920179257:=()
def tw2151600545916441089:=()
def tw4697449652485782460:=()
def tw8622582855683267287:=()
def tw11448692868833793143:=()
def tw14314813559339127418:=()
def tw17059971139168385953:=()
def tw6761850947595442673:=()
def tw9615157407778847807:=()
def tw2033799659711685197:=()
def tw8391603217879290323:=()
def tw15523664825162420308:=()
def tw8185146208695448008:=()
def tw15175343993782061442:=()
def tw5188951540432393963:=()
def tw12681411730098201398:=()
def tw3537228575748483578:=()
def tw7676982265551863827:=()
def tw16274208282839351298:=()
def tw3685685403500895746:=()
def tw3662829975581591470:=()
def tw17710055481060921814:=()
def tw5863769242710750892:=()
def tw920992792852701248:=()
def tw5359738667938183872:=()
def tw17900189993865721400:=()
def tw1436054531300394029:=()
def tw5413518609972770015:=()
def tw16101430863133939638:=()
def tw10407132437002060150:=()
def tw16212837679084086147:=()
def tw10129559837395531336:=()
def tw16893946401621621311:=()
def tw14914490696042536848:=()
def tw15684239037118549634:=()
def tw7781550560918360992:=()
def tw14395625447485805966:=()
def tw10250050085517556713:=()
def tw13857806468739368147:=()
def tw5669623412300995669:=()
def tw12128951082759884115:=()
def tw16350688662969630641:=()
def tw9570497277470405239:=()
def tw5041166738877920599:=()
def tw922432220239743259:=()
def tw2907812573796852789:=()
def tw3329331765510935449:=()
def tw7486916178348447340:=()
def tw16616675043030412062:=()
def tw13156860738145547294:=()
def tw14913399065189234137:=()
def tw13201552409877086061:=()
def tw9435456808496914532:=()
def tw5003370903209011716:=()
def tw8239825043858432081:=()
def tw465038078369229017:=()
def tw10641116224696761796:=()
def tw579443844561196591:=()
def tw12143315220474885963:=()
def tw13601958341223736706:=()
def tw10311478067142717918:=()
def tw12369812234099974803:=()
def tw6122061776080960087:=()
def tw5271099664940193826:=()
def tw2564244650897066116:=()
def tw15209017761881403893:=()
def tw16321809913462424656:=()
def tw1906854325314924634:=()
def tw14400990924430451030:=()
def tw5530817321649055768:=()
def tw10831179440052407751:=()
def tw15847595357708803173:=()
def tw2553712224610972185:=()
def tw18394468944540908516:=()
def tw959497681286225025:=()
def tw12196248425945359398:=()
def tw16233246538580912091:=()
def tw15057500397322702205:=()
def tw14332719779694303875:=()
def tw3818988286724086789:=()
def tw8780865443078901674:=()
def tw1096401392589340481:=()
def tw15591593813987992078:=()
def tw1385317793188502010:=()
def tw9179722189978104844:=()
def tw5439812556650522256:=()
def tw18328953043409239455:=()
def tw9460859155376723811:=()
def tw7163570828629197865:=()
def tw4921836297297142613:=()
def tw17254033485309675001:=()
def tw2507860959069619619:=()
def tw7244028441842120983:=()
def tw12799548395757070366:=()
def tw17564372784237934135:=()
def tw2856640592636086112:=()
def tw1670475283656614286:=()
def tw5195186463293604022:=()
def tw12260270651102992953:=()
def tw4496623881698068665:=()
def tw2104793515896562825:=()
def tw5267619624012225978:=()
def tw1547736818768841940:=()
def tw11372290909670229880:=()
def tw15249364773093865209:=()
def tw16992379650880207557:=()
def tw14117020963605646618:=()
def tw13255169900295757787:=()
def tw4273819810041971542:=()
def tw14137310715767004469:=()
def tw14747331780555600421:=()
def tw12741450754866902219:=()
def tw18402568488453930557:=()
def tw353750822463685705:=()
def tw16836628060551091727:=()
def tw8464996067757614892:=()
def tw16619756889716427738:=()
def tw3319053599461192575:=()
def tw4835866894162877285:=()
def tw17495924285334895211:=()
def tw6047843438782618667:=()
def tw7851039237087750190:=()
def tw4552446024984673496:=()
def tw16952007006331111044:=()
def tw8468158630331023069:=()
def tw9901891219283514062:=()
def tw3165909268690934895:=()
def tw18245286438314742744:=()
def tw9647171744904507855:=()
def tw11163720446505082217:=()
def tw4429989198331853197:=()
def tw4699115061414249368:=()
def tw13994901527066665421:=()
def tw8814521459297119515:=()
def tw10353503861028660781:=()
def tw9790267750009886693:=()
def tw11652830231968022998:=()
def tw8145897512124566413:=()
def tw14330384129694693375:=()
def tw16643871965878110153:=()
def tw13963575048067552183:=()
def tw16454422848829702485:=()
def tw11060233345493250748:=()
def tw1101904745316791793:=()
def tw13976841778282756038:=()
def tw4809579639251256143:=()
def tw11774321059150539366:=()
def tw15158177064968695719:=()
def tw14890327453818363510:=()
def tw14214476311866953922:=()
def tw6185079709618779379:=()
def tw1090323536198243511:=()
def tw10713754458014314750:=()
def tw985343733587704761:=()
def tw9105411434900322247:=()
def tw6663791141104608411:=()
def tw4009705663956411561:=()
def tw3509385843522420027:=()
def tw13190940377640371848:=()
def tw7306129456143962105:=()
def tw12795388236105738176:=()
def tw2920308427566530794:=()
def tw7460944949857041642:=()
def tw13479240647002478430:=()
def tw9278698110819089927:=()
def tw11820183579078511554:=()
def tw18162796304764113341:=()
def tw15119345927975594608:=()
def tw2506994911503542604:=()
def tw15121068470668638793:=()
def tw13157146889979885546:=()
def tw13313890591873744000:=()
def tw4991643609809140879:=()
def tw10170446407667270812:=()
def tw5381096751183883540:=()
def tw15747812530872589786:=()
def tw10322059639598258685:=()
def tw8830138677901832302:=()
def tw1975459968181413378:=()
def tw4352925235705543971:=()
def tw2640085840731069060:=()
def tw10323567997702103746:=()
def tw2603015356932371623:=()
def tw9709847179122676411:=()
def tw6672275817678406124:=()
def tw15412578410272138264:=()
def tw6851687607303313608:=()
def tw12231052712291331762:=()
def tw10423741945241387891:=()
def tw9368250301149716311:=()
def tw8996704086112159769:=()
def tw1786280001349477181:=()
def tw1768339326979683483:=()
def tw3522939962954405369:=()
def tw6896109947415713885:=()
def tw1664177498144266304:=()
def tw5852016762497584273:=()
def tw11603525499036314935:=()
def tw3785220055125174438:=()
def tw2588548075783660465:=()
def tw4836088990508104511:=()
def tw18356548064013940016:=()
def tw6041638668667313550:=()
def tw7939478741080010553:=()
def tw11107807581978634094:=()
def tw18136358279211509406:=()
def tw3460600710286187107:=()
def tw15339551226021029825:=()
def tw13847386718188798840:=()
def tw7702318565936049943:=()
def tw6433046888579313825:=()
def tw17641612534583312941:=()
def tw13990581031257632388:=()
def tw15821720638952268788:=()
def tw11660214054993042309:=()
def tw1000642090909716151:=()
def tw13442773960268743888:=()
def tw15842412324740073091:=()
def tw7701844962128487132:=()
def tw11461555042019096660:=()
def tw9970817034577438589:=()
def tw5428537888434259517:=()
def tw6830720234528993524:=()
def tw8382109883496236059:=()
def tw15976112585069828326:=()
def tw10952672070841482976:=()
def tw18267690488800466011:=()
def tw6672466994039745100:=()
def tw16114288114458254055:=()
def tw11643063846157911678:=()
def tw12359338381625532461:=()
def tw11856516168733721608:=()
def tw1166374695551213334:=()
def tw11637916776547233698:=()
def tw14690087838248721270:=()
def tw18426638629549825569:=()
def tw6926704063123455141:=()
def tw4148439127173386599:=()
def tw8302772393177276127:=()
def tw3287664382263537094:=()
def tw6889523137981483111:=()
def tw9120895210260947954:=()
def tw7646151285855802842:=()
def tw16874027863886514811:=()
def tw7596583248721327229:=()
def tw17273041372810991667:=()
def tw15084123653112499495:=()
def tw8695896158490470835:=()
def tw4736889864238025219:=()
def tw27470881702416037:=()
def tw9522467968319102314:=()
def tw17857877180997392854:=()
def tw12089662192291953821:=()
def tw1305765573411807442:=()
def tw1997420955687081611:=()
def tw2192150578692663487:=()
def tw8829764257490117423:=()
def tw16365797961482220708:=()
def tw8603523673751994521:=()
def tw4116911469172069037:=()
def tw8607645672275627538:=()
def tw729377649384235445:=()
def tw16220725796102015735:=()
def tw8725816516582090646:=()
def tw7470414678967878784:=()
def tw14520801911752834293:=()
def tw12141957582524948021:=()
def tw9622991341740729395:=()
def tw10280564760156527905:=()
def tw6648969817325813643:=()
def tw9527924256942655800:=()
def tw11869019092673367857:=()
def tw15008209307910024461:=()
def tw8638748820194330187:=()
def tw17857918523613843290:=()
def tw7841077253824472413:=()
def tw559868835625788518:=()
def tw2596010752173445101:=()
def tw3628548616116960319:=()
def tw12325736009242512090:=()
def tw4186787013862551955:=()
def tw8745913639959651045:=()
def tw8368725587873908534:=()
def tw6916715466526392776:=()
def tw11803744424979138952:=()
def tw5364019203683273091:=()
def tw8294407195806915342:=()
def tw13699111896498196230:=()
def tw15193880453622231249:=()
def tw8920364957045733381:=()
def tw11444862446021709995:=()
def tw3359432921378381967:=()
def tw13950851068943099703:=()
def tw17705828118224107601:=()
def tw6092934228541012954:=()
def tw4520871829582564751:=()
def tw13219687269062650855:=()
def tw12062557471175218101:=()
def tw8457317575652118561:=()
def tw4505000233170008556:=()
def tw9993263887010002319:=()
def tw5899133774003125925:=()
def tw2732147703064268191:=()
def tw4010269203362977440:=()
def tw9859146171957476541:=()
def tw11441075006765823816:=()
def tw7230273286816844314:=()
def tw8965312339615448953:=()
def tw15403776603086516702:=()
def tw8180714309807764881:=()
def tw1927661828174312089:=()
def tw2827704606388769700:=()
def tw13605094846312130955:=()
def tw18347791070645221549:=()
def tw13857293357515794750:=()
def tw2745955648066100335:=()
def tw9576371369761585451:=()
def tw921597916985314525:=()
def tw15929699986589504423:=()
def tw5217210353180455513:=()
def tw14242651771310987007:=()
def tw10357895472385341732:=()
def tw5458400042272154944:=()
def tw15640511984427262831:=()
def tw11134862643558245696:=()
def tw7606277991422003404:=()
def tw2811480708931599326:=()
def tw11163752628553058306:=()
def tw14326823942044331151:=()
def tw15564471863213116156:=()
def tw8981925982362471093:=()
def tw13360341348305020255:=()
def tw9951235025925317802:=()
def tw9009009366723692043:=()
def tw1070312472607065627:=()
def tw8120535025079166902:=()
def tw9172487191376623522:=()
def tw2300330600368826441:=()
def tw5556915263644355943:=()
def tw17163102295055896121:=()
def tw14038657764773991165:=()
def tw16899322349161454132:=()
def tw12851516929590294935:=()
def tw67509865624239056:=()
def tw14343787308259704792:=()
def tw7719407281271328010:=()
def tw15954274660775986856:=()
def tw6658396525785994199:=()
def tw12584437057640435692:=()
def tw2763190882846594779:=()
def tw12249588739758338648:=()
def tw12422235970834290002:=()
def tw12020490259753925115:=()
def tw15755892052394098586:=()
def tw1080776786122030065:=()
def tw7353706127498370743:=()
def tw14449653752326524725:=()
def tw11989335701348834359:=()
def tw8087247306939998732:=()
def tw2330098210211703189:=()
def tw2449959546028937708:=()
def tw11200850482017135794:=()
def tw18345559589315405467:=()
def tw566536771834501756:=()
def tw2964228613547117623:=()
def tw10064147683427814347:=()
def tw18098596344311194389:=()
def tw9258361059613753714:=()
def tw13252120335468173038:=()
def tw13341103460579160983:=()
def tw12057158347000252851:=()
def tw18067769409001666578:=()
def tw16571875526797553569:=()
def tw16926178874813018761:=()
def tw16157391330143891314:=()
def tw11081173896280165789:=()
def tw11042528416728035614:=()
def tw17544518938467596813:=()
def tw3956862384821199033:=()
def tw4804296382069306585:=()
def tw5728933316534714521:=()
def tw4850899539525823605:=()
def tw137625073553191402:=()
def tw3065395418509568197:=()
def tw10674333743436813616:=()
def tw2485924053965265975:=()
def tw2331975105611576384:=()
def tw6616070508763882977:=()
def tw7366654294586148179:=()
def tw2802321415832811547:=()
end PySem.W.Fast
open PySem PySem.W PyProof.Rows
set_option maxRecDepth 100000 in
set_option maxHeartbeats 0 in
theorem PySem.Challenge.cw_rotafair_k72_what_rests_holds : PySem.Challenge.rw_rotafair_k72_what_rests.Holds := by
 w_on; o_law; z_head; (case hw => w_witness2)
 k_fill
 refine K72.walkX (fun _ => rfl) ?_
 refine K72.walk (l := PySem.Challenge.rw_rotafair_k72_what_rests) rfl rfl (fun w h Y => Y) ?F
 case F =>
  intro w mg fa h KX G hmg
  refine' K72.all_mk KX G hmg ?J8H ?JaP ?J8g ?JaJ ?J6w ?JcB ?J6s ?J8F ?a1 ?l1 ?c1 ?k1 ?a2 ?l2 ?c2 ?k2 ?a3 ?l3 ?c3 ?k3 ?a4 ?l4 ?c4 ?k4 ?a5 ?i5 ?l5 ?c5 ?k5 ?a6 ?i6 ?l6 ?c6 ?k6 ?a7 ?i7 ?l7 ?c7 ?k7 ?a8 ?i8 ?l8 ?c8 ?k8 ?a9 ?i9 ?l9 ?c9 ?k9 ?a10 ?i10 ?l10 ?c10 ?k10 ?a11 ?i11 ?l11 ?c11 ?k11 ?a12 ?i12 ?l12 ?c12 ?k12 ?a13 ?i13 ?l13 ?c13 ?k13 ?a14 ?i14 ?l14 ?c14 ?k14 ?a15 ?i15 ?l15 ?c15 ?k15 ?a16 ?i16 ?l16 ?c16 ?k16 ?a17 ?l17 ?c17 ?k17 ?a18 ?i18 ?l18 ?c18 ?k18 ?a19 ?i19 ?l19 ?c19 ?k19 ?a20 ?i20 ?l20 ?c20 ?k20 ?a21 ?l21 ?c21 ?k21 ?a22 ?l22 ?c22 ?k22 ?a23 ?i23 ?l23 ?c23 ?k23 ?a24 ?i24 ?l24 ?c24 ?k24 ?a25 ?i25 ?l25 ?c25 ?k25 ?a26 ?l26 ?c26 ?k26 ?a27 ?i27 ?l27 ?c27 ?k27 ?a28 ?i28 ?l28 ?c28 ?k28 ?a29 ?i29 ?l29 ?c29 ?k29 ?a30 ?l30 ?c30 ?k30 ?a31 ?i31 ?l31 ?c31 ?k31 ?a32 ?l32 ?c32 ?k32 ?a33 ?l33 ?c33 ?k33 ?a34 ?l34 ?c34 ?k34 ?a35 ?l35 ?c35 ?k35 ?a36 ?l36 ?c36 ?k36 ?a37 ?i37 ?l37 ?c37 ?k37 ?a38 ?l38 ?c38 ?k38 ?a39 ?l39 ?c39 ?k39 ?a40 ?l40 ?c40 ?k40 ?a41 ?l41 ?c41 ?k41 ?a42 ?l42 ?c42 ?k42 ?a43 ?l43 ?c43 ?k43 ?a44 ?l44 ?c44 ?k44 ?a45 ?l45 ?c45 ?k45 ?a46 ?l46 ?c46 ?k46 ?a47 ?l47 ?c47 ?k47 ?a48 ?l48 ?c48 ?k48 ?a49 ?l49 ?c49 ?k49 ?a50 ?l50 ?c50 ?k50 ?a51 ?l51 ?c51 ?k51 ?a52 ?l52 ?c52 ?k52 ?a53 ?l53 ?c53 ?k53 ?a54 ?l54 ?c54 ?k54 ?a55 ?l55 ?c55 ?k55 ?a56 ?l56 ?c56 ?k56 ?a57 ?l57 ?c57 ?k57 ?a58 ?l58 ?c58 ?k58 ?a59 ?l59 ?c59 ?k59 ?a60 ?l60 ?c60 ?k60 ?a61 ?l61 ?c61 ?k61 ?a62 ?l62 ?c62 ?k62 ?J4P ?J54 ?J4W ?J4M ?J6x ?J6r ?J67 ?J69 ?J6a ?J65 ?J8w ?J8o ?J4Y ?J55 ?J56 ?J4Q ?J6A ?J6E ?J6d ?J6e ?J6c ?J6b ?J8k ?J8h ?J48 ?J4a ?J4b ?J49 ?J5q ?J5w ?J8G ?J8C ?J8I ?J8q ?JaH ?JaM ?J5x ?J5r ?J5z ?J5u ?J5A ?J5t ?J6n ?J6z ?J6H ?J6G ?J6L ?J6J ?yn ?yt ?J6u ?J6N ?J2h ?J1v ?J8a ?J8d ?J2J ?J1U ?J6q ?J6o ?J2e ?J1t ?J89 ?J8t ?J2I ?J1S ?J5s ?J5v ?J1V ?J19 ?JaE ?JaR ?J31 ?J2j ?J1x ?J14 ?J0S ?J0A ?J0M ?J0v ?J0u ?JJ ?J0s ?J0y ?J0t ?J0w ?J13 ?J0R ?J0N ?J1n ?J12 ?J1k ?J0p ?J1p ?Jy ?J04 ?J0r ?J08 ?J0d ?J9A ?J9T ?J0Y ?J0K ?J0c ?J2M ?J9M ?J9t ?JY ?J4q ?J2f
  (case J8H => k_is)
  (case JaP => k_is)
  (case J8g => k_is)
  (case JaJ => k_is)
  (case J6w => k_is)
  (case JcB => k_is)
  (case J6s => k_is)
  (case J8F => k_is)
  (case a1 => k_is)
  (case l1 => k_is)
  (case c1 => k_is)
  (case k1 => k_is)
  (case a2 => k_is)
  (case l2 => k_is)
  (case c2 => k_is)
  (case k2 => k_is)
  (case a3 => k_is)
  (case l3 => k_is)
  (case c3 => k_is)
  (case k3 => k_is)
  (case a4 => k_is)
  (case l4 => k_is)
  (case c4 => k_is)
  (case k4 => k_is)
  (case a5 => k_is)
  (case i5 => k_is)
  (case l5 => k_is)
  (case c5 => k_is)
  (case k5 => k_is)
  (case a6 => k_is)
  (case i6 => k_is)
  (case l6 => k_is)
  (case c6 => k_is)
  (case k6 => k_is)
  (case a7 => k_is)
  (case i7 => k_is)
  (case l7 => k_is)
  (case c7 => k_is)
  (case k7 => k_is)
  (case a8 => k_is)
  (case i8 => k_is)
  (case l8 => k_is)
  (case c8 => k_is)
  (case k8 => k_is)
  (case a9 => k_is)
  (case i9 => k_is)
  (case l9 => k_is)
  (case c9 => k_is)
  (case k9 => k_is)
  (case a10 => k_is)
  (case i10 => k_is)
  (case l10 => k_is)
  (case c10 => k_is)
  (case k10 => k_is)
  (case a11 => k_is)
  (case i11 => k_is)
  (case l11 => k_is)
  (case c11 => k_is)
  (case k11 => k_is)
  (case a12 => k_is)
  (case i12 => k_is)
  (case l12 => k_is)
  (case c12 => k_is)
  (case k12 => k_is)
  (case a13 => k_is)
  (case i13 => k_is)
  (case l13 => k_is)
  (case c13 => k_is)
  (case k13 => k_is)
  (case a14 => k_is)
  (case i14 => k_is)
  (case l14 => k_is)
  (case c14 => k_is)
  (case k14 => k_is)
  (case a15 => k_is)
  (case i15 => k_is)
  (case l15 => k_is)
  (case c15 => k_is)
  (case k15 => k_is)
  (case a16 => k_is)
  (case i16 => k_is)
  (case l16 => k_is)
  (case c16 => k_is)
  (case k16 => k_is)
  (case a17 => k_is)
  (case l17 => k_is)
  (case c17 => k_is)
  (case k17 => k_is)
  (case a18 => k_is)
  (case i18 => k_is)
  (case l18 => k_is)
  (case c18 => k_is)
  (case k18 => k_is)
  (case a19 => k_is)
  (case i19 => k_is)
  (case l19 => k_is)
  (case c19 => k_is)
  (case k19 => k_is)
  (case a20 => k_is)
  (case i20 => k_is)
  (case l20 => k_is)
  (case c20 => k_is)
  (case k20 => k_is)
  (case a21 => k_is)
  (case l21 => k_is)
  (case c21 => k_is)
  (case k21 => k_is)
  (case a22 => k_is)
  (case l22 => k_is)
  (case c22 => k_is)
  (case k22 => k_is)
  (case a23 => k_is)
  (case i23 => k_is)
  (case l23 => k_is)
  (case c23 => k_is)
  (case k23 => k_is)
  (case a24 => k_is)
  (case i24 => k_is)
  (case l24 => k_is)
  (case c24 => k_is)
  (case k24 => k_is)
  (case a25 => k_is)
  (case i25 => k_is)
  (case l25 => k_is)
  (case c25 => k_is)
  (case k25 => k_is)
  (case a26 => k_is)
  (case l26 => k_is)
  (case c26 => k_is)
  (case k26 => k_is)
  (case a27 => k_is)
  (case i27 => k_is)
  (case l27 => k_is)
  (case c27 => k_is)
  (case k27 => k_is)
  (case a28 => k_is)
  (case i28 => k_is)
  (case l28 => k_is)
  (case c28 => k_is)
  (case k28 => k_is)
  (case a29 => k_is)
  (case i29 => k_is)
  (case l29 => k_is)
  (case c29 => k_is)
  (case k29 => k_is)
  (case a30 => k_is)
  (case l30 => k_is)
  (case c30 => k_is)
  (case k30 => k_is)
  (case a31 => k_is)
  (case i31 => k_is)
  (case l31 => k_is)
  (case c31 => k_is)
  (case k31 => k_is)
  (case a32 => k_is)
  (case l32 => k_is)
  (case c32 => k_is)
  (case k32 => k_is)
  (case a33 => k_is)
  (case l33 => k_is)
  (case c33 => k_is)
  (case k33 => k_is)
  (case a34 => k_is)
  (case l34 => k_is)
  (case c34 => k_is)
  (case k34 => k_is)
  (case a35 => k_is)
  (case l35 => k_is)
  (case c35 => k_is)
  (case k35 => k_is)
  (case a36 => k_is)
  (case l36 => k_is)
  (case c36 => k_is)
  (case k36 => k_is)
  (case a37 => k_is)
  (case i37 => k_is)
  (case l37 => k_is)
  (case c37 => k_is)
  (case k37 => k_is)
  (case a38 => k_is)
  (case l38 => k_is)
  (case c38 => k_is)
  (case k38 => k_is)
  (case a39 => k_is)
  (case l39 => k_is)
  (case c39 => k_is)
  (case k39 => k_is)
  (case a40 => k_is)
  (case l40 => k_is)
  (case c40 => k_is)
  (case k40 => k_is)
  (case a41 => k_is)
  (case l41 => k_is)
  (case c41 => k_is)
  (case k41 => k_is)
  (case a42 => k_is)
  (case l42 => k_is)
  (case c42 => k_is)
  (case k42 => k_is)
  (case a43 => k_is)
  (case l43 => k_is)
  (case c43 => k_is)
  (case k43 => k_is)
  (case a44 => k_is)
  (case l44 => k_is)
  (case c44 => k_is)
  (case k44 => k_is)
  (case a45 => k_is)
  (case l45 => k_is)
  (case c45 => k_is)
  (case k45 => k_is)
  (case a46 => k_is)
  (case l46 => k_is)
  (case c46 => k_is)
  (case k46 => k_is)
  (case a47 => k_is)
  (case l47 => k_is)
  (case c47 => k_is)
  (case k47 => k_is)
  (case a48 => k_is)
  (case l48 => k_is)
  (case c48 => k_is)
  (case k48 => k_is)
  (case a49 => k_is)
  (case l49 => k_is)
  (case c49 => k_is)
  (case k49 => k_is)
  (case a50 => k_is)
  (case l50 => k_is)
  (case c50 => k_is)
  (case k50 => k_is)
  (case a51 => k_is)
  (case l51 => k_is)
  (case c51 => k_is)
  (case k51 => k_is)
  (case a52 => k_is)
  (case l52 => k_is)
  (case c52 => k_is)
  (case k52 => k_is)
  (case a53 => k_is)
  (case l53 => k_is)
  (case c53 => k_is)
  (case k53 => k_is)
  (case a54 => k_is)
  (case l54 => k_is)
  (case c54 => k_is)
  (case k54 => k_is)
  (case a55 => k_is)
  (case l55 => k_is)
  (case c55 => k_is)
  (case k55 => k_is)
  (case a56 => k_is)
  (case l56 => k_is)
  (case c56 => k_is)
  (case k56 => k_is)
  (case a57 => k_is)
  (case l57 => k_is)
  (case c57 => k_is)
  (case k57 => k_is)
  (case a58 => k_is)
  (case l58 => k_is)
  (case c58 => k_is)
  (case k58 => k_is)
  (case a59 => k_is)
  (case l59 => k_is)
  (case c59 => k_is)
  (case k59 => k_is)
  (case a60 => k_is)
  (case l60 => k_is)
  (case c60 => k_is)
  (case k60 => k_is)
  (case a61 => k_is)
  (case l61 => k_is)
  (case c61 => k_is)
  (case k61 => k_is)
  (case a62 => k_is)
  (case l62 => k_is)
  (case c62 => k_is)
  (case k62 => k_is)
  (case J4P => k_is)
  (case J54 => k_is)
  (case J4W => k_is)
  (case J4M => k_is)
  (case J6x => k_is)
  (case J6r => k_is)
  (case J67 => k_is)
  (case J69 => k_is)
  (case J6a => k_is)
  (case J65 => k_is)
  (case J8w => k_is)
  (case J8o => k_is)
  (case J4Y => k_is)
  (case J55 => k_is)
  (case J56 => k_is)
  (case J4Q => k_is)
  (case J6A => k_is)
  (case J6E => k_is)
  (case J6d => k_is)
  (case J6e => k_is)
  (case J6c => k_is)
  (case J6b => k_is)
  (case J8k => k_is)
  (case J8h => k_is)
  (case J48 => k_is)
  (case J4a => k_is)
  (case J4b => k_is)
  (case J49 => k_is)
  (case J5q => k_is)
  (case J5w => k_is)
  (case J8G => k_is)
  (case J8C => k_is)
  (case J8I => k_is)
  (case J8q => k_is)
  (case JaH => k_is)
  (case JaM => k_is)
  (case J5x => k_is)
  (case J5r => k_is)
  (case J5z => k_is)
  (case J5u => k_is)
  (case J5A => k_is)
  (case J5t => k_is)
  (case J6n => k_is)
  (case J6z => k_is)
  (case J6H => k_is)
  (case J6G => k_is)
  (case J6L => k_is)
  (case J6J => k_is)
  (case yn => k_is)
  (case yt => k_is)
  (case J6u => k_is)
  (case J6N => k_is)
  (case J2h => kit_is)
  (case J1v => kit_is)
  (case J8a => k_is)
  (case J8d => k_is)
  (case J2J => kit_is)
  (case J1U => kit_is)
  (case J6q => k_is)
  (case J6o => k_is)
  (case J2e => kit_is)
  (case J1t => kit_is)
  (case J89 => k_is)
  (case J8t => k_is)
  (case J2I => kit_is)
  (case J1S => kit_is)
  (case J5s => k_is)
  (case J5v => k_is)
  (case J1V => kit_is)
  (case J19 => kit_is)
  (case JaE => k_is)
  (case JaR => k_is)
  (case J31 => kit_is)
  (case J2j => kit_is)
  (case J1x => k_is)
  (case J14 => k_is)
  (case J0S => k_is)
  (case J0A => k_is)
  (case J0M => k_is)
  (case J0v => k_is)
  (case J0u => k_is)
  (case JJ => k_is)
  (case J0s => k_is)
  (case J0y => k_is)
  (case J0t => k_is)
  (case J0w => k_is)
  (case J13 => k_is)
  (case J0R => k_is)
  (case J0N => k_is)
  (case J1n => k_is)
  (case J12 => k_is)
  (case J1k => k_is)
  (case J0p => k_is)
  (case J1p => k_is)
  (case Jy => k_is)
  (case J04 => k_is)
  (case J0r => k_is)
  (case J08 => k_is)
  (case J0d => k_is)
  (case J9A => k_is)
  (case J9T => k_is)
  (case J0Y => k_is)
  (case J0K => k_is)
  (case J0c => k_is)
  (case J2M => k_is)
  (case J9M => k_is)
  (case J9t => k_is)
  (case JY => k_is)
  (case J4q => k_is)
  (case J2f => k_is)
#print axioms PySem.Challenge.cw_rotafair_k72_what_rests_holds
