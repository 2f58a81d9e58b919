import PyProof.Rows.All
import Wide.All
import OpenK.AllK
import Wide.FinOn
import Lean
import PyProof.EqAt
import PyProof.EqKinds
import PyProof.TupleCall
import PySem.Challenge.RW_rotafair_k54_answers_stand
set_option Elab.async false
set_option linter.all false
set_option maxRecDepth 100000
namespace L2
open PySem PySem.Spec PyProof.Rows
noncomputable abbrev Key := Sum Int Str
noncomputable def J8b : Key → Value → Bool
 | .inl k,v => Value.isInt k v
 | .inr x,v => Value.isStrOf x v
noncomputable def keyH (w : World) : Key → Int
 | .inl k => hashInt k
 | .inr x => hashStr w x
theorem J0Q : ∀ {k : Key} {v : Value},J8b k v = true → (∃ i t,k = Sum.inl i ∧ v = Value.int i t) ∨ (∃ x t,k = Sum.inr x ∧ v = Value.str x t)
 | .inl i,v,h => by
  obtain ⟨t,e⟩ := Value.isInt_shape (k := i) (v := v) h
  exact .inl ⟨i,t,rfl,e⟩
 | .inr x,v,h => by
  obtain ⟨t,e⟩ := Value.isStrOf_shape (x := x) (v := v) h
  exact .inr ⟨x,t,rfl,e⟩
theorem JbP (i : Int) (t : Tok) : J8b (.inl i) (.int i t) = true := by simp [J8b,Value.isInt]
theorem JbA (x : Str) (t : Tok) : J8b (.inr x) (.str x t) = true := by simp [J8b,Value.isStrOf]
theorem Jf9 (a b : Int) : decide ((Sum.inl a : Key) = Sum.inl b) = (a == b) := by
 by_cases e : a = b
 ·subst e; simp
 ·have h : ¬ (Sum.inl a : Key) = Sum.inl b := fun q => e (Sum.inl.inj q)
  rw [decide_eq_false h]
  exact (beq_eq_false_iff_ne.mpr e).symm
theorem JeQ (a b : Str) : decide ((Sum.inr a : Key) = Sum.inr b) = decide (a = b) := by
 by_cases e : a = b
 ·subst e; simp
 ·have h : ¬ (Sum.inr a : Key) = Sum.inr b := fun q => e (Sum.inr.inj q)
  rw [decide_eq_false h,decide_eq_false e]
theorem JeP (a : Int) (b : Str) : decide ((Sum.inl a : Key) = Sum.inr b) = false := decide_eq_false (fun q => nomatch q)
theorem Jf8 (a : Str) (b : Int) : decide ((Sum.inr a : Key) = Sum.inl b) = false := decide_eq_false (fun q => nomatch q)
noncomputable def J1y (prog : Program) (w : World) : PySem.KeyKind prog w Key where
 is := J8b
 hash := keyH w
 inj := fun v a b ha hb => by
  rcases J0Q ha with ⟨i,t,rfl,rfl⟩ | ⟨x,t,rfl,rfl⟩
  ·rcases J0Q hb with ⟨j,u,rfl,e⟩ | ⟨y,u,rfl,e⟩
   ·injection e with e1 _; rw [e1]
   ·exact nomatch e
  ·rcases J0Q hb with ⟨j,u,rfl,e⟩ | ⟨y,u,rfl,e⟩
   ·exact nomatch e
   ·injection e with e1 _; rw [e1]
 byValue := fun k v h => by
  rcases J0Q h with ⟨i,t,rfl,rfl⟩ | ⟨x,t,rfl,rfl⟩ <;> rfl
 pyHash := fun hv h => by
  rcases J0Q hv with ⟨i,t,rfl,rfl⟩ | ⟨x,t,rfl,rfl⟩
  ·exact wpAny_pyHash_int h
  ·exact wpAny_pyHash_str h
 eqBool := fun hu hv h => by
  rcases J0Q hu with ⟨i,t,rfl,rfl⟩ | ⟨x,t,rfl,rfl⟩
  ·rcases J0Q hv with ⟨j,u,rfl,rfl⟩ | ⟨y,u,rfl,rfl⟩
   ·rw [Jf9] at h; exact wpAny_eqBool_int h
   ·rw [JeP] at h; exact SeqAt.EqAt.int_str i t y u _ _ _ _ h
  ·rcases J0Q hv with ⟨j,u,rfl,rfl⟩ | ⟨y,u,rfl,rfl⟩
   ·rw [Jf8] at h; exact SeqAt.EqAt.str_int x t j u _ _ _ _ h
   ·rw [JeQ] at h; exact wpAny_eqBool_str h
 «strs» := fun k x t v h => by
  rcases J0Q h with ⟨i,u,rfl,e⟩ | ⟨y,u,rfl,e⟩
  ·exact nomatch e
  ·injection e with e1 _
   subst e1
   cases v <;> rfl
theorem J9V (prog : Program) (w : World) (i : Int) (t : Tok) : (J1y prog w).is (.inl i) (.int i t) = true := JbP i t
theorem J9E (prog : Program) (w : World) (x : Str) (t : Tok) : (J1y prog w).is (.inr x) (.str x t) = true := JbA x t
end L2
namespace L2
open PySem PySem.Spec PyProof.Rows
inductive V where
 | non | bl (b : Bool) | int (i : Int) | str (x : Str) | byt (b : Array UInt8) | flt (b : UInt64) | ref (a : Addr) | ty (n : String)
 deriving DecidableEq
noncomputable def RelV : V → Value → Prop
 | .non,u => u = Value.none
 | .bl b,u => u = Value.bool b
 | .int i,u => ∃ t,u = Value.int i t
 | .str x,u => ∃ t,u = Value.str x t
 | .byt b,u => ∃ t,u = Value.bytes b t
 | .flt b,u => ∃ t,u = Value.float b t
 | .ref a,u => u = Value.ref a
 | .ty n,u => u = Value.type n
noncomputable abbrev Vals : List V → List Value → Prop := Paired RelV
theorem Vals.length {xs : List V} {us : List Value} (r : Vals xs us) : xs.length = us.length := Paired.length r
theorem Vals.get : ∀ {xs : List V} {us : List Value} {i : Nat} {x : V},Vals xs us → xs[i]? = some x → ∃ u,us[i]? = some u ∧ RelV x u
 | _,_,_,_,.nil,e => by simp at e
 | _,_,0,_,.cons r _,e => by simp at e; subst e; exact ⟨_,rfl,r⟩
 | _,_,i + 1,x,.cons _ t,e => by
  obtain ⟨u,h1,h2⟩ := Vals.get (i := i) (x := x) t (by simpa using e)
  exact ⟨u,by simpa using h1,h2⟩
theorem Vals.set {x : V} {u : Value} (r : RelV x u) : ∀ {xs : List V} {us : List Value} (i : Nat),Vals xs us → Vals (xs.set i x) (us.set i u)
 | _,_,_,.nil => .nil
 | _,_,0,.cons _ t => .cons r t
 | _,_,i + 1,.cons q t => .cons q (Vals.set r i t)
theorem Vals.append : ∀ {xs ys : List V} {us ws : List Value},Vals xs us → Vals ys ws → Vals (xs ++ ys) (us ++ ws)
 | _,_,_,_,.nil,s => s
 | _,_,_,_,.cons r t,s => .cons r (Vals.append t s)
theorem Vals.take : ∀ {xs : List V} {us : List Value} (n : Nat),Vals xs us → Vals (xs.take n) (us.take n)
 | _,_,0,_ => .nil
 | _,_,_ + 1,.nil => .nil
 | _,_,n + 1,.cons r t => .cons r (Vals.take n t)
theorem Vals.drop : ∀ {xs : List V} {us : List Value} (n : Nat),Vals xs us → Vals (xs.drop n) (us.drop n)
 | _,_,0,r => r
 | _,_,_ + 1,.nil => .nil
 | _,_,n + 1,.cons _ t => Vals.drop n t
noncomputable def RelO : Option V → Option Value → Prop
 | some v,some u => RelV v u
 | none,none => True
 | _,_ => False
noncomputable def KV {κ : Type} : List (κ × V) → List (κ × Value) → Prop := Paired fun (p : κ × V) (q : κ × Value) => p.1 = q.1 ∧ RelV p.2 q.2
noncomputable def kV : Key → V
 | .inl i => .int i
 | .inr x => .str x
inductive HO where
 | lst (xs : List V)
 | tup (xs : List V)
 | dK (kvs : List (Key × V)) | dT (kvs : List (List Key × V))
 | set (S : Int → Bool) (n : Nat)
 | ins (C dx : Addr) (fs : List (Str × V))
 | own (x : Addr)
 | xd (fs : List (Str × V))
 | met (f x : Addr)
 | rng (lo hi : Int)
 | frz (o : Obj) (u : HO)
 | tbl (ps : Array Value)
 | ext (φ : Heap → Prop)
noncomputable abbrev Hp := Addr → Option HO
noncomputable def upd (H : Hp) (a : Addr) (o : HO) : Hp := fun b => if b = a then some o else H b
theorem Jd {H : Hp} {a : Addr} {o : HO} : upd H a o a = some o := by unfold upd; rw [if_pos rfl]
theorem Jj {H : Hp} {a b : Addr} {o : HO} (h : b ≠ a) : upd H a o b = H b := by unfold upd; rw [if_neg h]
theorem Jb5 {H : Hp} {a b : Addr} {o u : HO} (h : H a = some o) (h' : H b = some u) (d : o ≠ u) : a ≠ b := by
 intro e; subst e; rw [h] at h'; exact d (Option.some.inj h')
theorem Je {H : Hp} {a b : Addr} {o : HO} (h : H a = some o) (h' : H b = none) : a ≠ b := by
 intro e; subst e; rw [h] at h'; cases h'
section
variable (P : Program) (w : World)
noncomputable def J18 (H : Hp) (h : Heap) (a : Addr) : HO → Prop
 | .lst xs => xs.length ≤ sizeLine ∧ ∃ (its : List Value) (n : Nat),Vals xs its ∧ h.get? a = some { cls := .type "list",data := .seq its.toArray n }
 | .tup xs => xs.length ≤ sizeLine ∧ ∃ its : List Value,Vals xs its ∧ IsTup h a its.toArray
 | .dK kvs => kvs.length ≤ sizeLine ∧ (a == sysModules) = false ∧ ∃ vs,KV kvs vs ∧ h.DictOf (J1y P w) a vs
 | .dT kvs => kvs.length ≤ sizeLine ∧ (a == sysModules) = false ∧ ∃ xs : List (List Key × Addr × Value),
   Paired (fun (p : List Key × V) (q : List Key × Addr × Value) => p.1 = q.1 ∧ H q.2.1 = some (.tup (p.1.map kV)) ∧ RelV p.2 q.2.2) kvs xs ∧
   ∃ o es ep,h.get? a = some o ∧ o.ExactDict ∧ o.data = .dict es ep ∧ es.toList = xs.map (entryOfKey (tupleKind (J1y P w))) ∧ (xs.map (·.1)).Nodup
 | .set S n => h.SetOf (intKind P w) a S n
 | .ins C dx fs => H dx = some (.own a) ∧ fs.length ≤ 1000 ∧ dx ≠ a ∧ h.get? a = some (PySem.W.instObj C dx) ∧
   ∃ mA,h.Ns1 dx mA ∧ (∀ f,RelO (fs.lookup f) (mA f)) ∧ PySem.Within mA (fs.map (·.1))
 | .own _ => ∃ o,h.get? a = some o
 | .xd fs => ∃ mA,h.Ns1 a mA ∧ ∀ f,RelO (fs.lookup f) (mA f)
 | .rng lo hi => ∃ t u v,h.get? a = some { cls := .type "range",data := .fields #[.int lo t,.int hi u,.int 1 v] }
 | .frz o u => h.get? a = some o ∧ J18 H h a u
 | .tbl ps => h.get? a = some { cls := .none,data := .fields ps }
 | .met f x => h.get? a = some (PySem.W.methodObj (.ref f) (.ref x))
 | .ext φ => φ h ∧ (∃ o,h.get? a = some o) ∧ ∀ h1 h2 : Heap,φ h1 → (∀ o,h1.get? a = some o → h2.get? a = some o) → φ h2
noncomputable def HOk (H : Hp) (h : Heap) : Prop := ∀ a o,H a = some o → J18 P w H h a o
end
section
variable {P : Program} {w : World} {H H' : Hp} {h h' : Heap} {a : Addr} {o : HO}
theorem J18.lt (x : J18 P w H h a o) : a < h.objs.size := by
 cases o with
 | lst xs => obtain ⟨_,_,_,_,e⟩ := x; exact Heap.lt_size e
 | tup xs => obtain ⟨_,_,_,p⟩ := x; exact p.lt
 | dK kvs => obtain ⟨_,_,_,_,o,_,_,e,_⟩ := x; exact Heap.lt_size e
 | dT kvs => obtain ⟨_,_,_,_,o,_,_,e,_⟩ := x; exact Heap.lt_size e
 | set S n => obtain ⟨o,_,_,_,e,_⟩ := x; exact Heap.lt_size e
 | ins C dx fs => obtain ⟨_,_,_,e,_⟩ := x; exact Heap.lt_size e
 | own y => obtain ⟨_,e⟩ := x; exact Heap.lt_size e
 | xd fs => obtain ⟨_,⟨_,_,_,e,_⟩,_⟩ := x; exact Heap.lt_size e
 | rng lo hi => obtain ⟨_,_,_,e⟩ := x; exact Heap.lt_size e
 | frz ob u => obtain ⟨e,_⟩ := x; exact Heap.lt_size e
 | tbl ps => exact Heap.lt_size (show h.get? a = some _ from x)
 | met f y => exact Heap.lt_size (show h.get? a = some _ from x)
 | ext φ => obtain ⟨_,⟨_,e⟩,_⟩ := x; exact Heap.lt_size e
theorem Paired.mapP {α β : Type} {F G : α → β → Prop} : ∀ {l₁ : List α} {l₂ : List β},Paired F l₁ l₂ → (∀ a b,F a b → G a b) → Paired G l₁ l₂
 | _,_,.nil,_ => .nil
 | _,_,.cons r t,f => .cons (f _ _ r) (Paired.mapP t f)
theorem J18.stay (x : J18 P w H h a o) (k : ∀ b u,(b = a ∨ H b = some (.own a)) → h.get? b = some u → h'.get? b = some u)
  (ho : ∀ b,H b = some (.own a) → H' b = some (.own a)) (ht : ∀ b xs,H b = some (.tup xs) → H' b = some (.tup xs)) : J18 P w H' h' a o := by
 induction o with
 | lst xs => obtain ⟨z,its,n,r,e⟩ := x; exact ⟨z,its,n,r,k _ _ (.inl rfl) e⟩
 | tup xs => obtain ⟨z,its,r,ob,e,c⟩ := x; exact ⟨z,its,r,ob,k _ _ (.inl rfl) e,c⟩
 | dK kvs => obtain ⟨z,y,vs,r,ob,es,ep,e,c⟩ := x; exact ⟨z,y,vs,r,ob,es,ep,k _ _ (.inl rfl) e,c⟩
 | dT kvs =>
  obtain ⟨z,y,xs,r,ob,es,ep,e,c⟩ := x
  exact ⟨z,y,xs,Paired.mapP r fun p q z => ⟨z.1,ht _ _ z.2.1,z.2.2⟩,ob,es,ep,k _ _ (.inl rfl) e,c⟩
 | set S n => obtain ⟨ob,es,ep,t,e,c⟩ := x; exact ⟨ob,es,ep,t,k _ _ (.inl rfl) e,c⟩
 | ins C dx fs =>
  obtain ⟨d,z,ne,e,mA,⟨od,es,ep,e2,c⟩,r⟩ := x
  exact ⟨ho _ d,z,ne,k _ _ (.inl rfl) e,mA,⟨od,es,ep,k _ _ (.inr d) e2,c⟩,r⟩
 | own y => obtain ⟨ob,e⟩ := x; exact ⟨ob,k _ _ (.inl rfl) e⟩
 | xd fs => obtain ⟨mA,⟨od,es,ep,e,c⟩,r⟩ := x; exact ⟨mA,⟨od,es,ep,k _ _ (.inl rfl) e,c⟩,r⟩
 | rng lo hi => obtain ⟨t,u,v,e⟩ := x; exact ⟨t,u,v,k _ _ (.inl rfl) e⟩
 | frz ob u ih => obtain ⟨e,q⟩ := x; exact ⟨k _ _ (.inl rfl) e,ih q⟩
 | tbl ps =>
  have e : h.get? a = some { cls := .none,data := .fields ps } := x
  show h'.get? a = some { cls := .none,data := .fields ps }
  exact k a _ (.inl rfl) e
 | met f y =>
  have e : h.get? a = some (PySem.W.methodObj (.ref f) (.ref y)) := x
  show h'.get? a = some (PySem.W.methodObj (.ref f) (.ref y))
  exact k a _ (.inl rfl) e
 | ext φ => obtain ⟨p,⟨o,e⟩,st⟩ := x; exact ⟨st _ _ p fun o q => k _ _ (.inl rfl) q,⟨o,k _ _ (.inl rfl) e⟩,st⟩
theorem HOk.lt (x : HOk P w H h) (e : H a = some o) : a < h.objs.size := (x a o e).lt
theorem HOk.fresh (x : HOk P w H h) (e : h.objs.size ≤ a) : H a = none := by
 cases q : H a with
 | none => rfl
 | some u => exact absurd (Nat.lt_of_lt_of_le (x.lt q) e) (Nat.lt_irrefl _)
theorem HOk.kept (x : HOk P w H h) (k : ∀ b u,h.get? b = some u → h'.get? b = some u) : HOk P w H h' := fun a o e =>
 (x a o e).stay (fun b u _ q => k b u q) (fun _ q => q) fun _ _ q => q
theorem HOk.laid (x : HOk P w H h) (k : ∀ b u,h.get? b = some u → h'.get? b = some u) (hp : h.objs.size ≤ a) (new : J18 P w (upd H a o) h' a o) : HOk P w (upd H a o) h' := fun b u e => by
 have hn := x.fresh hp
 by_cases hb : b = a
 ·subst hb; rw [Jd] at e; cases e; exact new
 ·rw [Jj hb] at e
  exact (x b u e).stay (fun c v _ q => k c v q) (fun c q => by rw [Jj (Je q hn)]; exact q) fun c xs q => by rw [Jj (Je q hn)]; exact q
end
noncomputable def Rd (H : Hp) (a : Addr) (u : HO) : Prop := H a = some u ∨ ∃ o,H a = some (.frz o u)
theorem Rd.ok {P : Program} {w : World} {H : Hp} {h : Heap} {a : Addr} {u : HO} (r : Rd H a u) (x : HOk P w H h) : J18 P w H h a u := by
 rcases r with r | ⟨o,r⟩
 ·exact x a u r
 ·obtain ⟨_,q⟩ := x a _ r
  exact q
noncomputable def Mut : Option HO → Prop
 | some (.lst _) => True
 | some (.dK _) => True
 | some (.dT _) => True
 | some (.set _ _) => True
 | some (.ins _ _ _) => True
 | some (.ext _) => True
 | _ => False
section
variable {P : Program} {w : World} {H : Hp} {h h' : Heap} {x e : Addr} {o' : HO}
theorem HOk.write (ok : HOk P w H h) (mu : Mut (H x)) (he : e = x ∨ H e = some (.own x)) (k : ∀ b u,b ≠ e → h.get? b = some u → h'.get? b = some u) (heo : ∃ u,h'.get? e = some u)
  (new : J18 P w (upd H x o') h' x o') : HOk P w (upd H x o') h' := fun b u q => by
 have nown : ∀ c y,H c = some (.own y) → c ≠ x := fun c y r z => by subst z; rw [r] at mu; exact mu
 have ntup : ∀ c xs,H c = some (.tup xs) → c ≠ x := fun c xs r z => by subst z; rw [r] at mu; exact mu
 by_cases hb : b = x
 ·subst hb; rw [Jd] at q; cases q; exact new
 ·rw [Jj hb] at q
  by_cases hbe : b = e
  ·have q' : H b = some (.own x) := by
    rcases he with z | z
    ·exact absurd (hbe.trans z) hb
    ·rw [hbe]; exact z
   rw [q] at q'; cases q'
   obtain ⟨v,hv⟩ := heo
   exact ⟨v,by rw [hbe]; exact hv⟩
  ·refine (ok b u q).stay (fun c v hc r => k c v ?_ r) (fun c r => by rw [Jj (nown c b r)]; exact r) fun c xs r => by rw [Jj (ntup c xs r)]; exact r
   rcases hc with rfl | hc
   ·exact hbe
   ·rintro rfl
    rcases he with z | z
    ·exact nown c b hc z
    ·rw [hc] at z; cases z; exact hb rfl
end
structure Un (fs ex : List Addr) (H H' : Hp) (h h' : Heap) : Prop where
 keep : ∀ b o,h.get? b = some o → H b = none → b ∉ fs → b ∉ ex → h'.get? b = some o
 slot : ∀ b o,h.get? b = some o → H b = none → b ∈ fs → b ∉ ex → ∃ sl,h'.get? b = some { o with slots := sl }
 free : ∀ b o,h.get? b = some o → H b = none → b ∉ ex → H' b = none
 there : ∀ b o,h.get? b = some o → b ∉ ex → ∃ o',h'.get? b = some o'
 tups : ∀ b xs,H b = some (.tup xs) → H' b = some (.tup xs)
 frzs : ∀ b o u,H b = some (.frz o u) → H' b = some (.frz o u)
 tbls : ∀ b ps,H b = some (.tbl ps) → ∃ more,H' b = some (.tbl (ps ++ more))
section
variable {fs fs' ex ex' : List Addr} {H H1 H2 : Hp} {h h1 h2 h' : Heap} {a x e : Addr} {o : HO}
theorem Un.any (u : Un fs ex H H1 h h1) {b : Addr} {ob : Obj} (q : h.get? b = some ob) (n : H b = none) (hx : b ∉ ex) : ∃ sl,h1.get? b = some { ob with slots := sl } := by
 by_cases hb : b ∈ fs
 ·exact u.slot b ob q n hb hx
 ·exact ⟨ob.slots,u.keep b ob q n hb hx⟩
theorem Un.kept (k : ∀ b u,h.get? b = some u → h'.get? b = some u) : Un fs ex H H h h' :=
 ⟨fun b ob q _ _ _ => k b ob q,fun b ob q _ _ _ => ⟨ob.slots,k b ob q⟩,fun _ _ _ n _ => n,fun b ob q _ => ⟨ob,k b ob q⟩,fun _ _ q => q,fun _ _ _ q => q,fun _ ps q => ⟨#[],by rw [q]; simp⟩⟩
theorem Un.refl : Un fs ex H H h h := Un.kept fun _ _ q => q
theorem Un.laid (k : ∀ b u,h.get? b = some u → h'.get? b = some u) (hp : h.objs.size ≤ a) (hn : H a = none) : Un fs ex H (upd H a o) h h' where
 keep := fun b u q _ _ _ => k b u q
 slot := fun b u q _ _ _ => ⟨u.slots,k b u q⟩
 free := fun b u q n _ => by rw [Jj (Nat.ne_of_lt (Nat.lt_of_lt_of_le (Heap.lt_size q) hp))]; exact n
 there := fun b u q _ => ⟨u,k b u q⟩
 tups := fun b xs q => by rw [Jj (Je q hn)]; exact q
 frzs := fun b u xs q => by rw [Jj (Je q hn)]; exact q
 tbls := fun b ps q => ⟨#[],by rw [Jj (Je q hn),q]; simp⟩
theorem Un.write (mu : Mut (H x)) (he : e = x ∨ H e = some (.own x)) (k : ∀ b u,b ≠ e → h.get? b = some u → h'.get? b = some u) (heo : ∃ u,h'.get? e = some u) : Un fs ex H (upd H x o) h h' := by
 have hx : ∀ b,H b = none → b ≠ x := fun b n z => by subst z; rw [n] at mu; exact mu
 have hb : ∀ b,H b = none → b ≠ e := fun b n z => by
  subst z
  rcases he with r | r
  ·exact hx b n r
  ·rw [n] at r; cases r
 have hm : ∀ b u,H b = some u → ¬ Mut (some u) → b ≠ x := fun b u q nm z => by subst z; rw [q] at mu; exact nm mu
 refine ⟨fun b u q n _ _ => k b u (hb b n) q,fun b u q n _ _ => ⟨u.slots,k b u (hb b n) q⟩,fun b u q n _ => by rw [Jj (hx b n)]; exact n,fun b u q _ => ?_,
  fun b xs q => by rw [Jj (hm b _ q fun z => z)]; exact q,fun b u xs q => by rw [Jj (hm b _ q fun z => z)]; exact q,fun b ps q => ⟨#[],by rw [Jj (hm b _ q fun z => z),q]; simp⟩⟩
 by_cases hbe : b = e
 ·subst hbe; exact heo
 ·exact ⟨u,k b u hbe q⟩
end
noncomputable def trk (h : Heap) (H : Hp) : List Addr := (List.range h.objs.size).filter fun a => (H a).isSome
noncomputable def hidT (h : Heap) (H : Hp) : Heap := PySem.W.hideAll h (trk h H)
theorem Jbx (h : Heap) (H : Hp) : (hidT h H).objs.size = h.objs.size := PySem.W.hideAll_size _ _
theorem Jd6 {h : Heap} {H : Hp} {b : Addr} {o : Obj} (e : h.get? b = some o) (n : H b = none) : (hidT h H).get? b = some o :=
 PySem.W.hideAll_get _ e fun hm => by
  have q : (H b).isSome = true := (List.mem_filter.mp hm).2
  rw [n] at q; simp at q
theorem JdV {h : Heap} {H : Hp} {b : Addr} {o : Obj} (e : (hidT h H).get? b = some o) : h.get? b = some o ∧ H b = none := by
 have e' : h.get? b = some o := PySem.W.of_hideAll (trk h H) e
 refine ⟨e',?_⟩
 cases q : H b with
 | none => rfl
 | some x =>
  have hm : b ∈ trk h H := List.mem_filter.mpr ⟨List.mem_range.mpr (Heap.lt_size e'),by simp [q]⟩
  have z : (hidT h H).get? b = none := PySem.W.hideAll_none (trk h H) hm
  rw [z] at e; cases e
end L2
namespace L2
open PySem PySem.Spec PyProof.Rows
structure Mod (K : PySem.W.Frag) (mg : Str → Option Value) (base : Heap) : Prop where
 kin : K.In base
 glob : base.Ns mainGlobals mg
 blt : ∃ mb,base.Ns builtinsNs mb ∧ ∀ x : Str,x ≠ "__name__" → mb x = bootBuiltins x
 nolimit : base.NoLimit
structure Cx where
 prog : Program
 w : World
 K : PySem.W.Frag
 mg : Str → Option Value
 base : Heap
 A : Around
 N : List Str
 s₀ : Shared
 H₀ : Hp
 env : Env
 outer : List Env
 stack : List Env
 ex : List Addr
 fn : Str → Bool
 calm : Bool
 pn : List (Addr × Obj)
 xe : Value → Shared → Prop
noncomputable def frs (l : List Env) : List Addr := l.filterMap (·.frame)
noncomputable abbrev Cx.fs (X : Cx) : List Addr := frs X.outer
noncomputable def Vis (sc : Scope) (x : Str) : Prop := sc.names.lookup x = some .local ∨ sc.names.lookup x = some .cell ∨ sc.names.lookup x = some .free
noncomputable def Loc (sc : Scope) (x : Str) : Prop := sc.names.lookup x = some .local ∨ sc.names.lookup x = some .cell
noncomputable def Look (env : Env) (h : Heap) (m : Str → Option Value) (x : Str) (u : Value) : Prop :=
 (env.kindOf x = some .local ∧ m x = some u) ∨ ((env.kindOf x = some .cell ∨ env.kindOf x = some .free) ∧ ∃ c,env.cells.lookup x = some c ∧ h.IsCell c (some u))
structure Cx.Ok (X : Cx) : Prop where
 mod : Mod X.K X.mg X.base
 kind : X.env.scope.kind = .function
 glob : X.env.globals = mainGlobals
 blt : X.env.builtins = builtinsNs
 above : X.s₀.heap.objs.size ≤ X.env.locals
 inj : ∀ x y c,X.env.cells.lookup x = some c → X.env.cells.lookup y = some c → x = y
 has : ∀ x,(X.env.kindOf x = some .cell ∨ X.env.kindOf x = some .free) → ∃ c,X.env.cells.lookup x = some c
 cab : ∀ x c,X.fn x = true → X.env.cells.lookup x = some c → X.s₀.heap.objs.size ≤ c
 hd : X.calm = true → X.A.handled = none
 frames : X.A.frames = some X.stack
 stk : X.stack = X.outer ∨ (X.stack = X.env :: X.outer ∧ X.env.frame = some X.env.locals)
 exf : ∀ b ∈ X.ex,b ≠ X.env.locals ∧ ∀ x c,X.env.cells.lookup x = some c → c ≠ b
 bs : ∀ b o,X.base.get? b = some o → X.s₀.heap.get? b = some o ∧ X.H₀ b = none
 bsz : X.base.objs.size ≤ X.s₀.heap.objs.size
 noex : ∀ b o,X.base.get? b = some o → b ∉ X.ex
 exfs : ∀ b ∈ X.ex,b ∉ X.fs
 funs : X.s₀.heap.FunFrames X.base X.outer
 frf : ∀ b ∈ X.fs,X.H₀ b = none
structure Inv (X : Cx) (pins : List (Addr × Obj)) (σ : List (Option V)) (H : Hp) (s : Shared) : Prop where
 ok : X.Ok
 os : s.os = X.s₀.os
 bare : AllBare s.gens
 base : Un X.fs X.ex X.H₀ H X.s₀.heap s.heap
 loc : ∃ m,s.heap.Ns X.env.locals m ∧ ∀ (i : Nat) (x : Str) (v : V),X.N[i]? = some x → σ[i]? = some (some v) → Vis X.env.scope x → ∃ u,RelV v u ∧ Look X.env s.heap m x u
 cell : ∀ x c,X.env.cells.lookup x = some c → ∃ v,s.heap.IsCell c v
 free : H X.env.locals = none
 freeC : ∀ x c,X.env.cells.lookup x = some c → H c = none
 pin : ∀ p ∈ X.pn ++ pins,s.heap.get? p.1 = some p.2 ∧ H p.1 = none ∧ p.1 ≠ X.env.locals ∧ p.1 ∉ X.fs ∧ ∀ v,p.2.data ≠ .cell v
 hok : HOk X.prog X.w H s.heap
 len : σ.length = X.N.length
section
variable {X : Cx} {pins : List (Addr × Obj)} {σ : List (Option V)} {H H' : Hp} {s : Shared} {h' : Heap}
theorem Cx.Ok.nofr (ok : X.Ok) {b : Addr} {o : Obj} (e : X.base.get? b = some o) : b ∉ X.fs := fun hb => by
 have := (ok.funs.mem hb).1
 rw [e] at this; cases this
theorem Inv.bs (I : Inv X pins σ H s) : ∀ b o,X.base.get? b = some o → s.heap.get? b = some o ∧ H b = none := fun b o e =>
 ⟨I.base.keep b o (I.ok.bs b o e).1 (I.ok.bs b o e).2 (I.ok.nofr e) (I.ok.noex b o e),I.base.free b o (I.ok.bs b o e).1 (I.ok.bs b o e).2 (I.ok.noex b o e)⟩
theorem Inv.bk (I : Inv X pins σ H s) : ∀ b o,X.base.get? b = some o → s.heap.get? b = some o := fun b o e => (I.bs b o e).1
theorem Inv.mod (I : Inv X pins σ H s) : Mod X.K X.mg X.base := I.ok.mod
theorem Inv.kIn (I : Inv X pins σ H s) : X.K.In s.heap := I.ok.mod.kin.keeps I.bk
theorem Inv.lt (I : Inv X pins σ H s) : X.env.locals < s.heap.objs.size := let ⟨_,hn,_⟩ := I.loc; hn.lt
theorem Inv.sz (I : Inv X pins σ H s) : X.s₀.heap.objs.size ≤ s.heap.objs.size := Nat.le_trans I.ok.above (Nat.le_of_lt I.lt)
theorem Inv.nofs (I : Inv X pins σ H s) {a : Addr} (h : s.heap.objs.size ≤ a) : a ∉ X.fs := fun hb => by
 obtain ⟨_,o,ho,_⟩ := I.ok.funs.mem hb
 exact absurd (Nat.lt_of_lt_of_le (Heap.lt_size ho) (Nat.le_trans I.sz h)) (Nat.lt_irrefl _)
theorem Inv.cne (I : Inv X pins σ H s) : ∀ x c,X.env.cells.lookup x = some c → c ≠ X.env.locals := fun x c e z => by
 obtain ⟨v,o,ho,hd⟩ := I.cell x c e
 obtain ⟨m,⟨o',es,ep,ho',hd',_⟩,_⟩ := I.loc
 rw [z,ho'] at ho; cases ho; rw [hd'] at hd; cases hd
theorem Inv.funs (I : Inv X pins σ H s) : s.heap.FunFrames X.base X.outer := by
 have all : ∀ (l : List Env),(∀ b ∈ frs l,b ∈ X.fs) → X.s₀.heap.FunFrames X.base l → s.heap.FunFrames X.base l := by
  intro l
  induction l with
  | nil => intro _ _; trivial
  | cons env r ih =>
   intro hs hl
   obtain ⟨hk,⟨L,o,hf,hn,ho,hd⟩,hr⟩ := hl
   have hL : L ∈ X.fs := hs L (by unfold frs; rw [List.filterMap_cons,hf]; exact List.mem_cons_self)
   obtain ⟨sl,e⟩ := I.base.slot L o ho (I.ok.frf L hL) hL fun z => I.ok.exfs L z hL
   exact ⟨hk,⟨L,_,hf,hn,e,hd⟩,ih (fun b hb => hs b (by unfold frs; rw [List.filterMap_cons,hf]; exact List.mem_cons_of_mem _ hb)) hr⟩
 exact all X.outer (fun _ hb => hb) I.ok.funs
theorem Inv.stack (I : Inv X pins σ H s) : s.heap.FunFrames X.base X.stack := by
 rcases I.ok.stk with e | ⟨e,hf⟩
 ·rw [e]; exact I.funs
 ·rw [e]
  obtain ⟨m,hn,_⟩ := I.loc
  refine .cons (by rw [I.ok.kind]; decide) hf hn ?_ I.funs
  exact Heap.get?_none_of_le (Nat.le_trans I.ok.bsz I.ok.above)
theorem Inv.stkSub (I : Inv X pins σ H s) : ∀ b ∈ frs X.stack,b ∈ X.env.locals :: X.fs := fun b hb => by
 rcases I.ok.stk with e | ⟨e,hf⟩
 ·rw [e] at hb; exact List.mem_cons_of_mem _ hb
 ·rw [e] at hb
  unfold frs at hb
  rw [List.filterMap_cons,hf] at hb
  exact hb
theorem Inv.stkFree (I : Inv X pins σ H s) : ∀ b ∈ frs X.stack,H b = none := fun b hb => by
 rcases List.mem_cons.mp (I.stkSub b hb) with e | hb
 ·rw [e]; exact I.free
 ·obtain ⟨_,o,ho,_⟩ := I.ok.funs.mem hb
  exact I.base.free b o ho (I.ok.frf b hb) fun z => I.ok.exfs b z hb
theorem Inv.step {g' : Array GenState} {t' : Nat} {d' : Drawn} {ch : List Addr} (I : Inv X pins σ H s)
  (hch : ∀ b ∈ ch,(b ∈ X.ex ∨ X.s₀.heap.objs.size ≤ b) ∧ b ≠ X.env.locals ∧ (∀ x c,X.env.cells.lookup x = some c → c ≠ b) ∧ ∀ p ∈ X.pn ++ pins,p.1 ≠ b)
  (keep : ∀ b o,b ≠ X.env.locals → b ∉ X.fs → b ∉ ch → s.heap.get? b = some o → H b = none → h'.get? b = some o)
  (slot : ∀ b o,b ≠ X.env.locals → b ∈ X.fs → b ∉ ch → s.heap.get? b = some o → H b = none → ∃ sl,h'.get? b = some { o with slots := sl }) (free : ∀ b o,b ∉ ch → s.heap.get? b = some o → H b = none → H' b = none)
  (there : ∀ b o,b ∉ ch → s.heap.get? b = some o → ∃ o',h'.get? b = some o')
  (tups : ∀ b xs,H b = some (.tup xs) → H' b = some (.tup xs)) (frzs : ∀ b o u,H b = some (.frz o u) → H' b = some (.frz o u)) (tbls : ∀ b ps,H b = some (.tbl ps) → ∃ more,H' b = some (.tbl (ps ++ more)))
  (ns : ∀ m,s.heap.Ns X.env.locals m → h'.Ns X.env.locals m) (hok : HOk X.prog X.w H' h') (hg : AllBare g') :
  Inv X pins σ H' { s with heap := h',gens := g',drawn := d',toks := t' } := by
 have neL : ∀ b o,X.s₀.heap.get? b = some o → b ≠ X.env.locals := fun b o e => Nat.ne_of_lt (Nat.lt_of_lt_of_le (Heap.lt_size e) I.ok.above)
 have neC : ∀ b o,X.s₀.heap.get? b = some o → b ∉ X.ex → b ∉ ch := fun b o e hx hb => by
  rcases (hch b hb).1 with z | z
  ·exact hx z
  ·exact absurd (Nat.lt_of_lt_of_le (Heap.lt_size e) z) (Nat.lt_irrefl _)
 have cellK : ∀ x c,X.env.cells.lookup x = some c → ∀ v,s.heap.IsCell c v → h'.IsCell c v := fun x c e v ⟨o,ho,hd⟩ => by
  have nch : c ∉ ch := fun z => (hch c z).2.2.1 x c e rfl
  by_cases hc : c ∈ X.fs
  ·obtain ⟨sl,q⟩ := slot c o (I.cne x c e) hc nch ho (I.freeC x c e)
   exact ⟨_,q,hd⟩
  ·exact ⟨o,keep c o (I.cne x c e) hc nch ho (I.freeC x c e),hd⟩
 refine ⟨I.ok,I.os,hg,⟨fun b o e n hb hx => ?_,fun b o e n hb hx => ?_,fun b o e n hx => ?_,fun b o e hx => ?_,fun b xs e => tups b xs (I.base.tups b xs e),fun b o xs e => frzs b o xs (I.base.frzs b o xs e),fun b ps e => ?_⟩,?_,fun x c e => ?_,?_,fun x c e => ?_,fun p hp => ?_,hok,I.len⟩
 ·exact keep b o (neL b o e) hb (neC b o e hx) (I.base.keep b o e n hb hx) (I.base.free b o e n hx)
 ·obtain ⟨sl,e1⟩ := I.base.slot b o e n hb hx
  obtain ⟨sl',e2⟩ := slot b _ (neL b o e) hb (neC b o e hx) e1 (I.base.free b o e n hx)
  exact ⟨sl',e2⟩
 ·obtain ⟨o',e1⟩ := I.base.there b o e hx
  exact free b o' (neC b o e hx) e1 (I.base.free b o e n hx)
 ·obtain ⟨o',e1⟩ := I.base.there b o e hx
  exact there b o' (neC b o e hx) e1
 ·obtain ⟨m1,e1⟩ := I.base.tbls b ps e
  obtain ⟨m2,e2⟩ := tbls b _ e1
  exact ⟨m1 ++ m2,by rw [e2,Array.append_assoc]⟩
 ·obtain ⟨m,hn,hl⟩ := I.loc
  refine ⟨m,ns m hn,fun i x v e1 e2 e3 => ?_⟩
  obtain ⟨u,r,l⟩ := hl i x v e1 e2 e3
  refine ⟨u,r,?_⟩
  rcases l with l | ⟨k,c,e,z⟩
  ·exact .inl l
  ·exact .inr ⟨k,c,e,cellK x c e _ z⟩
 ·obtain ⟨v,z⟩ := I.cell x c e
  exact ⟨v,cellK x c e v z⟩
 ·obtain ⟨m,⟨o,_,_,ho,_⟩,_⟩ := I.loc
  exact free _ o (fun z => (hch _ z).2.1 rfl) ho I.free
 ·obtain ⟨v,o,ho,hd⟩ := I.cell x c e
  exact free c o (fun z => (hch c z).2.2.1 x c e rfl) ho (I.freeC x c e)
 ·obtain ⟨e,n,ne,nf,d⟩ := I.pin p hp
  have nch : p.1 ∉ ch := fun z => (hch p.1 z).2.2.2 p hp rfl
  exact ⟨keep p.1 p.2 ne nf nch e n,free p.1 p.2 nch e n,ne,nf,d⟩
theorem Inv.un {t' : Nat} (I : Inv X pins σ H s) (u : Un X.fs [] H H' s.heap h') (hok : HOk X.prog X.w H' h') : Inv X pins σ H' { s with heap := h',toks := t' } := by
 obtain ⟨m,⟨o,es,ep,ho,r⟩,_⟩ := id I.loc
 obtain ⟨sl,hL⟩ := u.any ho I.free (by simp)
 exact I.step (g' := s.gens) (d' := s.drawn) (ch := []) (fun _ z => nomatch z) (fun b o _ hb _ e n => u.keep b o e n hb (by simp)) (fun b o _ hb _ e n => u.slot b o e n hb (by simp)) (fun b o _ e n => u.free b o e n (by simp)) (fun b o _ e => u.there b o e (by simp)) u.tups u.frzs u.tbls (fun m' hm => by
  obtain ⟨o',es',ep',ho',r'⟩ := hm
  rw [ho] at ho'; cases ho'
  exact ⟨_,es',ep',hL,r'⟩) hok I.bare
theorem Inv.call {g' : Array GenState} {t' : Nat} {d' : Drawn} {ch : List Addr} (I : Inv X pins σ H s) (u : Un (frs X.stack) ch H H' s.heap h') (hok : HOk X.prog X.w H' h') (hg : AllBare g')
  (hch : ∀ b ∈ ch,(b ∈ X.ex ∨ X.s₀.heap.objs.size ≤ b) ∧ b ≠ X.env.locals ∧ (∀ x c,X.env.cells.lookup x = some c → c ≠ b) ∧ ∀ p ∈ X.pn ++ pins,p.1 ≠ b) :
  Inv X pins σ H' { s with heap := h',gens := g',drawn := d',toks := t' } := by
 obtain ⟨m,⟨o,es,ep,ho,r⟩,_⟩ := id I.loc
 obtain ⟨sl,hL⟩ := u.any ho I.free fun z => (hch _ z).2.1 rfl
 exact I.step (ch := ch) hch (fun b o hL hb hc e n => u.keep b o e n (fun z => (List.mem_cons.mp (I.stkSub b z)).elim hL hb) hc) (fun b o _ _ hc e n => u.any e n hc) (fun b o hc e n => u.free b o e n hc) (fun b o hc e => u.there b o e hc) u.tups u.frzs u.tbls (fun m' hm => by
  obtain ⟨o',es',ep',ho',r'⟩ := hm
  rw [ho] at ho'; cases ho'
  exact ⟨_,es',ep',hL,r'⟩) hok hg
theorem Inv.turned {t' : Nat} {it : Addr} (I : Inv X pins σ H s) (k : ∀ b o,b ≠ it → s.heap.get? b = some o → h'.get? b = some o) (hn : H it = none) (hL : it ≠ X.env.locals)
  (h1 : it ∈ X.ex ∨ X.s₀.heap.objs.size ≤ it) (h2 : ∀ x c,X.env.cells.lookup x = some c → c ≠ it) (h3 : ∀ p ∈ X.pn ++ pins,p.1 ≠ it) : Inv X pins σ H { s with heap := h',toks := t' } := by
 have nit : ∀ b u,H b = some u → b ≠ it := fun b u e z => by rw [z,hn] at e; cases e
 refine I.step (g' := s.gens) (d' := s.drawn) (ch := [it]) (fun b hb => ?_) (fun b o _ _ hc e _ => k b o (fun z => hc (by simp [z])) e) (fun b o _ _ hc e _ => ⟨o.slots,k b o (fun z => hc (by simp [z])) e⟩) (fun _ _ _ _ n => n)
  (fun b o hc e => ⟨o,k b o (fun z => hc (by simp [z])) e⟩) (fun _ _ e => e) (fun _ _ _ e => e) (fun b ps e => ⟨#[],by rw [e]; simp⟩) (fun m hm => ?_) (fun b u e => ?_) I.bare
 ·have e : b = it := by simpa using hb
  subst e
  exact ⟨h1,hL,h2,h3⟩
 ·obtain ⟨o,es,ep,ho,r⟩ := hm
  exact ⟨o,es,ep,k _ o (Ne.symm hL) ho,r⟩
 ·refine (I.hok b u e).stay (fun c v hc q => k c v ?_ q) (fun _ q => q) fun _ _ q => q
  rcases hc with z | z
  ·rw [z]; exact nit b u e
  ·exact nit c _ z
theorem Inv.tok (I : Inv X pins σ H s) (t : Nat) : Inv X pins σ H { s with toks := t } := I.un (h' := s.heap) (t' := t) Un.refl I.hok
theorem Inv.kept {t' : Nat} (I : Inv X pins σ H s) (k : ∀ b u,s.heap.get? b = some u → h'.get? b = some u) : Inv X pins σ H { s with heap := h',toks := t' } := I.un (Un.kept k) (I.hok.kept k)
theorem Inv.laid {a : Addr} {o : HO} {t' : Nat} (I : Inv X pins σ H s) (k : ∀ b u,s.heap.get? b = some u → h'.get? b = some u) (hp : s.heap.objs.size ≤ a) (new : J18 X.prog X.w (upd H a o) h' a o) :
  Inv X pins σ (upd H a o) { s with heap := h',toks := t' } := I.un (Un.laid k hp (I.hok.fresh hp)) (I.hok.laid k hp new)
theorem Inv.write {x e : Addr} {o : HO} {t' : Nat} (I : Inv X pins σ H s) (mu : Mut (H x)) (he : e = x ∨ H e = some (.own x)) (k : ∀ b u,b ≠ e → s.heap.get? b = some u → h'.get? b = some u) (heo : ∃ u,h'.get? e = some u)
  (new : J18 X.prog X.w (upd H x o) h' x o) : Inv X pins σ (upd H x o) { s with heap := h',toks := t' } := I.un (Un.write mu he k heo) (I.hok.write mu he k heo new)
theorem Inv.pins_of {pins' : List (Addr × Obj)} (I : Inv X pins σ H s) (h : ∀ p ∈ pins',s.heap.get? p.1 = some p.2 ∧ H p.1 = none ∧ p.1 ≠ X.env.locals ∧ p.1 ∉ X.fs ∧ ∀ v,p.2.data ≠ .cell v) : Inv X pins' σ H s :=
 ⟨I.ok,I.os,I.bare,I.base,I.loc,I.cell,I.free,I.freeC,fun p hp => (List.mem_append.mp hp).elim (fun z => I.pin p (List.mem_append_left _ z)) (h p),I.hok,I.len⟩
theorem J9H {N : List Str} (hN : N.Nodup) {i j : Nat} {x : Str} (a : N[i]? = some x) (b : N[j]? = some x) : i = j := by
 obtain ⟨h1,e1⟩ := List.getElem?_eq_some_iff.mp a
 obtain ⟨h2,e2⟩ := List.getElem?_eq_some_iff.mp b
 exact (List.getElem_inj hN).mp (e1.trans e2.symm)
theorem Jc3 {M : Model} {A : Around} {E : Value → Shared → Prop} {i : Nat} {x : Str} {v : V} {u : Value} {Q : Unit → Shared → Prop} (I : Inv X pins σ H s) (hN : X.N.Nodup) (hi : X.N[i]? = some x) (hx : Loc X.env.scope x) (r : RelV v u)
  (h : ∀ s',Inv X pins (σ.set i (some v)) H s' → (∃ a,Heap.SameBut a s.heap s'.heap ∧ (a = X.env.locals ∨ X.env.cells.lookup x = some a)) → Q () s') (hf : X.fn x = true ∨ X.env.scope.names.lookup x = some .local := by first | exact .inl rfl | exact .inr rfl | assumption) : wpAny M A (storeName X.env x u) Q E s := by
 obtain ⟨m,hn,hl⟩ := id I.loc
 have hcls : (X.env.scope.kind == .class || (X.env.scope.kind == .module && X.env.locals != X.env.globals)) = false := by rw [I.ok.kind]; rfl
 have hiσ : i < σ.length := by rw [I.len]; exact (List.getElem?_eq_some_iff.mp hi).1
 have cne := I.cne
 have tracked : ∀ {a : Addr} {h' : Heap},(∃ o,s.heap.get? a = some o ∧ H a = none) → Heap.SameBut a s.heap h' → HOk X.prog X.w H h' := fun {a h'} ha hs b ob e => by
  obtain ⟨_,_,hfree⟩ := ha
  refine (I.hok b ob e).stay (fun c w' hc q => (hs.2 c ?_).trans q) (fun _ q => q) fun _ _ q => q
  rintro rfl
  rcases hc with rfl | hc
  ·rw [hfree] at e; cases e
  ·rw [hfree] at hc; cases hc
 rcases hx with hk | hk
 ·refine wpAny_storeName_local hk hn (fun h' hn' hs => ?_) hcls
  obtain ⟨oL,_,_,hoL,_⟩ := id hn
  refine h _ ⟨I.ok,I.os,I.bare,⟨fun b o e n hb hx => ?_,fun b o e n hb hx => ?_,I.base.free,fun b o e hx => ?_,I.base.tups,I.base.frzs,I.base.tbls⟩,⟨_,hn',fun j y v' e1 e2 e3 => ?_⟩,fun y c e => ?_,I.free,I.freeC,fun p hp => ?_,tracked ⟨oL,hoL,I.free⟩ hs,by simpa using I.len⟩ ⟨_,hs,.inl rfl⟩
  ·exact (hs.2 b (Nat.ne_of_lt (Nat.lt_of_lt_of_le (Heap.lt_size e) I.ok.above))).trans (I.base.keep b o e n hb hx)
  ·obtain ⟨sl,e1⟩ := I.base.slot b o e n hb hx
   exact ⟨sl,(hs.2 b (Nat.ne_of_lt (Nat.lt_of_lt_of_le (Heap.lt_size e) I.ok.above))).trans e1⟩
  ·obtain ⟨o',e1⟩ := I.base.there b o e hx
   exact ⟨o',(hs.2 b (Nat.ne_of_lt (Nat.lt_of_lt_of_le (Heap.lt_size e) I.ok.above))).trans e1⟩
  ·by_cases hj : j = i
   ·subst hj
    rw [hi] at e1; cases e1
    rw [List.getElem?_set_self hiσ] at e2
    cases e2
    exact ⟨u,r,.inl ⟨hk,by simp⟩⟩
   ·rw [List.getElem?_set_ne (Ne.symm hj)] at e2
    obtain ⟨u',r',q⟩ := hl j y v' e1 e2 e3
    refine ⟨u',r',?_⟩
    rcases q with ⟨k,e⟩ | ⟨k,c,e,z⟩
    ·refine .inl ⟨k,?_⟩
     have : y ≠ x := fun e => hj (J9H hN e1 (e ▸ hi))
     simp [this,e]
    ·exact .inr ⟨k,c,e,z.sameBut hs (cne y c e)⟩
  ·obtain ⟨w',z⟩ := I.cell y c e
   exact ⟨w',z.sameBut hs (cne y c e)⟩
  ·obtain ⟨e,n,ne,nf,d⟩ := I.pin p hp
   exact ⟨(hs.2 p.1 ne).trans e,n,ne,nf,d⟩
 ·have hfn : X.fn x = true := by
   rcases hf with z | z
   ·exact z
   ·rw [z] at hk; cases hk
  obtain ⟨c,hc⟩ := I.ok.has x (.inl hk)
  obtain ⟨w',z⟩ := I.cell x c hc
  refine wpAny_storeName_cell I.ok.kind hk hc z (fun h' hc' hs => ?_)
  obtain ⟨oc,hoc,hocd⟩ := id z
  refine h { s with heap := h' } ⟨I.ok,I.os,I.bare,⟨fun b o e n hb hx => ?_,fun b o e n hb hx => ?_,I.base.free,fun b o e hx => ?_,I.base.tups,I.base.frzs,I.base.tbls⟩,⟨m,hn.sameBut hs (Ne.symm (cne x c hc)),fun j y v' e1 e2 e3 => ?_⟩,fun y c' e => ?_,I.free,I.freeC,fun p hp => ?_,tracked ⟨oc,hoc,I.freeC x c hc⟩ hs,by simpa using I.len⟩ ⟨c,hs,.inr hc⟩
  ·exact (hs.2 b (Nat.ne_of_lt (Nat.lt_of_lt_of_le (Heap.lt_size e) (I.ok.cab x c hfn hc)))).trans (I.base.keep b o e n hb hx)
  ·obtain ⟨sl,e1⟩ := I.base.slot b o e n hb hx
   exact ⟨sl,(hs.2 b (Nat.ne_of_lt (Nat.lt_of_lt_of_le (Heap.lt_size e) (I.ok.cab x c hfn hc)))).trans e1⟩
  ·obtain ⟨o',e1⟩ := I.base.there b o e hx
   exact ⟨o',(hs.2 b (Nat.ne_of_lt (Nat.lt_of_lt_of_le (Heap.lt_size e) (I.ok.cab x c hfn hc)))).trans e1⟩
  ·by_cases hj : j = i
   ·subst hj
    rw [hi] at e1; cases e1
    rw [List.getElem?_set_self hiσ] at e2
    cases e2
    exact ⟨u,r,.inr ⟨.inl hk,c,hc,hc'⟩⟩
   ·rw [List.getElem?_set_ne (Ne.symm hj)] at e2
    obtain ⟨u',r',q⟩ := hl j y v' e1 e2 e3
    refine ⟨u',r',?_⟩
    rcases q with q | ⟨k,c',e,z'⟩
    ·exact .inl q
    ·refine .inr ⟨k,c',e,z'.sameBut hs ?_⟩
     rintro rfl
     exact hj (J9H hN e1 (I.ok.inj _ _ _ e hc ▸ hi))
  ·by_cases hcc : c' = c
   ·subst hcc; exact ⟨_,hc'⟩
   ·obtain ⟨w2,z2⟩ := I.cell y c' e
    exact ⟨w2,z2.sameBut hs hcc⟩
  ·obtain ⟨e,n,ne,nf,d⟩ := I.pin p hp
   refine ⟨(hs.2 p.1 ?_).trans e,n,ne,nf,d⟩
   intro q
   rw [q,hoc] at e
   have q' : oc = p.2 := Option.some.inj e
   exact d w' (by rw [← q']; exact hocd)
theorem J4T {M : Model} {A : Around} {E : Value → Shared → Prop} {i : Nat} {x : Str} {v : V} {u : Value} {Q : Unit → Shared → Prop} (I : Inv X pins σ H s) (hN : X.N.Nodup) (hi : X.N[i]? = some x) (hx : Loc X.env.scope x) (r : RelV v u)
  (h : ∀ s',Inv X pins (σ.set i (some v)) H s' → Q () s') (hf : X.fn x = true ∨ X.env.scope.names.lookup x = some .local := by first | exact .inl rfl | exact .inr rfl | assumption) : wpAny M A (storeName X.env x u) Q E s :=
 Jc3 I hN hi hx r (fun s' I' _ => h s' I') hf
theorem Inv.call' {s' : Shared} {ch : List Addr} (I : Inv X pins σ H s) (ho : s'.os = s.os) (u : Un (frs X.stack) ch H H' s.heap s'.heap) (hok : HOk X.prog X.w H' s'.heap) (hg : AllBare s'.gens)
  (hch : ∀ b ∈ ch,(b ∈ X.ex ∨ X.s₀.heap.objs.size ≤ b) ∧ b ≠ X.env.locals ∧ (∀ x c,X.env.cells.lookup x = some c → c ≠ b) ∧ ∀ p ∈ X.pn ++ pins,p.1 ≠ b) : Inv X pins σ H' s' := by
 obtain ⟨h',g',d',t',o'⟩ := s'
 have e : o' = s.os := ho
 subst e
 exact I.call (g' := g') (t' := t') (d' := d') u hok hg hch
end
noncomputable abbrev XK := Value → Option Addr → Hp → Prop
noncomputable abbrev St := List (Option V)
noncomputable abbrev VK := V → Hp → Prop
noncomputable abbrev TE := St → Hp → VK → Prop
noncomputable abbrev TT := St → Hp → (Bool → Hp → Prop) → Prop
noncomputable abbrev TA := St → Hp → (List V → Hp → Prop) → Prop
structure Ends where
 nx : St → Hp → Prop
 rt : VK
 bk : St → Hp → Prop := fun _ _ => False
 ct : St → Hp → Prop := fun _ _ => False
noncomputable abbrev TS := Ends → St → Hp → Prop
noncomputable def EP (X : Cx) (pins : List (Addr × Obj)) (σ : St) (Q : VK) (u : Value) (s' : Shared) : Prop := ∃ v H',Inv X pins σ H' s' ∧ RelV v u ∧ Q v H'
noncomputable def TP (X : Cx) (pins : List (Addr × Obj)) (σ : St) (Q : Bool → Hp → Prop) (b : Bool) (s' : Shared) : Prop := ∃ H',Inv X pins σ H' s' ∧ Q b H'
noncomputable def AP (X : Cx) (pins : List (Addr × Obj)) (σ : St) (Q : List V → Hp → Prop) (us : List Value) (s' : Shared) : Prop := ∃ vs H',Inv X pins σ H' s' ∧ Vals vs us ∧ Q vs H'
noncomputable def SP (X : Cx) (pins : List (Addr × Obj)) (D : Ends) (f : Flow) (s' : Shared) : Prop :=
 match f with
 | .next => ∃ σ' H',Inv X pins σ' H' s' ∧ D.nx σ' H'
 | .brk => ∃ σ' H',Inv X pins σ' H' s' ∧ D.bk σ' H'
 | .cont => ∃ σ' H',Inv X pins σ' H' s' ∧ D.ct σ' H'
 | .ret u => ∃ v σ' H',Inv X pins σ' H' s' ∧ RelV v u ∧ D.rt v H'
noncomputable def PE (X : Cx) (e : Expr) (t : TE) : Prop :=
 ∀ (pins : List (Addr × Obj)) (s : Shared) (σ : St) (H : Hp) (Q : VK),Inv X pins σ H s → t σ H Q → wpAny (model X.prog X.w) X.A (eval e X.env) (EP X pins σ Q) X.xe s
noncomputable def PT (X : Cx) (e : Expr) (t : TT) : Prop :=
 ∀ (pins : List (Addr × Obj)) (s : Shared) (σ : St) (H : Hp) (Q : Bool → Hp → Prop),Inv X pins σ H s → t σ H Q → wpAny (model X.prog X.w) X.A (isTrue e X.env (eval e X.env)) (TP X pins σ Q) X.xe s
noncomputable def PW (X : Cx) (e : Expr) (t : TT) : Prop :=
 ∀ (whole : Sem Value) (pins : List (Addr × Obj)) (s : Shared) (σ : St) (H : Hp) (Q : Bool → Hp → Prop),Inv X pins σ H s → t σ H Q → wpAny (model X.prog X.w) X.A (isTrue e X.env whole) (TP X pins σ Q) X.xe s
theorem PW.pt {X : Cx} {e : Expr} {t : TT} (h : PW X e t) : PT X e t := h _
noncomputable def PA (X : Cx) (es : List Expr) (t : TA) : Prop :=
 ∀ (pos : Pos) (pins : List (Addr × Obj)) (s : Shared) (σ : St) (H : Hp) (Q : List V → Hp → Prop),Inv X pins σ H s → t σ H Q → wpAny (model X.prog X.w) X.A (spliced (backTo pos (starEach es X.env))) (AP X pins σ Q) X.xe s
noncomputable def PS (X : Cx) (st : Stmt) (t : TS) : Prop :=
 ∀ (pins : List (Addr × Obj)) (s : Shared) (σ : St) (H : Hp) (D : Ends),Inv X pins σ H s → t D σ H → wpAny (model X.prog X.w) X.A (exec st X.env) (SP X pins D) X.xe s
noncomputable def PSs (X : Cx) (st : List Stmt) (t : TS) : Prop :=
 ∀ (pins : List (Addr × Obj)) (s : Shared) (σ : St) (H : Hp) (D : Ends),Inv X pins σ H s → t D σ H → wpAny (model X.prog X.w) X.A (execs st X.env) (SP X pins D) X.xe s
theorem thn {α : Type} {t : Sem α} {Q Q' : α → Shared → Prop} {M : Model} {A : Around} {E : Value → Shared → Prop} {s : Shared} (h : wpAny M A t Q E s) (hQ : ∀ a s,Q a s → Q' a s) : wpAny M A t Q' E s := wpAny_mono h hQ fun _ _ x => x
end L2
namespace L2
open PySem PySem.Spec PyProof.Rows
section
variable {X : Cx}
noncomputable def tVar (i : Nat) : TE := fun σ H Q => ∃ v,σ[i]? = some (some v) ∧ Q v H
noncomputable def tC (v : V) : TE := fun _ H Q => Q v H
theorem Jf4 {i : Nat} {x : Str} {pos : Pos} (hN : X.N[i]? = some x) (hv : Vis X.env.scope x) (hd : (x == ("__debug__" : Str)) = false := by decide) (hcd : (x == ("__classdict__" : Str)) = false := by decide) : PE X (.Name x pos) (tVar i) := by
 intro pins s σ H Q I h
 obtain ⟨v,e,h⟩ := h
 obtain ⟨m,hn,hl⟩ := I.loc
 obtain ⟨u,r,l⟩ := hl i x v hN e hv
 have fin : EP X pins σ Q u s := ⟨v,H,I,r,h⟩
 rcases l with ⟨hk,hm⟩ | ⟨hk,c,hc,hcell⟩
 ·exact wpAny_Name (wpAny_loadName_local I.ok.kind hk hn hm fin) hd
 ·rcases hk with hk | hk
  ·exact wpAny_Name (wpAny_loadName_cell I.ok.kind hk hc hcell fin) hd
  ·exact wpAny_Name (wpAny_loadName_free I.ok.kind hk hc hcell fin hcd) hd
theorem J8 {i j pos} : PE X (.Constant (.int i) j pos) (tC (.int i)) := fun _ _ _ H _ I h => wpAny_Constant_int ⟨.int i,H,I.tok _,⟨_,rfl⟩,h⟩
theorem J2W {b j pos} : PE X (.Constant (.bool b) j pos) (tC (.bl b)) := fun _ _ _ H _ I h => Constant_bool ⟨.bl b,H,I,rfl,h⟩
theorem Jao {j pos} : PE X (.Constant .none j pos) (tC .non) := fun _ _ _ H _ I h => Constant_none ⟨.non,H,I,rfl,h⟩
theorem Jfb {x j pos} : PE X (.Constant (.str x) j pos) (tC (.str x)) := fun _ _ _ H _ I h => Calls.Constant_str ⟨.str x,H,I.tok _,⟨_,rfl⟩,h⟩
noncomputable def Gl (X : Cx) (x : Str) : Prop := X.env.kindOf x = some .globalImplicit
theorem J68 {E : Value → Shared → Prop} {pins : List (Addr × Obj)} {s : Shared} {σ : St} {H : Hp} {x : Str} {u : Value} {pos : Pos} {Q : Value → Shared → Prop} (I : Inv X pins σ H s) (hg : Gl X x) (hm : X.mg x = some u) (h : Q u s)
  (hd : (x == ("__debug__" : Str)) = false := by decide) : wpAny (model X.prog X.w) X.A (eval (.Name x pos) X.env) Q E s :=
 Calls.Name_function_global I.ok.kind hg (Calls.loadGlobal_global (by rw [I.ok.glob]; exact I.mod.glob.keeps I.bk) hm h) hd
theorem J3r {E : Value → Shared → Prop} {pins : List (Addr × Obj)} {s : Shared} {σ : St} {H : Hp} {x : Str} {u : Value} {pos : Pos} {Q : Value → Shared → Prop} (I : Inv X pins σ H s) (hg : Gl X x) (hm : X.mg x = none) (hv : bootBuiltins x = some u) (h : Q u s)
  (hn : x ≠ "__name__" := by decide) (hd : (x == ("__debug__" : Str)) = false := by decide) : wpAny (model X.prog X.w) X.A (eval (.Name x pos) X.env) Q E s := by
 obtain ⟨mb,h1,h2⟩ := I.mod.blt
 exact Calls.Name_function_global I.ok.kind hg (Calls.loadGlobal_builtin (by rw [I.ok.glob]; exact I.mod.glob.keeps I.bk) hm (by rw [I.ok.blt]; exact h1.keeps I.bk) ((h2 x hn).trans hv) h) hd
theorem Je9 {x : Str} {v : V} {u : Value} {pos : Pos} (hg : Gl X x) (hm : X.mg x = some u) (r : RelV v u) (hd : (x == ("__debug__" : Str)) = false := by decide) : PE X (.Name x pos) (tC v) :=
 fun _ _ _ H _ I h => J68 I hg hm ⟨v,H,I,r,h⟩ hd
theorem Je6 {x : Str} {v : V} {u : Value} {pos : Pos} (hg : Gl X x) (hm : X.mg x = none) (hv : bootBuiltins x = some u) (r : RelV v u) (hn : x ≠ "__name__" := by decide) (hd : (x == ("__debug__" : Str)) = false := by decide) : PE X (.Name x pos) (tC v) :=
 fun _ _ _ H _ I h => J3r I hg hm hv ⟨v,H,I,r,h⟩ hn hd
variable {a b : Expr} {ta tb : TE} {pos : Pos}
noncomputable def tB (t : TE) : TT := fun σ H Q => t σ H fun x H1 => ∃ c,x = .bl c ∧ Q c H1
theorem J3T {e : Expr} {t : TE} (h : PE X e t) (he : ∀ whole,isTrue e X.env whole = (do let v ← whole; standAt e.pos; holding [v] (truthy v)) := by intro _; rfl) : PT X e (tB t) := by
 intro pins s σ H Q I hw
 refine isTrue_plain (thn (h pins s σ H _ I hw) fun v s1 ⟨x,H1,I1,r1,q1⟩ => ?_) (he _)
 obtain ⟨d,rfl,q⟩ := q1
 cases r1
 exact wpAny_truthy_bool ⟨H1,I1,q⟩
variable {tA tB' : TT} {rest : List Expr}
noncomputable def tAnd (t u : TT) : TT := fun σ H Q => t σ H fun c H1 => if c = true then u σ H1 Q else Q false H1
noncomputable def tOr (t u : TT) : TT := fun σ H Q => t σ H fun c H1 => if c = true then Q true H1 else u σ H1 Q
noncomputable def tNot (t : TT) : TT := fun σ H Q => t σ H fun c H1 => Q (!c) H1
theorem J2v (ha : PT X a tA) : PW X (.BoolOp .And [a] pos) tA := by
 intro wh pins s σ H Q I h
 refine isTrue_and (thn (ha pins s σ H Q I h) fun c s1 e => ?_)
 cases c with
 | true => exact isTrue_and_nil e
 | false => exact e
theorem J3p (ha : PT X a tA) : PW X (.BoolOp .Or [a] pos) tA := by
 intro wh pins s σ H Q I h
 refine isTrue_or (thn (ha pins s σ H Q I h) fun c s1 e => ?_)
 cases c with
 | false => exact isTrue_or_nil e
 | true => exact e
theorem J38 (ha : PT X a tA) (hb : PW X (.BoolOp .And (b :: rest) pos) tB') : PW X (.BoolOp .And (a :: b :: rest) pos) (tAnd tA tB') := by
 intro wh pins s σ H Q I h
 refine isTrue_and (thn (ha pins s σ H _ I h) fun c s1 ⟨H1,I1,q1⟩ => ?_)
 cases c with
 | true => exact hb wh pins s1 σ H1 Q I1 q1
 | false => exact ⟨H1,I1,q1⟩
theorem J3z (ha : PT X a tA) (hb : PW X (.BoolOp .Or (b :: rest) pos) tB') : PW X (.BoolOp .Or (a :: b :: rest) pos) (tOr tA tB') := by
 intro wh pins s σ H Q I h
 refine isTrue_or (thn (ha pins s σ H _ I h) fun c s1 ⟨H1,I1,q1⟩ => ?_)
 cases c with
 | true => exact ⟨H1,I1,q1⟩
 | false => exact hb wh pins s1 σ H1 Q I1 q1
theorem J8O (ha : PT X a tA) : PT X (.UnaryOp .Not a pos) (tNot tA) := by
 intro pins s σ H Q I h
 exact isTrue_not (ha pins s σ H (fun c H1 => Q (!c) H1) I h)
noncomputable def Jg2 (ta tb : TE) : TE := fun σ H Q => ta σ H fun x H1 => ∃ c,x = .bl c ∧ if c = true then tb σ H1 Q else Q (.bl false) H1
theorem JaK {op} {t : TE} (h : PE X a t) : PE X (.BoolOp op [a] pos) t := fun pins s σ H Q I hw => BoolOp_one (h pins s σ H Q I hw)
theorem Jap (ha : PE X a ta) (hb : PE X (.BoolOp .And (b :: rest) pos) tb) : PE X (.BoolOp .And (a :: b :: rest) pos) (Jg2 ta tb) := by
 intro pins s σ H Q I h
 refine BoolOp_and (thn (ha pins s σ H _ I h) fun v s1 ⟨x,H1,I1,r1,q1⟩ => ?_)
 obtain ⟨c,rfl,q1⟩ := q1
 cases r1
 refine wpAny_truthy_bool ?_
 cases c with
 | true => exact hb pins s1 σ H1 Q I1 q1
 | false => exact ⟨.bl false,H1,I1,rfl,q1⟩
noncomputable def tIf (t : TT) (ta tb : TE) : TE := fun σ H Q => t σ H fun c H1 => if c = true then ta σ H1 Q else tb σ H1 Q
theorem J78 {c : Expr} (hc : PT X c tA) (ha : PE X a ta) (hb : PE X b tb) : PE X (.IfExp c a b pos) (tIf tA ta tb) := by
 intro pins s σ H Q I h
 refine wpAny_IfExp (thn (hc pins s σ H _ I h) fun d s1 ⟨H1,I1,q1⟩ => ?_)
 cases d with
 | true => exact ha pins s1 σ H1 Q I1 q1
 | false => exact hb pins s1 σ H1 Q I1 q1
end
end L2
namespace L2
open PySem PySem.Spec PyProof.Rows
noncomputable def SqL (K : PySem.W.Frag) (H : Hp) (a : Addr) (xs : List V) : Prop :=
 Rd H a (.lst xs) ∨
  ∃ (o : Obj) (its : Array Value) (n : Nat),K.lookup a = some o ∧ o.cls = .type "list" ∧ o.dict = none ∧ o.data = .seq its n ∧ its.size ≤ sizeLine ∧ Vals xs its.toList
noncomputable def SqT (K : PySem.W.Frag) (H : Hp) (a : Addr) (xs : List V) : Prop :=
 Rd H a (.tup xs) ∨
  ∃ (o : Obj) (its : Array Value) (n : Nat),K.lookup a = some o ∧ o.cls = .type "tuple" ∧ o.data = .seq its n ∧ its.size ≤ sizeLine ∧ Vals xs its.toList
noncomputable def absV : Value → Option V
 | .none => some .non
 | .bool b => some (.bl b)
 | .int i _ => some (.int i)
 | .str x _ => some (.str x)
 | .bytes b _ => some (.byt b)
 | .float b _ => some (.flt b)
 | .ref a => some (.ref a)
 | .type n => some (.ty n)
 | _ => none
theorem RelV.abs {x : V} {u : Value} (r : RelV x u) : absV u = some x := by
 cases x with
 | non => cases r; rfl
 | bl _ => cases r; rfl
 | int _ => obtain ⟨t,rfl⟩ := r; rfl
 | str _ => obtain ⟨t,rfl⟩ := r; rfl
 | byt _ => obtain ⟨t,rfl⟩ := r; rfl
 | flt _ => obtain ⟨t,rfl⟩ := r; rfl
 | ref _ => cases r; rfl
 | ty _ => cases r; rfl
theorem RelV.inj {x y : V} {u : Value} (r : RelV x u) (q : RelV y u) : x = y := Option.some.inj (r.abs.symm.trans q.abs)
theorem Vals.inj : ∀ {xs ys : List V} {us : List Value},Vals xs us → Vals ys us → xs = ys
 | _,_,_,.nil,.nil => rfl
 | _,_,_,.cons r t,.cons r' t' => by rw [r.inj r',Vals.inj t t']
section
variable {X : Cx} {pins : List (Addr × Obj)} {σ : St} {H : Hp} {s : Shared} {a : Addr} {xs ys : List V}
theorem SqL.of {K : PySem.W.Frag} (h : H a = some (.lst xs)) : SqL K H a xs := .inl (.inl h)
theorem SqT.of {K : PySem.W.Frag} (h : H a = some (.tup xs)) : SqT K H a xs := .inl (.inl h)
theorem Inv.list (I : Inv X pins σ H s) (h : SqL X.K H a xs) : ∃ its : List Value,Vals xs its ∧ PlainL s.heap a its.toArray ∧ xs.length ≤ sizeLine := by
 rcases h with h | ⟨o,its,n,hk,hc,hd,hs,hz,r⟩
 ·obtain ⟨z,its,n,r,e⟩ := h.ok I.hok
  exact ⟨its,r,⟨_,n,e,rfl,rfl,rfl⟩,z⟩
 ·refine ⟨its.toList,r,⟨o,n,I.kIn a o hk,hc,hd,by simpa using hs⟩,?_⟩
  have e := r.length
  simp only [Array.length_toList] at e
  omega
theorem Inv.tuple (I : Inv X pins σ H s) (h : SqT X.K H a xs) : ∃ its : List Value,Vals xs its ∧ IsTup s.heap a its.toArray ∧ xs.length ≤ sizeLine := by
 rcases h with h | ⟨o,its,n,hk,hc,hs,hz,r⟩
 ·obtain ⟨z,its,r,p⟩ := h.ok I.hok
  exact ⟨its,r,p,z⟩
 ·refine ⟨its.toList,r,⟨o,I.kIn a o hk,hc,n,by simpa using hs⟩,?_⟩
  have e := r.length
  simp only [Array.length_toList] at e
  omega
theorem Inv.list_inj (I : Inv X pins σ H s) (h : SqL X.K H a xs) (h' : SqL X.K H a ys) : xs = ys := by
 obtain ⟨its,r,⟨o,n,e,_,_,d⟩,_⟩ := I.list h
 obtain ⟨its',r',⟨o',n',e',_,_,d'⟩,_⟩ := I.list h'
 rw [e] at e'; cases e'
 rw [d] at d'
 injection d' with d1 _
 have : its = its' := by simpa using congrArg Array.toList d1
 subst this
 exact r.inj r'
theorem Inv.tuple_inj (I : Inv X pins σ H s) (h : SqT X.K H a xs) (h' : SqT X.K H a ys) : xs = ys := by
 obtain ⟨its,r,⟨o,e,_,n,d⟩,_⟩ := I.tuple h
 obtain ⟨its',r',⟨o',e',_,n',d'⟩,_⟩ := I.tuple h'
 rw [e] at e'; cases e'
 rw [d] at d'
 injection d' with d1 _
 have : its = its' := by simpa using congrArg Array.toList d1
 subst this
 exact r.inj r'
end
noncomputable abbrev Cx.wish (X : Cx) (E : Value → Shared → Prop) : Cx := { X with xe := E }
noncomputable abbrev Cx.nox (X : Cx) : Cx := X.wish fun _ _ => False
theorem Cx.Ok.wish {X : Cx} (ok : X.Ok) (E : Value → Shared → Prop) : (X.wish E).Ok :=
 ⟨ok.mod,ok.kind,ok.glob,ok.blt,ok.above,ok.inj,ok.has,ok.cab,ok.hd,ok.frames,ok.stk,ok.exf,ok.bs,ok.bsz,ok.noex,ok.exfs,ok.funs,ok.frf⟩
theorem Cx.Ok.unwish {X : Cx} {E : Value → Shared → Prop} (ok : (X.wish E).Ok) : X.Ok :=
 ⟨ok.mod,ok.kind,ok.glob,ok.blt,ok.above,ok.inj,ok.has,ok.cab,ok.hd,ok.frames,ok.stk,ok.exf,ok.bs,ok.bsz,ok.noex,ok.exfs,ok.funs,ok.frf⟩
section
variable {X : Cx} {pins : List (Addr × Obj)} {σ : St} {H : Hp} {s : Shared} {E : Value → Shared → Prop}
theorem Inv.wish (I : Inv X pins σ H s) (E : Value → Shared → Prop) : Inv (X.wish E) pins σ H s := ⟨I.ok.wish E,I.os,I.bare,I.base,I.loc,I.cell,I.free,I.freeC,I.pin,I.hok,I.len⟩
theorem Inv.unwish (I : Inv (X.wish E) pins σ H s) : Inv X pins σ H s := ⟨I.ok.unwish,I.os,I.bare,I.base,I.loc,I.cell,I.free,I.freeC,I.pin,I.hok,I.len⟩
theorem SP.unwish {D : Ends} {f : Flow} {s' : Shared} (h : SP (X.wish E) pins D f s') : SP X pins D f s' := by
 cases f with
 | next => obtain ⟨σ',H',I,q⟩ := h; exact ⟨σ',H',I.unwish,q⟩
 | brk => obtain ⟨σ',H',I,q⟩ := h; exact ⟨σ',H',I.unwish,q⟩
 | cont => obtain ⟨σ',H',I,q⟩ := h; exact ⟨σ',H',I.unwish,q⟩
 | ret u => obtain ⟨v,σ',H',I,r,q⟩ := h; exact ⟨v,σ',H',I.unwish,r,q⟩
theorem PSs.nox {st : List Stmt} {t : TS} (h : PSs X.nox st t) : PSs X st t := fun pins s σ H D I hw =>
 wpAny_mono (h pins s σ H D (I.wish _) hw) (fun _ _ q => q.unwish) fun _ _ z => False.elim z
end
section
variable {X : Cx} {st : Stmt} {rest : List Stmt} {t u : TS} {e : Expr} {te : TE} {pos : Pos}
noncomputable def JfJ : TS := fun D σ H => D.nx σ H
noncomputable def tSeq (t u : TS) : TS := fun D σ H => t { D with nx := u D } σ H
theorem JK : PSs X [] JfJ := fun _ _ σ H _ I h => wpAny_execs_nil ⟨σ,H,I,h⟩
theorem J6 (h1 : PS X st t) (h2 : PSs X rest u) : PSs X (st :: rest) (tSeq t u) := by
 intro pins s σ H D I h
 refine wpAny_execs_cons (thn (h1 pins s σ H { D with nx := u D } I h) fun f s1 q => ?_)
 cases f with
 | next =>
  obtain ⟨σ',H',I',q⟩ := q
  exact h2 pins s1 σ' H' D I' q
 | ret v => exact q
 | brk => exact q
 | cont => exact q
theorem Jh (h1 : PS X st t) : PSs X [st] t := by
 intro pins s σ H D I h
 refine wpAny_execs_cons (thn (h1 pins s σ H D I h) fun f s1 q => ?_)
 cases f with
 | next => exact wpAny_execs_nil q
 | ret v => exact q
 | brk => exact q
 | cont => exact q
theorem Inv.quiet {pins : List (Addr × Obj)} {σ : St} {H : Hp} {s : Shared} (I : Inv X pins σ H s) : interactive X.env = false := by simp [interactive,I.ok.kind]
noncomputable def JfW (te : TE) : TS := fun D σ H => te σ H fun _ H1 => D.nx σ H1
theorem J2X (he : PE X e te) (hs : swapsWith e none pos.line X.env = pure false := by rfl) : PS X (.Expr e pos) (JfW te) := by
 intro pins s σ H D I h
 exact wpAny_Expr_any (thn (he pins s σ H _ I h) fun v s1 ⟨x,H1,I1,r1,q1⟩ => ⟨σ,H1,I1,q1⟩) I.quiet hs
noncomputable def tRet (te : TE) : TS := fun D σ H => te σ H D.rt
theorem Jv (he : PE X e te) : PS X (.Return (some e) pos) (tRet te) := by
 intro pins s σ H D I h
 exact wpAny_Return_some (thn (he pins s σ H _ I h) fun v s1 ⟨x,H1,I1,r1,q1⟩ => ⟨x,σ,H1,I1,r1,q1⟩)
noncomputable def tIfS (c : TT) (t u : TS) : TS := fun D σ H => c σ H fun b H1 => if b = true then t D σ H1 else u D σ H1
theorem J0E {c : Expr} {a b : List Stmt} {tc : TT} (hc : PT X c tc) (ha : PSs X a t) (hb : PSs X b u) : PS X (.If c a b pos) (tIfS tc t u) := by
 intro pins s σ H D I h
 refine wpAny_If (thn (hc pins s σ H _ I h) fun d s1 ⟨H1,I1,q1⟩ => ?_)
 cases d with
 | true => exact ha pins s1 σ H1 D I1 q1
 | false => exact hb pins s1 σ H1 D I1 q1
noncomputable def Jf6 : TS := fun _ _ _ => False
theorem Jcz : PS X st Jf6 := fun _ _ _ _ _ _ h => h.elim
end
noncomputable abbrev TG := V → St → Hp → (St → Hp → Prop) → Prop
noncomputable abbrev TGs := List V → St → Hp → (St → Hp → Prop) → Prop
noncomputable def PG (X : Cx) (target : Expr) (t : TG) : Prop :=
 ∀ (pins : List (Addr × Obj)) (s : Shared) (σ : St) (H : Hp) (v : V) (u : Value) (Q : St → Hp → Prop),Inv X pins σ H s → RelV v u → t v σ H Q →
  wpAny (model X.prog X.w) X.A (assign target X.env u) (fun _ s' => ∃ σ' H',Inv X pins σ' H' s' ∧ Q σ' H') X.xe s
noncomputable def PGs (X : Cx) (ts : List Expr) (t : TGs) : Prop :=
 ∀ (pins : List (Addr × Obj)) (s : Shared) (σ : St) (H : Hp) (vs : List V) (us : List Value) (Q : St → Hp → Prop),Inv X pins σ H s → Vals vs us → t vs σ H Q →
  wpAny (model X.prog X.w) X.A (assignInOrder ((assignEach ts X.env).map (·.2)) us) (fun _ s' => ∃ σ' H',Inv X pins σ' H' s' ∧ Q σ' H') X.xe s
noncomputable abbrev TSet := V → V → V → Hp → (Hp → Prop) → Prop
noncomputable def PSet (X : Cx) (t : TSet) : Prop :=
 ∀ (pins : List (Addr × Obj)) (s : Shared) (σ : St) (H : Hp) (o i v : V) (ov iv u : Value) (Q : Hp → Prop),Inv X pins σ H s → RelV o ov → RelV i iv → RelV v u → t o i v H Q →
  wpAny (model X.prog X.w) X.A (setItem ov iv u) (fun _ s' => ∃ H',Inv X pins σ H' s' ∧ Q H') X.xe s
noncomputable abbrev TIp := V → V → Hp → VK → Prop
noncomputable def PIp (X : Cx) (op : Operator) (t : TIp) : Prop :=
 ∀ (pins : List (Addr × Obj)) (s : Shared) (σ : St) (H : Hp) (x y : V) (v u : Value) (Q : VK),Inv X pins σ H s → RelV x v → RelV y u → t x y H Q →
  wpAny (model X.prog X.w) X.A (inplaceOp op v u) (EP X pins σ Q) X.xe s
section
variable {X : Cx} {pos : Pos}
noncomputable def J4P (i : Nat) : TG := fun v σ H Q => Q (σ.set i (some v)) H
theorem Jm {i : Nat} {x : Str} (hN : X.N.Nodup) (hi : X.N[i]? = some x) (hx : Loc X.env.scope x) (hf : X.fn x = true ∨ X.env.scope.names.lookup x = some .local := by first | exact .inl rfl | exact .inr rfl | assumption) : PG X (.Name x pos) (J4P i) := by
 intro pins s σ H v u Q I r h
 exact wpAny_assign_Name (J4T I hN hi hx r (fun s' I' => ⟨_,H,I',h⟩) hf)
noncomputable def gNil : TGs := fun vs σ H Q => vs = [] ∧ Q σ H
noncomputable def Ja0 (t : TG) (u : TGs) : TGs := fun vs σ H Q => ∃ v r,vs = v :: r ∧ t v σ H fun σ' H' => u r σ' H' Q
theorem J1z : PGs X [] gNil := by
 intro pins s σ H vs us Q I r h
 obtain ⟨e,h⟩ := h
 subst e
 cases r
 exact assignInOrder_nil ⟨σ,H,I,h⟩
theorem JE {e : Expr} {es : List Expr} {t : TG} {u : TGs} (h1 : PG X e t) (h2 : PGs X es u)
  (hs : (assignEach (e :: es) X.env).map (·.2) = assign e X.env :: (assignEach es X.env).map (·.2) := by rfl) : PGs X (e :: es) (Ja0 t u) := by
 intro pins s σ H vs us Q I r h
 obtain ⟨v,vr,e1,h⟩ := h
 subst e1
 cases r with
 | cons r rr =>
  rw [hs]
  refine assignInOrder_cons (thn (h1 pins s σ H _ _ _ I r h) fun _ s1 ⟨σ1,H1,I1,q1⟩ => ?_)
  exact h2 pins s1 σ1 H1 _ _ Q I1 rr q1
noncomputable def gTup (K : PySem.W.Frag) (n : Nat) (t : TGs) : TG := fun v σ H Q => ∃ a xs,v = .ref a ∧ SqT K H a xs ∧ xs.length = n ∧ t xs σ H Q
theorem J2C {es : List Expr} {k : Nat} {t : TGs} {n : Nat} (hc : X.calm = true) (h : PGs X es t)
  (hn : (assignEach es X.env).length = n := by rfl) (hst : (assignEach es X.env).findIdx? (·.1) = none := by rfl) : PG X (.Tuple es k pos) (gTup X.K n t) := by
 intro pins s σ H v u Q I r hw
 obtain ⟨a,xs,e1,hq,hl,hw⟩ := hw
 subst e1
 cases r
 obtain ⟨its,rv,ht,hz⟩ := I.tuple hq
 refine assign_Tuple_tuple (I.ok.hd hc) ht (by simp [hn,← hl,rv.length]) hst fun h' hx => ?_
 have I1 : Inv X pins σ H { s with heap := h' } := I.kept (t' := s.toks) fun b o e => hx b o (Nat.ne_of_lt (Heap.lt_size e)) e
 exact h pins _ σ H xs _ Q I1 (by simpa using rv) hw
noncomputable def gSub (to ti : TE) (t : TSet) : TG := fun v σ H Q => to σ H fun o H1 => ti σ H1 fun i H2 => t o i v H2 fun H3 => Q σ H3
theorem JeR {o i : Expr} {to ti : TE} {t : TSet} (ho : PE X o to) (hi : PE X i ti) (hs : PSet X t)
  (ha : ∀ v,assign (.Subscript o i pos) X.env v = (do
   let ov ← holding [v] (eval o X.env)
   let iv ← holding [v,ov] (eval i X.env)
   standAt pos
   holding [v,ov,iv] (setItem ov iv v)
   release [v,ov,iv] []) := by intro _; rfl) : PG X (.Subscript o i pos) (gSub to ti t) := by
 intro pins s σ H v u Q I r h
 rw [ha]
 refine wpAny_bind (wpAny_holding (thn (ho pins s σ H _ I h) fun ov s1 ⟨x,H1,I1,r1,q1⟩ => ?_))
 refine wpAny_bind (wpAny_holding (thn (hi pins s1 σ H1 _ I1 q1) fun iv s2 ⟨y,H2,I2,r2,q2⟩ => ?_))
 refine wpAny_bind (wpAny_standAt (wpAny_bind (wpAny_holding (thn (hs pins s2 σ H2 x y v ov iv u _ I2 r1 r2 r q2) fun _ s3 ⟨H3,I3,q3⟩ => ?_))))
 exact wpAny_release ⟨σ,H3,I3,q3⟩
noncomputable def tAsg (te : TE) (g : TG) : TS := fun D σ H => te σ H fun x H1 => g x σ H1 D.nx
theorem Jfc {tg e : Expr} {te : TE} {g : TG} (he : PE X e te) (hg : PG X tg g) (hs : swapsWithSole [tg] e pos.line X.env = pure false := by rfl) (hw : swappedStores [tg] e X.env = pure none := by rfl)
  (h1 : (assignEach [tg] X.env).map (·.2) = [assign tg X.env] := by rfl) : PS X (.Assign [tg] e pos) (tAsg te g) := by
 intro pins s σ H D I h
 refine wpAny_Assign_stores (thn (he pins s σ H _ I h) fun v s1 ⟨x,H1,I1,r1,q1⟩ => ?_) hs hw
 rw [h1]
 exact thn (hg pins s1 σ H1 x v _ I1 r1 q1) fun _ s2 q => q
theorem Jq {i : Nat} {x : Str} {e : Expr} {te : TE} {pos' : Pos} (hN : X.N.Nodup) (hi : X.N[i]? = some x) (hx : Loc X.env.scope x) (he : PE X e te) (hs : swapsWith e (some (.Name x pos')) pos.line X.env = pure false := by rfl) (hf : X.fn x = true ∨ X.env.scope.names.lookup x = some .local := by first | exact .inl rfl | exact .inr rfl | assumption) :
  PS X (.Assign [.Name x pos'] e pos) (tAsg te (J4P i)) := by
 intro pins s σ H D I h
 refine wpAny_Assign_Name (thn (he pins s σ H _ I h) fun v s1 ⟨y,H1,I1,r1,q1⟩ => ?_) hs
 exact J4T I1 hN hi hx r1 (fun s2 I2 => ⟨_,H1,I2,q1⟩) hf
noncomputable def tAug (i : Nat) (te : TE) (ti : TIp) : TS := fun D σ H => ∃ x,σ[i]? = some (some x) ∧ te σ H fun y H1 => ti x y H1 fun z H2 => D.nx (σ.set i (some z)) H2
theorem J2S {i : Nat} {x : Str} {e : Expr} {te : TE} {op : Operator} {ti : TIp} {pos' : Pos} (hN : X.N.Nodup) (hi : X.N[i]? = some x) (hx : Loc X.env.scope x) (he : PE X e te) (ho : PIp X op ti) (hf : X.fn x = true ∨ X.env.scope.names.lookup x = some .local := by first | exact .inl rfl | exact .inr rfl | assumption) :
  PS X (.AugAssign (.Name x pos') op e pos) (tAug i te ti) := by
 intro pins s σ H D I h
 obtain ⟨v,e1,h⟩ := h
 obtain ⟨m,hn,hl⟩ := I.loc
 have vis : Vis X.env.scope x := by rcases hx with k | k; exact .inl k; exact .inr (.inl k)
 obtain ⟨u,r,l⟩ := hl i x v hi e1 vis
 refine wpAny_AugAssign_Name ?_
 have go : wpAny (model X.prog X.w) X.A (eval e X.env) (fun w s₂ => wpAny (model X.prog X.w) X.A (inplaceOp op u w) (fun r s₃ => wpAny (model X.prog X.w) X.A (storeName X.env x r) (fun _ => SP X pins D .next) X.xe s₃) X.xe s₂) X.xe s := by
  refine thn (he pins s σ H _ I h) fun w s1 ⟨y,H1,I1,r1,q1⟩ => ?_
  refine thn (ho pins s1 σ H1 v y u w _ I1 r r1 q1) fun z s2 ⟨zv,H2,I2,r2,q2⟩ => ?_
  exact J4T I2 hN hi hx r2 (fun s3 I3 => ⟨_,H2,I3,q2⟩) hf
 rcases l with ⟨hk,hm⟩ | ⟨hk,c,hc,hcell⟩
 ·exact wpAny_loadName_local I.ok.kind hk hn hm go
 ·rcases hk with hk | hk
  ·exact wpAny_loadName_cell I.ok.kind hk hc hcell go
  ·rcases hx with k | k
   ·have : X.env.scope.names.lookup x = some .free := hk
    rw [k] at this; cases this
   ·have : X.env.scope.names.lookup x = some .free := hk
    rw [k] at this; cases this
noncomputable def ipI (f : Int → Int → Int) : TIp := fun x y H Q => ∃ i j,x = .int i ∧ y = .int j ∧ Q (.int (f i j)) H
theorem J8Z : PIp X .Add (ipI fun i j => i + j) := by
 intro pins s σ H x y v u Q I r1 r2 h
 obtain ⟨i,j,e1,e2,q⟩ := h
 subst e1; subst e2
 obtain ⟨t,rfl⟩ := r1
 obtain ⟨t',rfl⟩ := r2
 exact iadd_int ⟨.int _,H,I.tok _,⟨_,rfl⟩,q⟩
end
section
variable {X : Cx} {pos : Pos}
end
structure It where
 go : Nat → Hp → Prop
 yld : Nat → Hp → V → Hp → Prop
 stop : Nat → Hp → Prop
noncomputable def FpOk (X : Cx) (pins : List (Addr × Obj)) (H : Hp) (b : Addr) : Prop :=
 H b = none ∧ b ≠ X.env.locals ∧ b ∉ X.fs ∧ (b ∈ X.ex ∨ X.s₀.heap.objs.size ≤ b) ∧ (∀ x c,X.env.cells.lookup x = some c → c ≠ b) ∧ ∀ p ∈ X.pn ++ pins,p.1 ≠ b
theorem Inv.fpOk {X : Cx} {pins : List (Addr × Obj)} {σ : St} {H H' : Hp} {s : Shared} {b : Addr} (I : Inv X pins σ H s) (hb : s.heap.objs.size ≤ b) (hn : H' b = none) : FpOk X pins H' b := by
 refine ⟨hn,Nat.ne_of_gt (Nat.lt_of_lt_of_le I.lt hb),I.nofs hb,.inr (Nat.le_trans I.sz hb),fun x c e z => ?_,fun p hp z => ?_⟩
 ·obtain ⟨v,q⟩ := I.cell x c e
  exact absurd (Nat.lt_of_lt_of_le q.lt (by rw [z]; exact hb)) (Nat.lt_irrefl _)
 ·exact absurd (Nat.lt_of_lt_of_le (Heap.lt_size (I.pin p hp).1) (by rw [z]; exact hb)) (Nat.lt_irrefl _)
structure Turn (P : Program) (w : World) (K : PySem.W.Frag) (tg : Expr) (J : It) (fp : List Addr) (it : Addr) (tn : Nat → Heap → Prop) : Prop where
 mem : it ∈ fp
 obj : ∀ i h,tn i h → ∀ b ∈ fp,∃ o,h.get? b = some o ∧ ∀ v,o.data ≠ .cell v
 keep : ∀ i h h',tn i h → (∀ b ∈ fp,∀ o,h.get? b = some o → h'.get? b = some o) → tn i h'
 item : ∀ (X : Cx),X.prog = P → X.w = w → X.K = K → X.calm = true → ∀ (i : Nat) (pins : List (Addr × Obj)) (s : Shared) (σ : St) (H : Hp) (E : Value → Shared → Prop),Inv X pins σ H s → (∀ b ∈ fp,FpOk X pins H b) → tn i s.heap → J.go i H →
  wpAny (model P w) X.A (pyNext (.ref it)) (fun r s1 => ∃ u,r = some u ∧
   wpAny (model P w) X.A (letOwnedTupleGo tg (.ref it) u) (fun _ s2 => ∃ x H',Inv X pins σ H' s2 ∧ RelV x u ∧ J.yld i H x H' ∧ tn (i + 1) s2.heap ∧ ∀ b ∈ fp,H' b = none) E s1) E s
 done : ∀ (X : Cx),X.prog = P → X.w = w → X.K = K → X.calm = true → ∀ (i : Nat) (pins : List (Addr × Obj)) (s : Shared) (σ : St) (H : Hp) (E : Value → Shared → Prop),Inv X pins σ H s → (∀ b ∈ fp,FpOk X pins H b) → tn i s.heap → J.stop i H →
  wpAny (model P w) X.A (pyNext (.ref it)) (fun r s1 => r = none ∧ Inv X pins σ H s1) E s
 self : ∀ (A : Around) (i : Nat) (s : Shared) (Q : Value → Shared → Prop) (E : Value → Shared → Prop),tn i s.heap → Q (.ref it) s → wpAny (model P w) A (pyIter (.ref it)) Q E s
noncomputable abbrev TI := St → Hp → (It → Hp → Prop) → Prop
noncomputable def PIE (X : Cx) (pins : List (Addr × Obj)) (σ : St) (tg : Expr) (R : It → Hp → Prop) (itv : Value) (s2 : Shared) : Prop :=
 ∃ (it : Addr) (fp : List Addr) (tn : Nat → Heap → Prop) (J : It) (H' : Hp),itv = .ref it ∧ Inv X pins σ H' s2 ∧ Turn X.prog X.w X.K tg J fp it tn ∧ tn 0 s2.heap ∧ (∀ b ∈ fp,FpOk X pins H' b) ∧ R J H'
noncomputable def PI (X : Cx) (tg iter : Expr) (wi : TI) : Prop :=
 ∀ (pins : List (Addr × Obj)) (s : Shared) (σ : St) (H : Hp) (R : It → Hp → Prop),Inv X pins σ H s → wi σ H R →
  wpAny (model X.prog X.w) X.A (eval iter X.env) (fun v s1 => wpAny (model X.prog X.w) X.A (pyIter v) (PIE X pins σ tg R) X.xe s1) X.xe s
theorem Jdl {M : Model} {A : Around} {E : Value → Shared → Prop} {s : Shared} {tg : Expr} {it : Addr} {u : Value} {o : Obj} {n : String} {vs : Array Value} {Q : Unit → Shared → Prop} (ho : s.heap.get? it = some o) (hc : o.cls = .type n) (hd : o.data = .fields vs)
    (hn : ["enumerate","zip","dict_itemiterator","dict_reverseitemiterator","odict_iterator","itertools.zip_longest","itertools.pairwise"].contains n = false) (hQ : Q () s) : wpAny M A (letOwnedTupleGo tg (.ref it) u) Q E s := by
  unfold letOwnedTupleGo
  cases tg <;> first
    | exact wpAny_pure hQ
    | (cases u <;> first
        | exact wpAny_pure hQ
        | (refine wpAny_bind (wpAny_load ho ?_)
           rw [hc,hd]
           show wpAny M A (if (["enumerate","zip","dict_itemiterator","dict_reverseitemiterator","odict_iterator","itertools.zip_longest","itertools.pairwise"].contains n && vs[0]? == some (rawInt _)) = true then _ else _) Q E s
           rw [if_neg (by intro h; rw [hn,Bool.false_and] at h; cases h)]
           exact wpAny_pure hQ))
noncomputable def Itl (K : PySem.W.Frag) (a : Addr) : It :=
 ⟨fun i H => ∃ xs x,SqL K H a xs ∧ xs[i]? = some x,fun i H x H' => H' = H ∧ ∀ xs,SqL K H a xs → xs[i]? = some x,fun i H => ∃ xs,SqL K H a xs ∧ xs.length ≤ i⟩
noncomputable def Itr (lo : Int) (n : Nat) : It := ⟨fun i _ => i < n,fun i H x H' => H' = H ∧ x = .int (lo + i),fun i _ => n ≤ i⟩
theorem Jc9 {P : Program} {w : World} {K : PySem.W.Frag} {tg : Expr} (a it : Addr) : Turn P w K tg (Itl K a) [it] it (fun i h => h.IsListIter it a i) where
 mem := by simp
 obj := fun i h st b hb => by
  have e : b = it := by simpa using hb
  subst e
  obtain ⟨o,e,c,d⟩ := st
  exact ⟨o,e,fun v z => by rw [d] at z; cases z⟩
 keep := fun i h h' st k => st.at fun o e => k it (by simp) o e
 item := by
  intro X hP hw hK hc i pins s σ H E I hf st hg
  subst hP hw hK
  obtain ⟨xs,x,hq,hx⟩ := hg
  obtain ⟨its,rv,p,hz⟩ := I.list hq
  obtain ⟨u,hu,ru⟩ := rv.get hx
  obtain ⟨f0,f1,f2,f3,f4,f5⟩ := hf it (by simp)
  refine wpAny_pyNext_list_item st p.isList (x := u) (by simpa using hu) fun h' st' sb => ?_
  have I1 : Inv X pins σ H { s with heap := h' } := I.turned (t' := s.toks) (fun b o hb e => (sb.2 b hb).trans e) f0 f1 f3 f4 f5
  obtain ⟨o,e,c,d⟩ := id st'
  exact ⟨u,rfl,Jdl (s := { s with heap := h' }) e c d (by decide) ⟨x,H,I1,ru,⟨rfl,fun ys hy => by rw [I.list_inj hy hq]; exact hx⟩,st',fun b hb => (hf b hb).1⟩⟩
 done := by
  intro X hP hw hK hc i pins s σ H E I hf st hg
  subst hP hw hK
  obtain ⟨xs,hq,hx⟩ := hg
  obtain ⟨its,rv,p,hz⟩ := I.list hq
  obtain ⟨f0,f1,f2,f3,f4,f5⟩ := hf it (by simp)
  have hl := rv.length
  exact wpAny_pyNext_list_end (I.ok.hd hc) st p.isList (by simp; omega) fun h' eb => ⟨rfl,I.turned (t' := s.toks) (fun b o hb e => eb b o hb e) f0 f1 f3 f4 f5⟩
 self := fun _ _ _ _ _ st h => wpAny_pyIter_listiter st h
theorem Jav {P : Program} {w : World} {K : PySem.W.Frag} {tg : Expr} (it : Addr) (lo : Int) (n : Nat) : Turn P w K tg (Itr lo n) [it] it (fun i h => IsRangeIter h it (lo + (i : Nat) * 1) ((n : Int) - (i : Nat)) 1) where
 mem := by simp
 obj := fun i h st b hb => by
  have e : b = it := by simpa using hb
  subst e
  exact ⟨_,st,fun v z => by
   have z' : Data.fields _ = Data.cell v := z
   cases z'⟩
 keep := fun i h h' st k => k it (by simp) _ st
 item := by
  intro X hP hw hK hc i pins s σ H E I hf st hg
  subst hP hw hK
  obtain ⟨f0,f1,f2,f3,f4,f5⟩ := hf it (by simp)
  have W := Walks.range (prog := X.prog) (w := X.w) (I.ok.hd hc) it lo 1 n
  refine W.item i s _ _ hg st fun v h' tk hv st' kk => ?_
  obtain ⟨t,rfl⟩ := hv
  have I1 : Inv X pins σ H { s with heap := h',toks := tk } := I.turned (fun b o hb e => kk b o (by simpa using hb) e) f0 f1 f3 f4 f5
  refine ⟨_,rfl,Jdl (s := { s with heap := h',toks := tk }) (n := "range_iterator") st' rfl rfl (by decide) ⟨.int (lo + i),H,I1,⟨t,?_⟩,⟨rfl,rfl⟩,st',fun b hb => (hf b hb).1⟩⟩
  rw [Int.mul_one]
 done := by
  intro X hP hw hK hc i pins s σ H E I hf st hg
  subst hP hw hK
  obtain ⟨f0,f1,f2,f3,f4,f5⟩ := hf it (by simp)
  exact wpAny_pyNext_range_end (I.ok.hd hc) st (by have : n ≤ i := hg; omega) fun h' eb => ⟨rfl,I.turned (t' := s.toks) (fun b o hb e => eb b o hb e) f0 f1 f3 f4 f5⟩
 self := fun _ _ _ _ _ st h => wpAny_pyIter_rangeiter st h
end L2
namespace L2
open PySem PySem.Spec PyProof.Rows
section
variable {X : Cx} {tg : Expr}
noncomputable def Jet (K : PySem.W.Frag) (tl : TE) : TI := fun σ H R => tl σ H fun x H1 => ∃ a,x = .ref a ∧ (∃ xs,SqL K H1 a xs) ∧ R (Itl K a) H1
theorem JdH {l : Expr} {tl : TE} (hl : PE X l tl) : PI X tg l (Jet X.K tl) := by
 intro pins s σ H R I h
 refine thn (hl pins s σ H _ I h) fun v s1 ⟨x,H1,I1,r1,q1⟩ => ?_
 obtain ⟨a,e,⟨xs,hq⟩,q⟩ := q1
 subst e
 cases r1
 obtain ⟨its,rv,p,hz⟩ := I1.list hq
 refine wpAny_pyIter_list p.isList ?_
 refine ⟨s1.heap.objs.size,[s1.heap.objs.size],_,_,H1,rfl,I1.kept (t' := s1.toks) fun b o e => Heap.get?_push_of_some _ e,Jc9 a _,⟨_,Heap.get?_push_size _ rfl,rfl,rfl⟩,fun b hb => ?_,q⟩
 have e : b = s1.heap.objs.size := by simpa using hb
 subst e
 exact I1.fpOk (Nat.le_refl _) (I1.hok.fresh (Nat.le_refl _))
theorem JcN {pins : List (Addr × Obj)} {σ : St} {H : Hp} {s : Shared} {R : It → Hp → Prop} {E : Value → Shared → Prop} {lo hi : Int} {t u v : Tok} {tk : Nat} (I : Inv X pins σ H s) (h1 : -(2 ^ 62) ≤ lo) (h2 : lo < 2 ^ 62) (h3 : -(2 ^ 62) ≤ hi) (h4 : hi < 2 ^ 62)
  (q : R (Itr lo (hi - lo).toNat) H) : wpAny (model X.prog X.w) X.A (pyIter (.ref s.heap.objs.size)) (PIE X pins σ tg R) E { s with heap := s.heap.push { cls := .type "range",data := .fields #[.int lo t,.int hi u,.int 1 v] },toks := tk } := by
 refine wpAny_pyIter_range (IsRange.new ..) (small_one h1 h2 h3 h4) ?_
 have I1 : Inv X pins σ H { s with heap := s.heap.push { cls := .type "range",data := .fields #[.int lo t,.int hi u,.int 1 v] },toks := tk } := I.kept fun b o e => Heap.get?_push_of_some _ e
 refine ⟨(s.heap.push { cls := .type "range",data := .fields #[.int lo t,.int hi u,.int 1 v] }).objs.size,[(s.heap.push { cls := .type "range",data := .fields #[.int lo t,.int hi u,.int 1 v] }).objs.size],_,_,H,rfl,
  I1.kept (t' := tk) fun b o e => Heap.get?_push_of_some _ e,Jav _ lo (hi - lo).toNat,?_,fun b hb => ?_,q⟩
 ·have e1 : lo + ((0 : Nat) : Int) * 1 = lo := by simp
  have e2 : (((hi - lo).toNat : Nat) : Int) - ((0 : Nat) : Int) = Builtin.Range.rangeSize lo hi 1 := by rw [rangeSize_one]; split <;> omega
  show IsRangeIter _ _ (lo + ((0 : Nat) : Int) * 1) ((((hi - lo).toNat : Nat) : Int) - ((0 : Nat) : Int)) 1
  rw [e1,e2]
  exact Heap.get?_push_size _ rfl
 ·have e : b = (s.heap.push { cls := .type "range",data := .fields #[.int lo t,.int hi u,.int 1 v] }).objs.size := by simpa using hb
  subst e
  exact I1.fpOk (Nat.le_refl _) (I1.hok.fresh (Nat.le_refl _))
noncomputable def JfB (ta : TA) : TI := fun σ H R => ta σ H fun vs H1 => ∃ j : Int,vs = [.int j] ∧ -(2 ^ 62) ≤ j ∧ j < 2 ^ 62 ∧ R (Itr 0 j.toNat) H1
theorem J03 {a : Expr} {ta : TA} {p pos : Pos} (hg : Gl X "range") (hm : X.mg "range" = none) (ha : PA X [a] ta) (hs : starEach [a] X.env = [(false,eval a X.env)] := by rfl) : PI X tg (.Call (.Name "range" p) [a] [] pos) (JfB ta) := by
 intro pins s σ H R I h
 refine Call_ (J3r I hg hm boot_range (PyProof.Rows.callWith_type1 (thn (ha pos pins s σ H _ I h) fun us s1 ⟨vs,H1,I1,r1,q1⟩ => ?_) hs rfl))
 obtain ⟨j,e,q1,q2,q⟩ := q1
 subst e
 cases r1 with
 | cons r rr =>
  cases rr
  obtain ⟨t,rfl⟩ := r
  exact call_range_1 (JcN I1 (by omega) (by omega) q1 q2 (by simpa using q))
noncomputable def tFor (wi : TI) (g : TG) (tb : TS) : TS := fun D σ H => wi σ H fun J H1 => ∃ W : Nat → Nat → St → Hp → Prop,(∃ m,W 0 m σ H1) ∧ ∀ i m σ H,W i m σ H →
 (J.stop i H ∧ D.nx σ H) ∨ (J.go i H ∧ ∃ N : St → Hp → Prop,(∀ σ' H',N σ' H' → ∃ m',m' < m ∧ W (i + 1) m' σ' H') ∧ ∀ x H',J.yld i H x H' → g x σ H' fun σ2 H2 => tb { D with nx := N,ct := N,bk := D.nx } σ2 H2)
noncomputable def J5A (fp : List Addr) (h : Heap) : List (Addr × Obj) := fp.filterMap fun b => (h.get? b).map fun o => (b,o)
theorem J2d {fp : List Addr} {h : Heap} {b : Addr} {o : Obj} (hb : b ∈ fp) (e : h.get? b = some o) : (b,o) ∈ J5A fp h := List.mem_filterMap.mpr ⟨b,hb,by rw [e]; rfl⟩
theorem JbD {fp : List Addr} {h : Heap} {p : Addr × Obj} (hp : p ∈ J5A fp h) : p.1 ∈ fp ∧ h.get? p.1 = some p.2 := by
 obtain ⟨b,hb,e⟩ := List.mem_filterMap.mp hp
 cases q : h.get? b with
 | none => rw [q] at e; cases e
 | some o =>
  rw [q] at e
  have e' : (b,o) = p := Option.some.inj e
  subst e'
  exact ⟨hb,q⟩
theorem Inv.pinned {pins : List (Addr × Obj)} {σ : St} {H : Hp} {s : Shared} {fp : List Addr} (I : Inv X pins σ H s) (hf : ∀ b ∈ fp,FpOk X pins H b) (ho : ∀ b ∈ fp,∃ o,s.heap.get? b = some o ∧ ∀ v,o.data ≠ .cell v) : Inv X (pins ++ J5A fp s.heap) σ H s :=
 I.pins_of fun p hp => (List.mem_append.mp hp).elim (fun z => I.pin p (List.mem_append_right _ z)) fun z => by
  obtain ⟨hb,e⟩ := JbD z
  obtain ⟨f0,f1,f2,_⟩ := hf p.1 hb
  obtain ⟨o,e',d⟩ := ho p.1 hb
  rw [e] at e'; cases e'
  exact ⟨e,f0,f1,f2,d⟩
theorem Inv.unpinned {pins pl : List (Addr × Obj)} {σ : St} {H : Hp} {s : Shared} (I : Inv X (pins ++ pl) σ H s) : Inv X pins σ H s := I.pins_of fun p hp => I.pin p (List.mem_append_right _ (List.mem_append_left _ hp))
theorem J0G {iter : Expr} {body : List Stmt} {wi : TI} {g : TG} {tb : TS} {pos : Pos} (hp : PassesOwn (model X.prog X.w) X.A X.env X.xe) (hc : X.calm = true) (hi : PI X tg iter wi) (hg : PG X tg g) (hb : PSs X body tb)
  (hs : ∀ x,foldedSetIterable iter X.env x = pure x := by intro _; rfl) : PS X (.For tg iter body [] pos) (tFor wi g tb) := by
 intro pins s σ H D I h
 refine wpAny_For (thn (hi pins s σ H _ I h) fun v s1 h1 => thn h1 fun itv s2 h2 => ?_) hs
 obtain ⟨it,fp,tn,J,H2,e,I2,T,st2,f2,W,⟨m0,w0⟩,turn⟩ := h2
 subst e
 have stat : ∀ {H' : Hp},(∀ b ∈ fp,H' b = none) → ∀ b ∈ fp,FpOk X pins H' b := fun hn b hb => ⟨hn b hb,(f2 b hb).2⟩
 refine codeAny_forLoop_any (fun n s' => ∃ i σ' H',Inv X pins σ' H' s' ∧ tn i s'.heap ∧ (∀ b ∈ fp,H' b = none) ∧ W i n σ' H') ?_ m0 ⟨0,σ,H2,I2,st2,fun b hb => (f2 b hb).1,w0⟩
 rintro n s3 ⟨i,σ3,H3,I3,st3,fr3,w3⟩
 rcases turn i n σ3 H3 w3 with ⟨stop,qn⟩ | ⟨go,N,hN,step⟩
 ·refine wpAny_passesOwn hp (thn (T.done X rfl rfl rfl hc i pins s3 σ3 H3 X.xe I3 (stat fr3) st3 stop) fun r s4 ⟨hr,I4⟩ => ?_)
  subst hr
  exact wpAny_execs_nil ⟨σ3,H3,I4,qn⟩
 ·refine wpAny_passesOwn hp (thn (T.item X rfl rfl rfl hc i pins s3 σ3 H3 X.xe I3 (stat fr3) st3 go) fun r s4 ⟨u,hr,h4⟩ => ?_)
  subst hr
  refine wpAny_passesOwn hp (thn h4 fun _ s5 ⟨x,H5,I5,r5,y5,st5,fr5⟩ => ?_)
  have I5' := I5.pinned (stat fr5) (T.obj _ _ st5)
  refine wpAny_passesOwn hp (thn (hg _ s5 σ3 H5 x u _ I5' r5 (step x H5 y5)) fun _ s6 ⟨σ6,H6,I6,q6⟩ => ?_)
  refine wpAny_passesOwn hp (thn (hb _ s6 σ6 H6 _ I6 q6) fun f s7 q7 => ?_)
  have again : ∀ {σ7 : St} {H7 : Hp},Inv X (pins ++ J5A fp s5.heap) σ7 H7 s7 → N σ7 H7 → ∃ m,m < n ∧ ∃ i σ' H',Inv X pins σ' H' s7 ∧ tn i s7.heap ∧ (∀ b ∈ fp,H' b = none) ∧ W i m σ' H' := fun {σ7 H7} I7 n7 => by
   obtain ⟨m',hm,w7⟩ := hN σ7 H7 n7
   refine ⟨m',hm,i + 1,σ7,H7,I7.unpinned,T.keep _ _ _ st5 fun b hb o e => (I7.pin (b,o) (List.mem_append_right _ (List.mem_append_right _ (J2d hb e)))).1,fun b hb => ?_,w7⟩
   obtain ⟨o,e,d⟩ := T.obj _ _ st5 b hb
   exact (I7.pin (b,o) (List.mem_append_right _ (List.mem_append_right _ (J2d hb e)))).2.1
  cases f with
  | next => obtain ⟨σ7,H7,I7,n7⟩ := q7; exact again I7 n7
  | cont => obtain ⟨σ7,H7,I7,n7⟩ := q7; exact again I7 n7
  | brk => obtain ⟨σ7,H7,I7,q7⟩ := q7; exact ⟨σ7,H7,I7.unpinned,q7⟩
  | ret v => obtain ⟨x7,σ7,H7,I7,r7,q7⟩ := q7; exact ⟨x7,σ7,H7,I7.unpinned,r7,q7⟩
end
theorem J9Y {K : PySem.W.Frag} {a : Addr} {xs : List V} {g : TG} {tb : TS} {D : Ends} {σ : St} {H : Hp} (Pv : Nat → St → Hp → Prop) (h0 : Pv 0 σ H) (hl : ∀ i σ H,i ≤ xs.length → Pv i σ H → SqL K H a xs)
  (hs : ∀ i x σ H,xs[i]? = some x → Pv i σ H → g x σ H fun σ2 H2 => tb { D with nx := Pv (i + 1),ct := Pv (i + 1),bk := D.nx } σ2 H2) (hd : ∀ σ H,Pv xs.length σ H → D.nx σ H) :
  ∃ W : Nat → Nat → St → Hp → Prop,(∃ m,W 0 m σ H) ∧ ∀ i m σ H,W i m σ H →
   ((Itl K a).stop i H ∧ D.nx σ H) ∨ ((Itl K a).go i H ∧ ∃ N : St → Hp → Prop,(∀ σ' H',N σ' H' → ∃ m',m' < m ∧ W (i + 1) m' σ' H') ∧ ∀ x H',(Itl K a).yld i H x H' → g x σ H' fun σ2 H2 => tb { D with nx := N,ct := N,bk := D.nx } σ2 H2) := by
 refine ⟨fun i m σ H => m = xs.length - i ∧ i ≤ xs.length ∧ Pv i σ H,⟨xs.length,by simp,Nat.zero_le _,h0⟩,?_⟩
 rintro i m σ H ⟨rfl,hi,p⟩
 have q := hl i σ H hi p
 by_cases hlt : i < xs.length
 ·refine .inr ⟨⟨xs,xs[i],q,by simp [hlt]⟩,Pv (i + 1),fun σ' H' p' => ⟨xs.length - (i + 1),by omega,rfl,hlt,p'⟩,fun x H' y => ?_⟩
  obtain ⟨e,y⟩ := y
  subst e
  exact hs i x σ _ (y xs q) p
 ·have e : i = xs.length := by omega
  subst e
  exact .inl ⟨⟨xs,q,Nat.le_refl _⟩,hd σ H p⟩
theorem J1v {lo : Int} {n : Nat} {g : TG} {tb : TS} {D : Ends} {σ : St} {H : Hp} (Pv : Nat → St → Hp → Prop) (h0 : Pv 0 σ H)
  (hs : ∀ i σ H,i < n → Pv i σ H → g (.int (lo + i)) σ H fun σ2 H2 => tb { D with nx := Pv (i + 1),ct := Pv (i + 1),bk := D.nx } σ2 H2) (hd : ∀ σ H,Pv n σ H → D.nx σ H) :
  ∃ W : Nat → Nat → St → Hp → Prop,(∃ m,W 0 m σ H) ∧ ∀ i m σ H,W i m σ H →
   ((Itr lo n).stop i H ∧ D.nx σ H) ∨ ((Itr lo n).go i H ∧ ∃ N : St → Hp → Prop,(∀ σ' H',N σ' H' → ∃ m',m' < m ∧ W (i + 1) m' σ' H') ∧ ∀ x H',(Itr lo n).yld i H x H' → g x σ H' fun σ2 H2 => tb { D with nx := N,ct := N,bk := D.nx } σ2 H2) := by
 refine ⟨fun i m σ H => m = n - i ∧ i ≤ n ∧ Pv i σ H,⟨n,by simp,Nat.zero_le _,h0⟩,?_⟩
 rintro i m σ H ⟨rfl,hi,p⟩
 by_cases hlt : i < n
 ·refine .inr ⟨hlt,Pv (i + 1),fun σ' H' p' => ⟨n - (i + 1),by omega,rfl,hlt,p'⟩,fun x H' y => ?_⟩
  obtain ⟨e,y⟩ := y
  subst e y
  exact hs i σ _ hlt p
 ·have e : i = n := by omega
  subst e
  exact .inl ⟨Nat.le_refl _,hd σ H p⟩
end L2
namespace L2
open PySem PySem.Spec PyProof.Rows
noncomputable abbrev R2 := V → V → Hp → VK → Prop
noncomputable def OpR (X : Cx) (f : Value → Value → Sem Value) (r : R2) : Prop :=
 ∀ (pins : List (Addr × Obj)) (s : Shared) (σ : St) (H : Hp) (x y : V) (v u : Value) (Q : VK),Inv X pins σ H s → RelV x v → RelV y u → r x y H Q →
  wpAny (model X.prog X.w) X.A (f v u) (EP X pins σ Q) X.xe s
noncomputable def J2m (X : Cx) (f : Value) (r : List V → Hp → VK → Prop) : Prop :=
 ∀ (pins : List (Addr × Obj)) (s : Shared) (σ : St) (H : Hp) (xs : List V) (us : List Value) (Q : VK),Inv X pins σ H s → Vals xs us → r xs H Q →
  wpAny (model X.prog X.w) X.A (call f us) (EP X pins σ Q) X.xe s
noncomputable def TruR (X : Cx) (r : V → Hp → (Bool → Hp → Prop) → Prop) : Prop :=
 ∀ (pins : List (Addr × Obj)) (s : Shared) (σ : St) (H : Hp) (x : V) (v : Value) (Q : Bool → Hp → Prop),Inv X pins σ H s → RelV x v → r x H Q →
  wpAny (model X.prog X.w) X.A (truthy v) (TP X pins σ Q) X.xe s
noncomputable def tOp (r : R2) (ta tb : TE) : TE := fun σ H Q => ta σ H fun x H1 => tb σ H1 fun y H2 => r x y H2 Q
noncomputable def rI (C : Int → Int → Prop) (g : Int → Int → V) : R2 := fun x y H Q => ∃ i j,x = .int i ∧ y = .int j ∧ C i j ∧ Q (g i j) H
noncomputable def rI0 (g : Int → Int → V) : R2 := fun x y H Q => ∃ i j,x = .int i ∧ y = .int j ∧ Q (g i j) H
section
variable {X : Cx} {a b c : Expr} {ta tb tc : TE} {pos : Pos}
theorem binT (ha : PE X a ta) (hb : PE X b tb) {pins : List (Addr × Obj)} {s : Shared} {σ : St} {H : Hp} {R : V → V → Hp → Prop} (I : Inv X pins σ H s)
  (h : ta σ H fun x H1 => tb σ H1 fun y H2 => R x y H2) {Q : Value → Shared → Prop} {f : Value → Value → Sem Value}
  (hf : ∀ v u s2 x y H2,Inv X pins σ H2 s2 → RelV x v → RelV y u → R x y H2 → wpAny (model X.prog X.w) X.A (f v u) Q X.xe s2) :
  wpAny (model X.prog X.w) X.A (eval a X.env) (fun v s₁ => wpAny (model X.prog X.w) X.A (eval b X.env) (fun u s₂ => wpAny (model X.prog X.w) X.A (f v u) Q X.xe s₂) X.xe s₁) X.xe s := by
 refine thn (ha pins s σ H _ I h) fun v s1 ⟨x,H1,I1,r1,q1⟩ => ?_
 refine thn (hb pins s1 σ H1 _ I1 q1) fun u s2 ⟨y,H2,I2,r2,q2⟩ => ?_
 exact hf v u s2 x y H2 I2 r1 r2 q2
theorem Jl {op : Operator} {r : R2} (ho : OpR X (binaryOp op) r) (ha : PE X a ta) (hb : PE X b tb) : PE X (.BinOp a op b pos) (tOp r ta tb) := by
 intro pins s σ H Q I h
 exact wpAny_BinOp (binT ha hb I h fun v u s2 x y H2 I2 rx ry q => ho pins s2 σ H2 x y v u Q I2 rx ry q)
theorem opI {f : Value → Value → Sem Value} {C : Int → Int → Prop} {g : Int → Int → Int}
  (rule : ∀ (i j : Int) (t u : Tok) (s : Shared) (Q : Value → Shared → Prop) (E : Value → Shared → Prop),C i j → Q (.int (g i j) s.toks) { s with toks := s.toks + 1 } → wpAny (model X.prog X.w) X.A (f (.int i t) (.int j u)) Q E s) :
  OpR X f (rI C fun i j => .int (g i j)) := by
 intro pins s σ H x y v u Q I rx ry h
 obtain ⟨i,j,rfl,rfl,hc,q⟩ := h
 obtain ⟨t,rfl⟩ := rx
 obtain ⟨t',rfl⟩ := ry
 exact rule i j t t' s _ _ hc ⟨.int (g i j),H,I.tok _,⟨_,rfl⟩,q⟩
theorem opI0 {f : Value → Value → Sem Value} {g : Int → Int → Int}
  (rule : ∀ (i j : Int) (t u : Tok) (s : Shared) (Q : Value → Shared → Prop) (E : Value → Shared → Prop),Q (.int (g i j) s.toks) { s with toks := s.toks + 1 } → wpAny (model X.prog X.w) X.A (f (.int i t) (.int j u)) Q E s) :
  OpR X f (rI0 fun i j => .int (g i j)) := by
 intro pins s σ H x y v u Q I rx ry h
 obtain ⟨i,j,rfl,rfl,q⟩ := h
 obtain ⟨t,rfl⟩ := rx
 obtain ⟨t',rfl⟩ := ry
 exact rule i j t t' s _ _ ⟨.int (g i j),H,I.tok _,⟨_,rfl⟩,q⟩
theorem opB0 {f : Value → Value → Sem Value} {g : Int → Int → Bool}
  (rule : ∀ (i j : Int) (t u : Tok) (s : Shared) (Q : Value → Shared → Prop) (E : Value → Shared → Prop),Q (.bool (g i j)) s → wpAny (model X.prog X.w) X.A (f (.int i t) (.int j u)) Q E s) :
  OpR X f (rI0 fun i j => .bl (g i j)) := by
 intro pins s σ H x y v u Q I rx ry h
 obtain ⟨i,j,rfl,rfl,q⟩ := h
 obtain ⟨t,rfl⟩ := rx
 obtain ⟨t',rfl⟩ := ry
 exact rule i j t t' s _ _ ⟨.bl (g i j),H,I,rfl,q⟩
noncomputable def CDiv (i j : Int) : Prop := 0 < j ∧ j < 1073741824
noncomputable def CPow (i j : Int) : Prop := 0 ≤ j ∧ j ≤ 1000000 ∧ i.natAbs < 2 ^ 64
noncomputable def CMul (i j : Int) : Prop := (-(2 ^ 64) < i ∧ i < 2 ^ 64) ∨ (-(2 ^ 64) < j ∧ j < 2 ^ 64)
theorem CMul.ok {i j : Int} (h : CMul i j) : IntMulOk i j := by
 rcases h with ⟨h1,h2⟩ | ⟨h1,h2⟩
 ·exact .of_left (intBits_le_64 h1 h2)
 ·exact .of_right (intBits_le_64 h1 h2)
theorem J00 : OpR X (binaryOp .Add) (rI0 fun i j => .int (i + j)) := opI0 fun _ _ _ _ _ _ _ q => add_int q
theorem J3M : OpR X (binaryOp .Sub) (rI0 fun i j => .int (i - j)) := opI0 fun _ _ _ _ _ _ _ q => sub_int q
theorem J1P : OpR X (binaryOp .Mult) (rI CMul fun i j => .int (i * j)) := opI fun _ _ _ _ _ _ _ hc q => mul_int q hc.ok
theorem J0a : OpR X (binaryOp .FloorDiv) (rI CDiv fun i j => .int (i / j)) := opI fun i j _ _ _ _ _ hc q => by
 have h1 : (0 : Int) < j := hc.1
 have h2 : j < 1073741824 := hc.2
 exact floordiv_int (by omega) (by rw [Int.fdiv_eq_ediv_of_nonneg i (by omega)]; exact q) (.inl (PyProof.noPylong_small (by omega)))
theorem JM : OpR X (binaryOp .Mod) (rI (fun _ j => 0 < j) fun i j => .int (i % j)) := opI fun i j _ _ _ _ _ hc q => by
 have h1 : (0 : Int) < j := hc
 exact mod_int' (by omega) (by rw [Int.fmod_eq_emod_of_nonneg i (by omega)]; exact q)
theorem JaF : OpR X (binaryOp .Pow) (rI CPow fun i j => .int (i ^ j.toNat)) := opI fun _ _ _ _ _ _ _ hc q => pow_int_small hc.1 hc.2.1 hc.2.2 q
end
noncomputable def scal : V → V → Bool
 | .non,.non => true | .non,.int _ => true | .int _,.non => true | .non,.bl _ => true | .bl _,.non => true | .non,.str _ => true | .str _,.non => true
 | .int _,.int _ => true | .bl _,.bl _ => true | .str _,.str _ => true | .byt _,.byt _ => true
 | .int _,.str _ => true | .str _,.int _ => true | .bl _,.str _ => true | .str _,.bl _ => true
 | _,_ => false
noncomputable def rEq : R2 := fun x y H Q => scal x y = true ∧ Q (.bl (decide (x = y))) H
noncomputable def rNe : R2 := fun x y H Q => scal x y = true ∧ Q (.bl (!decide (x = y))) H
theorem Jbb {i j : Int} : decide (V.int i = V.int j) = (i == j) := by
 rw [Bool.eq_iff_iff]
 simp
theorem JcI {i j : Bool} : decide (V.bl i = V.bl j) = (i == j) := by
 rw [Bool.eq_iff_iff]
 simp
theorem JaW {i j : Str} : decide (V.str i = V.str j) = (i == j) := by
 rw [Bool.eq_iff_iff]
 simp
theorem JaQ {i j : Array UInt8} : decide (V.byt i = V.byt j) = (i.toList == j.toList) := by
 rw [Bool.eq_iff_iff]
 cases i
 cases j
 simp
section
variable {X : Cx} {a b c : Expr} {ta tb tc : TE} {pos : Pos}
theorem JS {pins : List (Addr × Obj)} {σ : St} {H : Hp} {s : Shared} {Q : VK} {k k' : Bool} (I : Inv X pins σ H s) (q : Q (.bl k) H) (e : k = k') : EP X pins σ Q (.bool k') s := by
 subst e
 exact ⟨.bl k,H,I,rfl,q⟩
theorem J0P : OpR X (compareOp .Eq) rEq := by
 intro pins s σ H x y v u Q I rx ry h
 obtain ⟨hs,q⟩ := h
 cases x with
 | non =>
  cases rx
  cases y with
  | non => cases ry; exact PySem.EqNone.eq_none_none (JS I q (by simp))
  | bl j => cases ry; exact PySem.EqNone.eq_none_bool (JS I q (by simp))
  | int j => obtain ⟨t',rfl⟩ := ry; exact PySem.EqNone.eq_none_int (JS I q (by simp))
  | str j => obtain ⟨t',rfl⟩ := ry; exact PySem.EqNone.eq_none_str (JS I q (by simp))
  | _ => exact absurd (show false = true from hs) Bool.false_ne_true
 | bl i =>
  cases rx
  cases y with
  | non => cases ry; exact PySem.EqNone.eq_bool_none (JS I q (by simp))
  | bl j => cases ry; exact eq_bool (JS I q JcI)
  | str j => obtain ⟨t',rfl⟩ := ry; exact PySem.EqMixed.eq_bool_str (JS I q (by simp))
  | _ => exact absurd (show false = true from hs) Bool.false_ne_true
 | int i =>
  obtain ⟨t,rfl⟩ := rx
  cases y with
  | non => cases ry; exact PySem.EqNone.eq_int_none (JS I q (by simp))
  | int j => obtain ⟨t',rfl⟩ := ry; exact eq_int (JS I q Jbb)
  | str j => obtain ⟨t',rfl⟩ := ry; exact PySem.EqMixed.eq_int_str (JS I q (by simp))
  | _ => exact absurd (show false = true from hs) Bool.false_ne_true
 | str i =>
  obtain ⟨t,rfl⟩ := rx
  cases y with
  | non => cases ry; exact PySem.EqNone.eq_str_none (JS I q (by simp))
  | bl j => cases ry; exact PySem.EqMixed.eq_str_bool (JS I q (by simp))
  | int j => obtain ⟨t',rfl⟩ := ry; exact PySem.EqMixed.eq_str_int (JS I q (by simp))
  | str j => obtain ⟨t',rfl⟩ := ry; exact eq_str (JS I q JaW)
  | _ => exact absurd (show false = true from hs) Bool.false_ne_true
 | byt i =>
  obtain ⟨t,rfl⟩ := rx
  cases y with
  | byt j => obtain ⟨t',rfl⟩ := ry; exact PySem.W.eq_bytes (JS I q JaQ)
  | _ => exact absurd (show false = true from hs) Bool.false_ne_true
 | _ => cases y <;> exact absurd (show false = true from hs) Bool.false_ne_true
theorem J2U : OpR X (compareOp .NotEq) rNe := by
 intro pins s σ H x y v u Q I rx ry h
 obtain ⟨hs,q⟩ := h
 cases x with
 | non =>
  cases rx
  cases y with
  | non => cases ry; exact PySem.EqNone.ne_none_none (JS I q (by simp))
  | bl j => cases ry; exact PySem.EqNone.ne_none_bool (JS I q (by simp))
  | int j => obtain ⟨t',rfl⟩ := ry; exact PySem.EqNone.ne_none_int (JS I q (by simp))
  | str j => obtain ⟨t',rfl⟩ := ry; exact PySem.EqNone.ne_none_str (JS I q (by simp))
  | _ => exact absurd (show false = true from hs) Bool.false_ne_true
 | bl i =>
  cases rx
  cases y with
  | non => cases ry; exact PySem.EqNone.ne_bool_none (JS I q (by simp))
  | bl j => cases ry; exact ne_bool (JS I q (congrArg not JcI))
  | str j => obtain ⟨t',rfl⟩ := ry; exact PySem.EqMixed.ne_bool_str (JS I q (by simp))
  | _ => exact absurd (show false = true from hs) Bool.false_ne_true
 | int i =>
  obtain ⟨t,rfl⟩ := rx
  cases y with
  | non => cases ry; exact PySem.EqNone.ne_int_none (JS I q (by simp))
  | int j => obtain ⟨t',rfl⟩ := ry; exact ne_int (JS I q (congrArg not Jbb))
  | str j => obtain ⟨t',rfl⟩ := ry; exact PySem.EqMixed.ne_int_str (JS I q (by simp))
  | _ => exact absurd (show false = true from hs) Bool.false_ne_true
 | str i =>
  obtain ⟨t,rfl⟩ := rx
  cases y with
  | non => cases ry; exact PySem.EqNone.ne_str_none (JS I q (by simp))
  | bl j => cases ry; exact PySem.EqMixed.ne_str_bool (JS I q (by simp))
  | int j => obtain ⟨t',rfl⟩ := ry; exact PySem.EqMixed.ne_str_int (JS I q (by simp))
  | str j => obtain ⟨t',rfl⟩ := ry; exact ne_str (JS I q (congrArg not JaW))
  | _ => exact absurd (show false = true from hs) Bool.false_ne_true
 | byt i =>
  obtain ⟨t,rfl⟩ := rx
  cases y with
  | byt j => obtain ⟨t',rfl⟩ := ry; exact PySem.W.ne_bytes (JS I q (congrArg not JaQ))
  | _ => exact absurd (show false = true from hs) Bool.false_ne_true
 | _ => cases y <;> exact absurd (show false = true from hs) Bool.false_ne_true
theorem JcA : OpR X (compareOp .Lt) (rI0 fun i j => .bl (decide (i < j))) := opB0 fun _ _ _ _ _ _ _ q => lt_int q
theorem Jel : OpR X (compareOp .LtE) (rI0 fun i j => .bl (decide (i ≤ j))) := opB0 fun _ _ _ _ _ _ _ q => le_int q
theorem J3Q : OpR X (compareOp .Gt) (rI0 fun i j => .bl (decide (j < i))) := opB0 fun _ _ _ _ _ _ _ q => gt_int q
theorem JfL : OpR X (compareOp .GtE) (rI0 fun i j => .bl (decide (j ≤ i))) := opB0 fun _ _ _ _ _ _ _ q => ge_int q
theorem J83 : OpR X (compareOp .In) (fun x y H Q => ∃ i j,x = .str i ∧ y = .str j ∧ Q (.bl (!(Builtin.Str.occurrences j i 0 j.length 1).isEmpty)) H) := by
 intro pins s σ H x y v u Q I rx ry h
 obtain ⟨i,j,rfl,rfl,q⟩ := h
 obtain ⟨t,rfl⟩ := rx
 obtain ⟨t',rfl⟩ := ry
 exact in_str (JS I q rfl)
theorem Jd3 : OpR X (compareOp .Is) (fun x y H Q => y = .non ∧ Q (.bl (decide (x = .non))) H) := by
 intro pins s σ H x y v u Q I rx ry h
 obtain ⟨rfl,q⟩ := h
 cases ry
 refine is_none_gen (JS I q ?_)
 cases x <;> first
  | (cases rx; rfl)
  | (obtain ⟨t,rfl⟩ := rx; rfl)
theorem J90 : OpR X (compareOp .NotIn) (fun x y H Q => ∃ i j,x = .str i ∧ y = .str j ∧ Q (.bl (!(!(Builtin.Str.occurrences j i 0 j.length 1).isEmpty))) H) := by
 intro pins s σ H x y v u Q I rx ry h
 obtain ⟨i,j,rfl,rfl,q⟩ := h
 obtain ⟨t,rfl⟩ := rx
 obtain ⟨t',rfl⟩ := ry
 exact notIn_str (JS I q rfl)
theorem Jw (b : Expr) {op : CmpOp} (h : op ≠ .In := by decide) (h2 : op ≠ .NotIn := by decide) : behindInMarks op b = false := by
 have e1 : (op == CmpOp.In) = false := by cases op <;> first | rfl | exact absurd rfl h
 have e2 : (op == CmpOp.NotIn) = false := by cases op <;> first | rfl | exact absurd rfl h2
 cases b <;> simp [behindInMarks,e1,e2]
theorem J24 {op : CmpOp} {r : R2} (ho : OpR X (compareOp op) r) (ha : PE X a ta) (hb : PE X b tb) (hm : behindInMarks op b = false) : PE X (.Compare a [op] [b] pos) (tOp r ta tb) := by
 intro pins s σ H Q I h
 exact wpAny_Compare1 (binT ha hb I h fun v u s2 x y H2 I2 rx ry q => ho pins s2 σ H2 x y v u Q I2 rx ry q) hm
noncomputable def Jev (t : TE) : TT := fun σ H Q => t σ H fun x H' => ∃ k,x = .bl k ∧ Q k H'
theorem Js {op : CmpOp} {r : R2} (ho : OpR X (compareOp op) r) (ha : PE X a ta) (hb : PE X b tb) (hm : behindInMarks op b = false) : PT X (.Compare a [op] [b] pos) (Jev (tOp r ta tb)) := by
 intro pins s σ H Q I h
 refine wpAny_isTrue_Compare1 (thn (ha pins s σ H _ I h) fun v s1 ⟨x,H1,I1,r1,q1⟩ => thn (hb pins s1 σ H1 _ I1 q1) fun u s2 ⟨y,H2,I2,r2,q2⟩ =>
  thn (ho pins s2 σ H2 x y v u _ I2 r1 r2 q2) fun c s3 ⟨z,H3,I3,r3,k,e,q3⟩ => ?_) hm
 subst e
 cases r3
 exact wpAny_truthy_bool ⟨H3,I3,q3⟩
noncomputable def Jfe (r r' : R2) (ta tb tc : TE) : TE := fun σ H Q => ta σ H fun x H1 => tb σ H1 fun y H2 => r x y H2 fun z H3 => ∃ k,z = .bl k ∧
 (if k = true then tc σ H3 fun w' H4 => r' y w' H4 Q else Q (.bl false) H3)
theorem JcC {op op' : CmpOp} {r r' : R2} (ho : OpR X (compareOp op) r) (ho' : OpR X (compareOp op') r') (ha : PE X a ta) (hb : PE X b tb) (hc : PE X c tc)
  (hm : lastMarks [op,op'] [b,c] = false := by with_unfolding_all rfl) : PT X (.Compare a [op,op'] [b,c] pos) (Jev (Jfe r r' ta tb tc)) := by
 intro pins s σ H Q I h
 refine isTrue_chain (thn (ha pins s σ H _ I h) fun v s1 ⟨x,H1,I1,r1,q1⟩ => test_link (thn (hb pins s1 σ H1 _ I1 q1) fun u s2 ⟨y,H2,I2,r2,q2⟩ =>
  thn (ho pins s2 σ H2 x y v u _ I2 r1 r2 q2) fun d s3 ⟨z,H3,I3,r3,k,e,q3⟩ => ?_)) hm
 subst e
 cases r3
 refine wpAny_truthy_bool ?_
 cases k with
 | false =>
  obtain ⟨k',e',q'⟩ := q3
  cases e'
  exact ite_ff ⟨H3,I3,q'⟩
 | true =>
  refine ite_tt (test_last (thn (hc pins s3 σ H3 _ I3 q3) fun w' s4 ⟨z',H4,I4,r4,q4⟩ => thn (ho' pins s4 σ H4 y z' u w' _ I4 r2 r4 q4) fun d' s5 ⟨z2,H5,I5,r5,k2,e2,q5⟩ => ?_))
  subst e2
  cases r5
  exact wpAny_truthy_bool ⟨H5,I5,q5⟩
noncomputable def TruV (K : PySem.W.Frag) (x : V) (H : Hp) (k : Bool) : Prop :=
 match x with
 | .non => k = false
 | .bl b => k = b
 | .int i => k = (i != 0)
 | .str y => y.length ≤ sizeLine ∧ k = ((y.length : Int) != 0)
 | .byt y => y.size ≤ sizeLine ∧ k = ((y.size : Int) != 0)
 | .ref p => (∃ xs,SqL K H p xs ∧ k = !xs.isEmpty) ∨ (∃ xs,SqT K H p xs ∧ k = !xs.isEmpty) ∨ ∃ kvs,H p = some (.dK kvs) ∧ k = !kvs.isEmpty
 | _ => False
theorem Jau {κ : Type} {kvs : List (κ × V)} {vs : List (κ × Value)} (r : KV kvs vs) : (!vs.isEmpty) = !kvs.isEmpty := by
 cases r <;> rfl
theorem J74 {xs : List V} {its : List Value} (r : Vals xs its) : (!its.toArray.isEmpty) = !xs.isEmpty := by
 cases r <;> simp
theorem J4r : (sizeLine : Nat) < 2 ^ 63 := by rw [sizeLine_eq]; decide
theorem JeT : TruR X (fun x H Q => ∃ k,TruV X.K x H k ∧ Q k H) := by
 intro pins s σ H x v Q I rx h
 obtain ⟨k,e,q⟩ := h
 have hl := J4r
 have hs : sizeLine = 16777216 := sizeLine_eq
 cases x with
 | non =>
  cases rx
  have e' : k = false := e
  subst e'
  exact truthy_none ⟨H,I,q⟩
 | bl b =>
  cases rx
  have e' : k = b := e
  subst e'
  exact wpAny_truthy_bool ⟨H,I,q⟩
 | int i =>
  obtain ⟨t,rfl⟩ := rx
  have e' : k = (i != 0) := e
  subst e'
  exact PySem.P.truthy_int ⟨H,I,q⟩
 | str y =>
  obtain ⟨t,rfl⟩ := rx
  obtain ⟨hy,e'⟩ : y.length ≤ sizeLine ∧ k = ((y.length : Int) != 0) := e
  subst e'
  exact PySem.P.truthy_str (by omega) ⟨H,I.tok _,q⟩
 | byt y =>
  obtain ⟨t,rfl⟩ := rx
  obtain ⟨hy,e'⟩ : y.size ≤ sizeLine ∧ k = ((y.size : Int) != 0) := e
  subst e'
  exact PySem.W.truthy_bytes (by omega) ⟨H,I.tok _,q⟩
 | ref p =>
  cases rx
  have e' : (∃ xs,SqL X.K H p xs ∧ k = !xs.isEmpty) ∨ (∃ xs,SqT X.K H p xs ∧ k = !xs.isEmpty) ∨ ∃ kvs,H p = some (.dK kvs) ∧ k = !kvs.isEmpty := e
  rcases e' with ⟨xs,hx,e'⟩ | ⟨xs,hx,e'⟩ | ⟨kvs,hx,e'⟩
  ·subst e'
   obtain ⟨its,r,pl,hz⟩ := I.list hx
   have hlen := r.length
   exact wpAny_truthy_list pl.isList (by simp only [List.size_toArray]; omega) ⟨H,I.tok _,by rw [J74 r]; exact q⟩
  ·subst e'
   obtain ⟨its,r,pl,hz⟩ := I.tuple hx
   have hlen := r.length
   exact truthy_tuple pl (by simp only [List.size_toArray]; omega) ⟨H,I.tok _,by rw [J74 r]; exact q⟩
  ·subst e'
   obtain ⟨hz,hS,vs,r,m⟩ : kvs.length ≤ sizeLine ∧ (p == sysModules) = false ∧ ∃ vs,KV kvs vs ∧ s.heap.DictOf (J1y X.prog X.w) p vs := I.hok p _ hx
   have hlen : kvs.length = vs.length := Paired.length r
   exact wpAny_truthy_dict hS m (by omega) ⟨H,I.tok _,by rw [Jau r]; exact q⟩
 | _ => exact (show False from e).elim
theorem Jd1 (ha : PE X a ta) (he : ∀ whole,isTrue a X.env whole = (do let v ← whole; standAt a.pos; holding [v] (truthy v))) :
  PT X a (fun σ H Q => ta σ H fun x H' => ∃ k,TruV X.K x H' k ∧ Q k H') := by
 intro pins s σ H Q I h
 exact isTrue_plain (thn (ha pins s σ H _ I h) fun v s1 ⟨x,H1,I1,r1,q1⟩ => JeT pins s1 σ H1 x v Q I1 r1 q1) (he _)
theorem JaB : OpR X (binaryOp .Add) (fun x y H Q => ∃ i j,x = .str i ∧ y = .str j ∧ i.length + j.length ≤ sizeLine ∧ Q (.str (i ++ j)) H) := by
 intro pins s σ H x y v u Q I rx ry h
 obtain ⟨i,j,rfl,rfl,hz,q⟩ := h
 obtain ⟨t,rfl⟩ := rx
 obtain ⟨t',rfl⟩ := ry
 exact add_str (fun t' tk => ⟨.str (i ++ j),H,I.tok _,⟨_,rfl⟩,q⟩) hz
theorem J9D {x : V} {us : List Value} (r : Vals [x] us) : ∃ u,us = [u] ∧ RelV x u := by
 cases r with
 | cons r1 r2 => cases r2; exact ⟨_,rfl,r1⟩
theorem Jei {x y : V} {us : List Value} (r : Vals [x,y] us) : ∃ u w',us = [u,w'] ∧ RelV x u ∧ RelV y w' := by
 cases r with
 | cons r1 r2 =>
  cases r2 with
  | cons r3 r4 => cases r4; exact ⟨_,_,rfl,r1,r3⟩
theorem J5B (hc : X.calm = true) : J2m X (.builtin "max") (fun xs H Q => ∃ i j,xs = [.int i,.int j] ∧ Q (.int (if j > i then j else i)) H) := by
 intro pins s σ H xs us Q I r h
 obtain ⟨i,j,rfl,q⟩ := h
 obtain ⟨u,w',rfl,⟨t,rfl⟩,⟨t',rfl⟩⟩ := Jei r
 refine max_two_ints (I.ok.hd hc) fun h' tk k => ⟨_,H,I.kept k,?_,q⟩
 by_cases hj : j > i
 ·rw [if_pos hj,if_pos hj]; exact ⟨_,rfl⟩
 ·rw [if_neg hj,if_neg hj]; exact ⟨_,rfl⟩
theorem J82 (hc : X.calm = true) : J2m X (.builtin "min") (fun xs H Q => ∃ i j,xs = [.int i,.int j] ∧ Q (.int (if j < i then j else i)) H) := by
 intro pins s σ H xs us Q I r h
 obtain ⟨i,j,rfl,q⟩ := h
 obtain ⟨u,w',rfl,⟨t,rfl⟩,⟨t',rfl⟩⟩ := Jei r
 refine min_two_ints (I.ok.hd hc) fun h' tk k => ⟨_,H,I.kept k,?_,q⟩
 by_cases hj : j < i
 ·rw [if_pos hj,if_pos hj]; exact ⟨_,rfl⟩
 ·rw [if_neg hj,if_neg hj]; exact ⟨_,rfl⟩
theorem JbT : J2m X (.type "int") (fun xs H Q => (∃ i,xs = [.int i] ∧ Q (.int i) H) ∨ ∃ k,xs = [.bl k] ∧ Q (.int (if k then 1 else 0)) H) := by
 intro pins s σ H xs us Q I r h
 rcases h with ⟨i,rfl,q⟩ | ⟨k,rfl,q⟩
 ·obtain ⟨u,rfl,t,rfl⟩ := J9D r
  exact call_int_int ⟨.int i,H,I,⟨_,rfl⟩,q⟩
 ·obtain ⟨u,rfl,r1⟩ := J9D r
  cases r1
  exact call_int_bool ⟨.int (if k then 1 else 0),H,I.tok _,⟨_,rfl⟩,q⟩
end
end L2
namespace L2
open PySem PySem.Spec PyProof.Rows
structure ObjM (h : Heap) (x dx C : Addr) (mA : Str → Option Value) : Prop where
 obj : h.get? x = some (PySem.W.instObj C dx)
 ns : h.Ns1 dx mA
 ne : dx ≠ x
theorem JbN {h : Heap} {dx : Addr} {mA : Str → Option Value} (n : h.Ns1 dx mA) : ∃ od,h.get? dx = some od ∧ ∀ name,PySem.W.lookIn name od = some (mA name) := by
 obtain ⟨o,es,ep,ho,hd,hk,_,hm⟩ := n
 refine ⟨o,ho,fun name => ?_⟩
 have e := hm name
 unfold nsFind findBy at e
 rw [← Array.find?_toList] at e
 unfold PySem.W.lookIn
 rw [hd]
 dsimp only
 split
 ·rename_i y q
  rw [q] at e
  exact congrArg some e
 ·rename_i q
  rw [q] at e
  have a : es.toList.any (·.refKey) = false := by
   rw [List.any_eq_false]
   intro y hy
   obtain ⟨z,t,hkey⟩ := hk y (Array.mem_toList_iff.mp hy)
   simp [DictEntry.refKey,hkey]
  have a' : ¬ es.toList.any (·.refKey) = true := by rw [a]; exact Bool.false_ne_true
  rw [if_neg a']
  exact congrArg some e
theorem ObjM.look {h : Heap} {x dx C : Addr} {mA : Str → Option Value} (I : ObjM h x dx C mA) : ∃ od,PySem.W.InstAt h x (PySem.W.instObj C dx) C (some od) ∧ ∀ name,PySem.W.lookIn name od = some (mA name) :=
 let ⟨od,ho,hl⟩ := JbN I.ns
 ⟨od,⟨I.obj,rfl,rfl,ho⟩,hl⟩
section
variable {prog : Program} {w : World} {A : Around} {E : Value → Shared → Prop} {s : Shared} {K : PySem.W.Frag} {x dx C f : Addr} {mA : Str → Option Value} {name : Str} {v : Value}
theorem Jed {expr : Bool} {Q : Value → Shared → Prop} (X : K.In s.heap) (I : ObjM s.heap x dx C mA) (hg : PySem.W.plainGet K C name = true) (hh : PySem.W.hasDictIn K C = true)
  (ha : PySem.W.findIn K (.ref C) name = some none) (hv : mA name = some v) (hv' : PySem.W.handedIn v = true) (h : Q v { s with toks := s.toks + 1 }) :
  wpAny (model prog w) A (getAttr (.ref x) name expr) Q E s := by
 obtain ⟨od,J,hl⟩ := I.look
 exact PySem.W.get_value X J (PySem.W.plainGet_of hg).1 (PySem.W.findObj_own hh ha rfl (by rw [hl,hv])) hv' h
theorem Jd4 {pl : Sem Bool} {Q : Value × List Value → Shared → Prop} (X : K.In s.heap) (I : ObjM s.heap x dx C mA) (hg : PySem.W.plainGet K C name = true)
  (hf : PySem.W.findIn K (.ref C) name = some (some (.ref f))) (ht : PySem.W.isFn K (.ref f) = true) (hv : mA name = none) (h : Q (.ref f,[.ref x]) s) :
  wpAny (model prog w) A (getMethod (.ref x) name pl) Q E s := by
 obtain ⟨od,J,hl⟩ := I.look
 exact PySem.W.method_fn X J (PySem.W.plainGet_of hg).1 (PySem.W.plainGet_of hg).2 hf (beq_iff_eq.mp ht) (by show (PySem.W.lookIn name od).map (·.isSome) = some false; rw [hl,hv]; rfl) h
theorem JdT {ns : List Str} {Q : Unit → Shared → Prop} (X : K.In s.heap) (I : ObjM s.heap x dx C mA)
  (hs : PySem.W.findIn K (.ref C) "__setattr__" = some (some (.builtin "object.__setattr__"))) (hp : PySem.W.plainOver K C = true) (ht : PySem.W.takerIn K C name = some none) (hh : PySem.W.hasDictIn K C = true)
  (hw : PySem.Within mA ns) (hsz : ns.length ≤ sizeLine)
  (h : ∀ h',ObjM h' x dx C (fun y => if y = name then some v else mA y) → Heap.SameBut dx s.heap h' → Q () { s with heap := h',toks := s.toks + 2 }) :
  wpAny (model prog w) A (setAttr (.ref x) name v) Q E s := by
 obtain ⟨od,J,hl⟩ := I.look
 refine PySem.W.set_plain X J hs (PySem.W.osa_open (s := { s with toks := s.toks + 1 }) (r := none) X J hp ht fun b => ?_)
 obtain ⟨cd,hc,hd'⟩ := PySem.W.any_some hh
 have hx : s.heap.get? x = some ⟨.ref C,some dx,.plain,#[]⟩ := I.obj
 refine wpAny_bind (wpAny_pure (wpAny_bind (wpAny_bind (wpAny_loadPart hx (wpAny_bind (PySem.W.Looks.here (s := { s with toks := s.toks + 1 }) (PySem.W.looks_clsIn X hc) ?_))))))
 rw [hd']
 refine wpAny_pure (a := some dx) (wpAny_bind (wpAny_pure (wpAny_bind ?_)))
 refine wpAny_nsSet1 (s := { s with toks := s.toks + 1 }) I.ns fun h' hn2 hs2 => ?_
 obtain ⟨oD,esD,epD,hoD,hdD,hcD⟩ := hn2.count (PySem.Within.cons name v hw)
 refine wpAny_bind (wpAny_lookBehind hoD (by rw [hdD]; exact pastItsLine_dict (Nat.le_trans hcD (by rw [List.length_cons]; omega))) ?_)
 exact wpAny_pure (h _ ⟨(hs2.2 _ (Ne.symm I.ne)).trans I.obj,hn2,I.ne⟩ hs2)
theorem JcO {R : Result → Shared → Prop} {vs : List Value} {kw : List (Str × Value)} (X : K.In s.heap) (hm : PySem.W.makesIn K C = true)
  (hi : PySem.W.findIn K (.ref C) "__init__" = some (some (.ref f))) (hf : PySem.W.typeIn K (.ref f) = some (.type "function"))
  (h : codeAny (model prog w) (A.under (.builtin "type.__call__" ⟨.ref C :: vs,kw⟩)) (.call (.ref f) ⟨.ref (s.heap.objs.size + 1) :: vs,kw⟩) (PySem.W.InitBack (s.heap.objs.size + 1) R)
   {s with heap := (s.heap.push PySem.W.emptyDict).push (PySem.W.instObj C s.heap.objs.size) }) :
  codeAny (model prog w) A (.call (.ref C) ⟨vs,kw⟩) R s := by
 obtain ⟨hh,g,d,t,os⟩ := s
 exact PySem.W.make_core (PySem.W.makes_of X hm) (PySem.W.looks_findIn X hi) (fun self => PySem.W.bind_fn X self hf) (.inl rfl) h
theorem JbB {R : Result → Shared → Prop} (X : K.In s.heap) (hm : PySem.W.makesIn K C = true)
  (hi : PySem.W.findIn K (.ref C) "__init__" = some (some (.builtin "object.__init__")))
  (hb : ∀ self,PySem.W.Looks (model prog w) s.heap (bindSpecial (.builtin "object.__init__") self) (.builtin "object.__init__",[self]))
  (h : codeAny (model prog w) (A.under (.builtin "type.__call__" ⟨[.ref C],[]⟩)) (.call (.builtin "object.__init__") ⟨[.ref (s.heap.objs.size + 1)],[]⟩) (PySem.W.InitBack (s.heap.objs.size + 1) R)
   {s with heap := (s.heap.push PySem.W.emptyDict).push (PySem.W.instObj C s.heap.objs.size) }) :
  codeAny (model prog w) A (.call (.ref C) ⟨[],[]⟩) R s := by
 obtain ⟨hh,g,d,t,os⟩ := s
 exact PySem.W.make_core (PySem.W.makes_of X hm) (PySem.W.looks_findIn X hi) hb (.inr ⟨rfl,rfl⟩) h
end
noncomputable def putF (f : Str) (v : V) : List (Str × V) → List (Str × V)
 | [] => [(f,v)]
 | (g,x) :: r => if g = f then (g,v) :: r else (g,x) :: putF f v r
theorem J5V (f g : Str) (v : V) : ∀ fs : List (Str × V),(putF f v fs).lookup g = if g = f then some v else fs.lookup g
 | [] => by
  show List.lookup g [(f,v)] = _
  by_cases h : g = f
  ·have hb : (g == f) = true := beq_iff_eq.mpr h
   simp only [List.lookup,hb,if_pos h]
  ·have hb : (g == f) = false := beq_eq_false_iff_ne.mpr h
   simp only [List.lookup,hb,if_neg h]
 | (k,x) :: r => by
  have ih := J5V f g v r
  rw [show putF f v ((k,x) :: r) = (if k = f then (k,v) :: r else (k,x) :: putF f v r) from rfl]
  by_cases hk : k = f
  ·rw [if_pos hk]
   by_cases h : g = k
   ·have hb : (g == k) = true := beq_iff_eq.mpr h
    simp only [List.lookup,hb,if_pos (h.trans hk)]
   ·have hb : (g == k) = false := beq_eq_false_iff_ne.mpr h
    simp only [List.lookup,hb,if_neg (fun e : g = f => h (e.trans hk.symm))]
  ·rw [if_neg hk]
   by_cases h : g = k
   ·have hb : (g == k) = true := beq_iff_eq.mpr h
    simp only [List.lookup,hb,if_neg (fun e : g = f => hk (h.symm.trans e))]
   ·have hb : (g == k) = false := beq_eq_false_iff_ne.mpr h
    simp only [List.lookup,hb]
    exact ih
theorem J5G (f : Str) (v : V) : ∀ fs : List (Str × V),f ∈ (putF f v fs).map (·.1) ∧ ∀ g,g ∈ fs.map (·.1) → g ∈ (putF f v fs).map (·.1)
 | [] => ⟨by simp [putF],fun g h => by simp at h⟩
 | (k,x) :: r => by
  obtain ⟨i1,i2⟩ := J5G f v r
  rw [show putF f v ((k,x) :: r) = (if k = f then (k,v) :: r else (k,x) :: putF f v r) from rfl]
  by_cases hk : k = f
  ·rw [if_pos hk]
   subst hk
   exact ⟨by simp,fun g h => by simpa using h⟩
  ·rw [if_neg hk]
   refine ⟨?_,fun g h => ?_⟩
   ·rw [List.map_cons]
    exact List.mem_cons_of_mem _ i1
   ·rw [List.map_cons] at h ⊢
    rcases List.mem_cons.mp h with e | e
    ·exact List.mem_cons.mpr (.inl e)
    ·exact List.mem_cons_of_mem _ (i2 g e)
theorem J5S (f : Str) (v : V) : ∀ fs : List (Str × V),(putF f v fs).length ≤ fs.length + 1
 | [] => by simp [putF]
 | (k,x) :: r => by
  have ih := J5S f v r
  rw [show putF f v ((k,x) :: r) = (if k = f then (k,v) :: r else (k,x) :: putF f v r) from rfl]
  by_cases hk : k = f
  ·rw [if_pos hk,List.length_cons,List.length_cons]; omega
  ·rw [if_neg hk,List.length_cons,List.length_cons]; omega
theorem RelO.some_of {v : V} {o : Option Value} (r : RelO (some v) o) : ∃ u,o = some u ∧ RelV v u := by
 cases o with
 | none => exact (show False from r).elim
 | some u => exact ⟨u,rfl,r⟩
theorem RelO.none_of {o : Option Value} (r : RelO none o) : o = none := by
 cases o with
 | none => rfl
 | some u => exact (show False from r).elim
theorem JbG {v : V} {u : Value} (r : RelV v u) : PySem.W.handedIn u = true := by
 cases v with
 | non => cases (show u = Value.none from r); rfl
 | bl b => cases (show u = Value.bool b from r); rfl
 | int i => obtain ⟨t,e⟩ := (show ∃ t,u = Value.int i t from r); cases e; rfl
 | str x => obtain ⟨t,e⟩ := (show ∃ t,u = Value.str x t from r); cases e; rfl
 | byt b => obtain ⟨t,e⟩ := (show ∃ t,u = Value.bytes b t from r); cases e; rfl
 | flt b => obtain ⟨t,e⟩ := (show ∃ t,u = Value.float b t from r); cases e; rfl
 | ref a => cases (show u = Value.ref a from r); rfl
 | ty n => cases (show u = Value.type n from r); rfl
section
variable {P : Program} {w : World} {H H' : Hp} {h h' : Heap} {a C dx : Addr} {fs fs' : List (Str × V)}
theorem J66 (hok : HOk P w H h) (e : H a = some (.ins C dx fs)) : ∃ mA,ObjM h a dx C mA ∧ (∀ f,RelO (fs.lookup f) (mA f)) ∧ PySem.Within mA (fs.map (·.1)) ∧ fs.length ≤ 1000 ∧ H dx = some (.own a) := by
 obtain ⟨d,z,ne,ob,mA,n,r,q⟩ := (show J18 P w H h a (.ins C dx fs) from hok a _ e)
 exact ⟨mA,⟨ob,n,ne⟩,r,q,z,d⟩
end
structure Cls (K : PySem.W.Frag) (C : Addr) : Prop where
 pg : PySem.W.plainGet K C Str.empty = true
 hd : PySem.W.hasDictIn K C = true
 po : PySem.W.plainOver K C = true
 sa : PySem.W.findIn K (.ref C) "__setattr__" = some (some (.builtin "object.__setattr__"))
theorem Cls.get {K : PySem.W.Frag} {C : Addr} (c : Cls K C) (f : Str) : PySem.W.plainGet K C f = true := c.pg
noncomputable def J05 (K : PySem.W.Frag) (C : Addr) (f : Str) : Prop := PySem.W.findIn K (.ref C) f = some none
theorem J05.taker {K : PySem.W.Frag} {C : Addr} {f : Str} (n : J05 K C f) : PySem.W.takerIn K C f = some none := by
 unfold PySem.W.takerIn
 rw [show PySem.W.findIn K (.ref C) f = some none from n]
 rfl
structure Meth (K : PySem.W.Frag) (C : Addr) (m : Str) (f : Addr) : Prop where
 at_ : PySem.W.findIn K (.ref C) m = some (some (.ref f))
 fn : PySem.W.isFn K (.ref f) = true
 kp : PySem.W.keepIn K (.ref f) = true
section
variable {X : Cx} {pins : List (Addr × Obj)} {σ : St} {H : Hp} {s : Shared} {a C dx : Addr} {fs : List (Str × V)} {f : Str} {v : V} {A : Around} {E : Value → Shared → Prop}
theorem JaI {b : Bool} {Q : Value → Shared → Prop} (I : Inv X pins σ H s) (e : H a = some (.ins C dx fs)) (c : Cls X.K C) (n : J05 X.K C f) (l : fs.lookup f = some v)
  (h : ∀ u s',Inv X pins σ H s' → RelV v u → Q u s') : wpAny (model X.prog X.w) A (getAttr (.ref a) f b) Q E s := by
 obtain ⟨mA,O,r,_,_,_⟩ := J66 I.hok e
 obtain ⟨u,hu,ru⟩ := RelO.some_of (v := v) (o := mA f) (by rw [← l]; exact r f)
 exact Jed I.kIn O (c.get f) c.hd n hu (JbG ru) (h u _ (I.tok _) ru)
theorem J76 {m : Str} {g : Addr} {pl : Sem Bool} {Q : Value × List Value → Shared → Prop} (I : Inv X pins σ H s) (e : H a = some (.ins C dx fs)) (c : Cls X.K C) (k : Meth X.K C m g) (l : fs.lookup m = none)
  (h : Q (.ref g,[.ref a]) s) : wpAny (model X.prog X.w) A (getMethod (.ref a) m pl) Q E s := by
 obtain ⟨mA,O,r,_,_,_⟩ := J66 I.hok e
 have hn : mA m = none := RelO.none_of (by rw [← l]; exact r m)
 exact Jd4 I.kIn O (c.get m) k.at_ k.fn hn h
theorem Jas {y : V} {u : Value} {Q : Unit → Shared → Prop} (I : Inv X pins σ H s) (e : H a = some (.ins C dx fs)) (c : Cls X.K C) (n : J05 X.K C f) (hl : fs.length < 1000) (ry : RelV y u)
  (h : ∀ s',Inv X pins σ (upd H a (.ins C dx (putF f y fs))) s' → Q () s') : wpAny (model X.prog X.w) A (setAttr (.ref a) f u) Q E s := by
 obtain ⟨mA,O,r,wi,_,ho⟩ := J66 I.hok e
 have hz : (fs.map (·.1)).length ≤ sizeLine := by rw [List.length_map,sizeLine_eq]; omega
 refine JdT I.kIn O c.sa c.po n.taker c.hd wi hz fun h' O' sb => h _ ?_
 have hd : ∃ o,h'.get? dx = some o := let ⟨o,_,_,e',_⟩ := O'.ns; ⟨o,e'⟩
 refine I.write (x := a) (e := dx) (by rw [e]; exact True.intro) (.inr ho) (fun b q hb z => (sb.2 b hb).trans z) hd ?_
 refine ⟨by rw [Jj O.ne]; exact ho,?_,O.ne,O'.obj,_,O'.ns,fun g => ?_,fun g hg => ?_⟩
 ·have := J5S f y fs; omega
 ·show RelO ((putF f y fs).lookup g) (if g = f then some u else mA g)
  rw [J5V]
  by_cases q : g = f
  ·rw [if_pos q,if_pos q]; exact ry
  ·rw [if_neg q,if_neg q]; exact r g
 ·by_cases q : g = f
  ·rw [q]; exact (J5G f y fs).1
  ·refine (J5G f y fs).2 g (wi g fun z => hg ?_)
   show (if g = f then some u else mA g) = none
   rw [if_neg q]; exact z
theorem Inv.made (I : Inv X pins σ H s) : Inv X pins σ (upd (upd H s.heap.objs.size (.own (s.heap.objs.size + 1))) (s.heap.objs.size + 1) (.ins C s.heap.objs.size []))
  {s with heap := (s.heap.push PySem.W.emptyDict).push (PySem.W.instObj C s.heap.objs.size) } := by
 have e1 : (s.heap.push PySem.W.emptyDict).get? s.heap.objs.size = some PySem.W.emptyDict := Heap.get?_push_size s.heap rfl
 have e2 : ((s.heap.push PySem.W.emptyDict).push (PySem.W.instObj C s.heap.objs.size)).get? (s.heap.objs.size + 1) = some (PySem.W.instObj C s.heap.objs.size) := by
  have := Heap.get?_push_size (s.heap.push PySem.W.emptyDict) (o := PySem.W.instObj C s.heap.objs.size) rfl
  rwa [Heap.size_push] at this
 have e3 : (s.heap.push PySem.W.emptyDict).Ns s.heap.objs.size (fun _ => none) := ⟨PySem.W.emptyDict,#[],_,e1,rfl,(fun e he => absurd he (by simp)),fun _ => rfl⟩
 have I1 := I.laid (a := s.heap.objs.size) (o := .own (s.heap.objs.size + 1)) (h' := s.heap.push PySem.W.emptyDict) (t' := s.toks) (fun b u q => Heap.get?_push_of_some _ q) (Nat.le_refl _) ⟨_,e1⟩
 refine I1.laid (a := s.heap.objs.size + 1) (o := .ins C s.heap.objs.size []) (t' := s.toks) (fun b u q => Heap.get?_push_of_some _ q) (Nat.le_of_eq (Heap.size_push _ _)) ?_
 have ne : s.heap.objs.size ≠ s.heap.objs.size + 1 := Nat.ne_of_lt (Nat.lt_succ_self _)
 refine ⟨by rw [Jj ne,Jd],Nat.zero_le _,ne,e2,fun _ => none,(Heap.Ns1.of_empty e3).at fun o q => Heap.get?_push_of_some _ q,fun _ => True.intro,fun y hy => absurd rfl hy⟩
theorem Jee {prog : Program} {w : World} {env : Env} {e : Expr} {f : Str} {pos : Pos} {s : Shared} {Q : Value → Shared → Prop} (hb : attributeBase e f env (eval e env) = eval e env)
  (h : wpAny (model prog w) A (eval e env) (fun o s₁ => wpAny (model prog w) A (getAttr o f true) Q E s₁) E s) : wpAny (model prog w) A (eval (.Attribute e f pos) env) Q E s :=
 Attribute_any_ h (by rw [arm_eval_Attribute,hb])
end
noncomputable def tFld (K : PySem.W.Frag) (ta : TE) (f : Str) : TE := fun σ H Q => ta σ H fun x H1 => ∃ a C dx fs v,x = .ref a ∧ H1 a = some (.ins C dx fs) ∧ Cls K C ∧ J05 K C f ∧ fs.lookup f = some v ∧ Q v H1
noncomputable def sFld (K : PySem.W.Frag) (ta tv : TE) (f : Str) : TS := fun D σ H => tv σ H fun y H1 => ta σ H1 fun x H2 => ∃ a C dx fs,x = .ref a ∧ H2 a = some (.ins C dx fs) ∧ Cls K C ∧ J05 K C f ∧ fs.length < 1000 ∧
 D.nx σ (upd H2 a (.ins C dx (putF f y fs)))
section
variable {X : Cx} {o e value : Expr} {f : Str} {pos pos' tpos : Pos} {ta tv : TE}
theorem Jft (he : PE X e ta) (hb : attributeBase e f X.env (eval e X.env) = eval e X.env) : PE X (.Attribute e f pos) (tFld X.K ta f) := by
 intro pins s σ H Q I h
 refine Jee hb (thn (he pins s σ H _ I h) fun u s1 ⟨x,H1,I1,rx,a,C,dx,fs,v,ex,ea,c,n,l,q⟩ => ?_)
 subst ex
 obtain rfl : u = Value.ref a := rx
 exact JaI I1 ea c n l fun u' s2 I2 ru => ⟨v,H1,I2,ru,q⟩
theorem J0s (ha : PE X o ta) (hv : PE X value tv) (hs : swapsWith value (some (.Attribute o f pos')) pos.line X.env = pure false) : PS X (.Assign [.Attribute o f pos'] value pos) (sFld X.K ta tv f) := by
 intro pins s σ H D I h
 refine plainObj_wpAny_Assign_Attribute (thn (hv pins s σ H _ I h) fun u s1 ⟨y,H1,I1,ry,q⟩ => thn (ha pins s1 σ H1 _ I1 q) fun ov s2 ⟨x,H2,I2,rx,a,C,dx,fs,ex,ea,c,n,l,q2⟩ => ?_) hs
 subst ex
 obtain rfl : ov = Value.ref a := rx
 exact Jas I2 ea c n l ry fun s3 I3 => ⟨σ,_,I3,q2⟩
end
section
variable {X : Cx} {pins : List (Addr × Obj)} {σ : St} {H : Hp} {s : Shared} {A : Around} {E : Value → Shared → Prop} {Q : Value → Shared → Prop} {c : Value} {b : Bool}
inductive TyOf (K : PySem.W.Frag) (H : Hp) : V → Value → Prop where
 | non : TyOf K H .non (.type "NoneType")
 | bl (x : Bool) : TyOf K H (.bl x) (.type "bool")
 | int (i : Int) : TyOf K H (.int i) (.type "int")
 | str (x : Str) : TyOf K H (.str x) (.type "str")
 | flt (x : UInt64) : TyOf K H (.flt x) (.type "float")
 | lst {a : Addr} {xs : List V} (e : H a = some (.lst xs)) : TyOf K H (.ref a) (.type "list")
 | frz {a : Addr} {o : Obj} {xs : List V} (e : H a = some (.frz o (.lst xs))) : TyOf K H (.ref a) (.type "list")
 | tup {a : Addr} {xs : List V} (e : H a = some (.tup xs)) : TyOf K H (.ref a) (.type "tuple")
 | dK {a : Addr} {kvs : List (Key × V)} (e : H a = some (.dK kvs)) : TyOf K H (.ref a) (.type "dict")
 | dT {a : Addr} {kvs : List (List Key × V)} (e : H a = some (.dT kvs)) : TyOf K H (.ref a) (.type "dict")
 | ins {a C dx : Addr} {fs : List (Str × V)} (e : H a = some (.ins C dx fs)) (cl : Cls K C) (ha : PySem.W.findIn K (.ref C) "__class__" = some (some (.builtin "object.__class__")))
   (hn : PySem.W.specialIn K (.builtin "object.__class__") "__get__" = some (some (.builtin "getset_descriptor.__get__"))) (htk : PySem.W.takesIn K (.builtin "object.__class__") = some true)
   (hm : PySem.W.mroIn K C (.type "object") = some true) : TyOf K H (.ref a) (.ref C)
theorem Jc0 {x : V} {u t : Value} (I : Inv X pins σ H s) (rx : RelV x u) (ty : TyOf X.K H x t) (e : PySem.W.kitOne X.K t c = some b) (h : ∀ tk,Q (.bool b) { s with toks := tk }) :
  wpAny (model X.prog X.w) A (call (.builtin "isinstance") [u,c]) Q E s := by
 cases ty with
 | non => cases (show u = Value.none from rx); exact PySem.W.kia_one PySem.W.kitx_none I.kIn True.intro e (fun z => nomatch z) h
 | bl y => cases (show u = Value.bool y from rx); exact PySem.W.kia_one PySem.W.kitx_bool I.kIn True.intro e (fun z => nomatch z) h
 | int i => obtain ⟨t,q⟩ := (show ∃ t,u = Value.int i t from rx); cases q; exact PySem.W.kia_one PySem.W.kitx_int I.kIn True.intro e (fun z => nomatch z) h
 | str y => obtain ⟨t,q⟩ := (show ∃ t,u = Value.str y t from rx); cases q; exact PySem.W.kia_one PySem.W.kitx_str I.kIn True.intro e (fun z => nomatch z) h
 | flt y => obtain ⟨t,q⟩ := (show ∃ t,u = Value.float y t from rx); cases q; exact PySem.W.kia_one PySem.W.kitx_float I.kIn True.intro e (fun z => nomatch z) h
 | @lst a xs ea =>
  cases (show u = Value.ref a from rx)
  obtain ⟨_,_,n,_,h1⟩ := (show J18 X.prog X.w H s.heap a (.lst xs) from I.hok a _ ea)
  exact PySem.W.kia_one PySem.W.kitx_list I.kIn ⟨_,h1,rfl⟩ e (fun z => nomatch z) h
 | @frz a ob xs ea =>
  cases (show u = Value.ref a from rx)
  obtain ⟨_,_,_,n,_,h1⟩ := (show J18 X.prog X.w H s.heap a (.frz ob (.lst xs)) from I.hok a _ ea)
  exact PySem.W.kia_one PySem.W.kitx_list I.kIn ⟨_,h1,rfl⟩ e (fun z => nomatch z) h
 | @tup a xs ea =>
  cases (show u = Value.ref a from rx)
  obtain ⟨_,_,_,p⟩ := (show J18 X.prog X.w H s.heap a (.tup xs) from I.hok a _ ea)
  obtain ⟨o,h1,h2,_⟩ := p
  exact PySem.W.kia_one PySem.W.kitx_tuple I.kIn ⟨o,h1,h2⟩ e (fun z => nomatch z) h
 | @dK a kvs ea =>
  cases (show u = Value.ref a from rx)
  obtain ⟨_,_,vs,_,p⟩ := (show J18 X.prog X.w H s.heap a (.dK kvs) from I.hok a _ ea)
  obtain ⟨o,es,ep,h1,h2,_⟩ := p
  exact PySem.W.kia_one PySem.W.kitx_dict I.kIn ⟨o,h1,h2.1⟩ e (fun z => nomatch z) h
 | @dT a kvs ea =>
  cases (show u = Value.ref a from rx)
  obtain ⟨_,_,xs,_,o,es,ep,h1,h2,_⟩ := (show J18 X.prog X.w H s.heap a (.dT kvs) from I.hok a _ ea)
  exact PySem.W.kia_one PySem.W.kitx_dict I.kIn ⟨o,h1,h2.1⟩ e (fun z => nomatch z) h
 | @ins a C dx fs ea cl ha hn htk hm =>
  cases (show u = Value.ref a from rx)
  obtain ⟨mA,O,_⟩ := J66 I.hok ea
  obtain ⟨od,J,_⟩ := O.look
  exact PySem.W.kia_one (PySem.W.kitx_own (cl.get _) cl.hd ha hn htk hm) I.kIn J e (fun z => nomatch z) h
end
end L2
namespace L2
open PySem PySem.Spec PyProof.Rows
structure Room (k : Nat) (A : Around) : Prop where
 hd : A.handled = none
 dp : A.depth + 3 * k + 5 < recursionLimit
 un : A.units + 16 * k + 200 < cLine
theorem Room.mono {j k : Nat} {A : Around} (r : Room k A) (h : j ≤ k) : Room j A := ⟨r.hd,by have := r.dp; omega,by have := r.un; omega⟩
theorem Room.deeper {k : Nat} {A : Around} (r : Room (k + 1) A) (env : Env) : Room k (A.deeper env) :=
 ⟨r.hd,by have := r.dp; show A.depth + 1 + 3 * k + 5 < _; omega,by have := r.un; show A.units + 3 + 16 * k + 200 < _; omega⟩
theorem JaE {A : Around} {C : Addr} {us : List Value} {kw : List (Str × Value)} : (A.under (.builtin "type.__call__" ⟨.ref C :: us,kw⟩)).depth = A.depth + 1 := by
 first | rfl | simp [Around.under,Code.weight,Code.isCreation,Code.isGuard,Code.isCaller,Code.frames,Code.isFrame,guardIds]
theorem Jaz {A : Around} {C : Addr} {us : List Value} {kw : List (Str × Value)} : (A.under (.builtin "type.__call__" ⟨.ref C :: us,kw⟩)).units = A.units + 1 := by
 first | rfl | simp [Around.under,Code.cUnits,Code.frames,Code.isFrame]
theorem Room.make {k : Nat} {A : Around} (r : Room (k + 1) A) (C : Addr) (us : List Value) (kw : List (Str × Value)) : Room k (A.under (.builtin "type.__call__" ⟨.ref C :: us,kw⟩)) :=
 ⟨r.hd,by have := r.dp; rw [JaE]; omega,by have := r.un; rw [Jaz]; omega⟩
theorem Room.depth {k : Nat} {A : Around} (r : Room k A) : A.depth < recursionLimit := by have := r.dp; omega
theorem Room.units {k : Nat} {A : Around} (r : Room k A) : A.units + 64 < cLine := by have := r.un; omega
theorem Room.units0 {k : Nat} {A : Around} (r : Room k A) : A.units < cLine := by have := r.un; omega
noncomputable def tNil : TA := fun _ H Q => Q [] H
noncomputable def JfD (ta : TE) (tr : TA) : TA := fun σ H Q => ta σ H fun x H1 => tr σ H1 fun xs H2 => Q (x :: xs) H2
section
variable {X : Cx} {e : Expr} {es : List Expr} {te : TE} {t : TA} {pos : Pos}
theorem J5 : PA X [] tNil := fun _ _ _ _ H Q I h => Calls.spliced_nil ⟨[],H,I,.nil,h⟩
theorem J0 (ha : PE X e te) (hr : PA X es t) (hs : starEach (e :: es) X.env = (false,eval e X.env) :: starEach es X.env := by rfl) : PA X (e :: es) (JfD te t) := by
 intro pos pins s σ H Q I h
 rw [hs]
 show wpAny _ _ (spliced ((false,eval e X.env) :: backTo pos (starEach es X.env))) _ _ s
 refine Calls.spliced_cons (thn (ha pins s σ H _ I h) fun u s1 ⟨x,H1,I1,r1,q1⟩ => ?_)
 exact thn (hr pos pins s1 σ H1 _ I1 q1) fun us s2 ⟨xs,H2,I2,r2,q2⟩ => ⟨x :: xs,H2,I2,.cons r1 r2,q2⟩
noncomputable def tTup (t : TA) : TE := fun σ H Q => t σ H fun xs H1 => xs.length ≤ sizeLine ∧ ∀ p,H1 p = none → Q (.ref p) (upd H1 p (.tup xs))
noncomputable def tLst (t : TA) : TE := fun σ H Q => t σ H fun xs H1 => xs.length ≤ sizeLine ∧ ∀ p,H1 p = none → Q (.ref p) (upd H1 p (.lst xs))
theorem J0t {x1} (h : PA X es t) : PE X (.Tuple es x1 pos) (tTup t) := by
 intro pins s σ H Q I hq
 refine wpAny_Tuple_spliced (thn (h pos pins s σ H _ I hq) fun us s1 ⟨xs,H1,I1,r,z,q⟩ => ⟨by rw [← r.length]; exact z,?_⟩)
 have hf : H1 s1.heap.objs.size = none := I1.hok.fresh (Nat.le_refl _)
 refine ⟨.ref s1.heap.objs.size,upd H1 s1.heap.objs.size (.tup xs),I1.laid (t' := s1.toks) (fun b u e => Heap.get?_push_of_some _ e) (Nat.le_refl _) ?_,rfl,q _ hf⟩
 exact ⟨z,us,r,⟨_,Heap.get?_push_size _ rfl,rfl,_,rfl⟩⟩
theorem J0X (h : PA X es t) : PE X (.List es pos) (tLst t) := by
 intro pins s σ H Q I hq
 refine wpAny_List_spliced (thn (h pos pins s σ H _ I hq) fun us s1 ⟨xs,H1,I1,r,z,q⟩ => ⟨by rw [← r.length]; exact z,?_⟩)
 have hf : H1 s1.heap.objs.size = none := I1.hok.fresh (Nat.le_refl _)
 refine ⟨.ref s1.heap.objs.size,upd H1 s1.heap.objs.size (.lst xs),I1.laid (t' := s1.toks) (fun b u e => Heap.get?_push_of_some _ e) (Nat.le_refl _) ?_,rfl,q _ hf⟩
 exact ⟨z,us,0,r,Heap.get?_push_size _ rfl⟩
end
noncomputable abbrev Sp := List V → Hp → VK → XK → Prop
noncomputable abbrev CXT := List Env → Hp → Shared → XK → Value → Shared → Prop
structure Env0 (P : Program) (w : World) (K : PySem.W.Frag) (mg : Str → Option Value) (base : Heap) (A : Around) (outer : List Env) (s : Shared) (H : Hp) : Prop where
 frames : A.frames = some outer
 mod : Mod K mg base
 bs : ∀ b o,base.get? b = some o → s.heap.get? b = some o ∧ H b = none
 bsz : base.objs.size ≤ s.heap.objs.size
 funs : s.heap.FunFrames base outer
 frf : ∀ b ∈ frs outer,H b = none
 hok : HOk P w H s.heap
 bare : AllBare s.gens
noncomputable def CE (outer : List Env) (P : Program) (w : World) (H : Hp) (s : Shared) (Q : VK) (u : Value) (s' : Shared) : Prop :=
 ∃ v H',s'.os = s.os ∧ AllBare s'.gens ∧ Un (frs outer) [] H H' s.heap s'.heap ∧ HOk P w H' s'.heap ∧ RelV v u ∧ Q v H'
noncomputable def CR (CX : CXT) (outer : List Env) (P : Program) (w : World) (H : Hp) (s : Shared) (Q : VK) (E : XK) (r : Result) (s' : Shared) : Prop :=
 match r with
 | .ok (.ret u) => CE outer P w H s Q u s'
 | .ok _ => False
 | .error e => CX outer H s E e s'
structure FnOk (P : Program) (w : World) (K : PySem.W.Frag) (mg : Str → Option Value) (base : Heap) (CX : CXT) (k : Nat) (f : Addr) (fd : FuncData) (ps : List Str) (sp : Sp) : Prop where
 len : ∀ vs H Q E,sp vs H Q E → vs.length = ps.length
 run : ∀ (A : Around) (outer : List Env) (s : Shared) (H : Hp) (args : Args) (us : List Value) (vs : List V) (Q : VK) (E : XK),Room k A → Env0 P w K mg base A outer s H → BindsTo s fd args (ps.zip us) → Vals vs us → sp vs H Q E →
  codeAny (model P w) A (.call (.ref f) args) (CR CX outer P w H s Q E) s
theorem Env0.make {P : Program} {w : World} {K : PySem.W.Frag} {mg : Str → Option Value} {base : Heap} {A : Around} {outer : List Env} {s : Shared} {H : Hp} (e : Env0 P w K mg base A outer s H) (C : Addr) (us : List Value) (kw : List (Str × Value)) :
  Env0 P w K mg base (A.under (.builtin "type.__call__" ⟨.ref C :: us,kw⟩)) outer s H := ⟨by first | exact e.frames | (simpa [Around.under,Code.envs,Code.isFrame,pushEnvs] using e.frames),e.mod,e.bs,e.bsz,e.funs,e.frf,e.hok,e.bare⟩
section
variable {X : Cx} {pins : List (Addr × Obj)} {σ : St} {H : Hp} {s s' : Shared}
theorem Inv.env0 (I : Inv X pins σ H s) : Env0 X.prog X.w X.K X.mg X.base X.A X.stack s H :=
 ⟨I.ok.frames,I.ok.mod,I.bs,Nat.le_trans I.ok.bsz I.sz,I.stack,I.stkFree,I.hok,I.bare⟩
theorem Inv.after {Q : VK} {u : Value} (I : Inv X pins σ H s) (h : CE X.stack X.prog X.w H s Q u s') : EP X pins σ Q u s' := by
 obtain ⟨v,H',os,bare,un,hok,r,q⟩ := h
 obtain ⟨hh,g,d,t,os'⟩ := s'
 obtain rfl : os' = s.os := os
 exact ⟨v,H',I.call (h' := hh) (g' := g) (d' := d) (t' := t) (ch := []) un hok bare (fun b z => absurd z (by simp)),r,q⟩
end
noncomputable def Jeq (sp : Sp) (dvs : List V) (E : XK) (t : TA) : TE := fun σ H Q => t σ H fun vs H1 => sp (vs ++ dvs) H1 Q E
noncomputable def Jep (C : Addr) (m : Str) (sp : Sp) (dvs : List V) (E : XK) (ta : TE) (t : TA) : TE := fun σ H Q => ta σ H fun x H1 => ∃ a dx fs,x = .ref a ∧ H1 a = some (.ins C dx fs) ∧ fs.lookup m = none ∧
 t σ H1 fun vs H2 => sp (x :: (vs ++ dvs)) H2 Q E
noncomputable def J4d (K : PySem.W.Frag) (fd : FuncData) (ps : List Str) (ds : List Value) : Prop :=
 ∀ (s : Shared) (us : List Value),K.In s.heap → (us ++ ds).length = ps.length → BindsTo s fd ⟨us,[]⟩ (ps.zip (us ++ ds))
theorem J4d.all {K : PySem.W.Frag} {fd : FuncData} {ps : List Str} (h : ∀ us : List Value,us.length = ps.length → bindArgs fd ⟨us,[]⟩ = pure (ps.zip us)) : J4d K fd ps [] := fun s us _ hl => by
 rw [List.append_nil] at hl ⊢
 exact .of_eq (h us hl)
noncomputable def J7e (CX : CXT) (X : Cx) (E : XK) : Prop := ∀ (pins : List (Addr × Obj)) (σ : St) (H : Hp) (s : Shared) (e : Value) (s' : Shared),Inv X pins σ H s → CX X.stack H s E e s' → X.xe e s'
section
variable {X : Cx} {CX : CXT} {k : Nat} {f C : Addr} {fd : FuncData} {ps : List Str} {sp : Sp} {dvs : List V} {ds : List Value} {E : XK} {x m : Str} {p pos apos : Pos} {e o : Expr} {es : List Expr} {ta : TE} {t : TA}
theorem JaJ {pins : List (Addr × Obj)} {σ : St} {H : Hp} {s : Shared} {Q : VK} {us : List Value} {vs : List V} (F : FnOk X.prog X.w X.K X.mg X.base CX k f fd ps sp) (hr : Room k X.A) (hb : J4d X.K fd ps ds) (hd : Vals dvs ds) (hx : J7e CX X E)
  (I : Inv X pins σ H s) (r : Vals vs us) (h : sp (vs ++ dvs) H Q E) : wpAny (model X.prog X.w) X.A (call (.ref f) us) (EP X pins σ Q) X.xe s := by
 have r2 : Vals (vs ++ dvs) (us ++ ds) := r.append hd
 have hl : (us ++ ds).length = ps.length := by rw [← r2.length]; exact F.len _ _ _ _ h
 refine wpAny_call (codeAny_mono (F.run X.A X.stack s H ⟨us,[]⟩ (us ++ ds) (vs ++ dvs) Q E hr I.env0 (hb s us I.kIn hl) r2 h) fun r s' hq => ?_)
 cases r with
 | error e => exact hx pins σ H s e s' I hq
 | ok fl =>
  cases fl with
  | ret u => exact I.after hq
  | next => exact False.elim hq
  | brk => exact False.elim hq
  | cont => exact False.elim hq
theorem Je1 (F : FnOk X.prog X.w X.K X.mg X.base CX k f fd ps sp) (hr : Room k X.A) (hg : Gl X x) (hm : X.mg x = some (.ref f)) (hk : PySem.W.keepIn X.K (.ref f) = true) (hb : J4d X.K fd ps ds) (hd : Vals dvs ds) (hx : J7e CX X E)
  (ha : PA X (e :: es) t) (hdb : (x == ("__debug__" : Str)) = false := by decide) (he : starEach (e :: es) X.env = (false,eval e X.env) :: starEach es X.env := by rfl) (hpl : (backTo pos (starEach es X.env)).any (·.1) = false := by rfl) :
  PE X (.Call (.Name x p) (e :: es) [] pos) (Jeq sp dvs E t) := by
 intro pins s σ H Q I h
 refine wpAny_Call_Name_kw (J68 I hg hm ?_ hdb)
 refine PySem.W.callWith_K (h₀ := X.base) I.ok.mod.kin hk (thn (ha pos pins s σ H _ I h) fun us s1 ⟨vs,H1,I1,r,q⟩ => ⟨I1.kIn,?_⟩) he hpl
 exact JaJ F hr hb hd hx I1 r q
theorem JdI {pl : Sem Bool} (he : PE X o ta) (c : Cls X.K C) (hm : Meth X.K C m f) (F : FnOk X.prog X.w X.K X.mg X.base CX k f fd ps sp) (hr : Room k X.A) (hb : J4d X.K fd ps ds) (hd : Vals dvs ds) (hx : J7e CX X E) (ha : PA X (e :: es) t)
  (hst : starEach (e :: es) X.env = (false,eval e X.env) :: starEach es X.env := by rfl) (hpl : (backTo pos (starEach es X.env)).any (·.1) = false := by rfl)
  (ht : eval (.Call (.Attribute o m apos) (e :: es) [] pos) X.env = (do
   let ov ← eval o X.env
   standAt apos.atName
   let (f,first) ← holding [ov] (getMethod ov m pl)
   callWith pos f first (backTo pos (starEach (e :: es) X.env)) (backToKw pos (keywordEach [] X.env))) := by rfl) :
  PE X (.Call (.Attribute o m apos) (e :: es) [] pos) (Jep C m sp dvs E ta t) := by
 intro pins s σ H Q I h
 refine PySem.W.methodCall_KW (pl := pl) (thn (he pins s σ H _ I h) fun u s1 ⟨x,H1,I1,rx,a,dx,fs,ex,ea,l,q⟩ => ?_) ht
 subst ex
 obtain rfl : u = Value.ref a := rx
 refine J76 I1 ea c hm l ?_
 refine PySem.W.callWith_K (first := [.ref a]) (h₀ := X.base) I.ok.mod.kin hm.kp (thn (ha pos pins s1 σ H1 _ I1 q) fun us s2 ⟨vs,H2,I2,r,q2⟩ => ⟨I2.kIn,?_⟩) hst hpl
 exact JaJ (us := .ref a :: us) (vs := .ref a :: vs) F hr hb hd hx I2 (.cons rfl r) q2
structure Mk (K : PySem.W.Frag) (C f : Addr) : Prop where
 makes : PySem.W.makesIn K C = true
 init : PySem.W.findIn K (.ref C) "__init__" = some (some (.ref f))
 fn : PySem.W.isFn K (.ref f) = true
 kp : PySem.W.keepIn K (.ref C) = true
theorem Jdc {pins : List (Addr × Obj)} {σ : St} {H : Hp} {s : Shared} {Q : VK} {us : List Value} {vs : List V} (M : Mk X.K C f) (F : FnOk X.prog X.w X.K X.mg X.base CX k f fd ps sp) (hr : Room (k + 1) X.A) (hb : J4d X.K fd ps ds) (hd : Vals dvs ds)
  (hx : J7e CX X E) (I : Inv X pins σ H s) (r : Vals vs us)
  (h : ∀ x dx,H x = none → H dx = none → dx ≠ x → sp (.ref x :: (vs ++ dvs)) (upd (upd H dx (.own x)) x (.ins C dx [])) (fun v H2 => v = .non ∧ Q (.ref x) H2) E) :
  wpAny (model X.prog X.w) X.A (call (.ref C) us) (EP X pins σ Q) X.xe s := by
 have hq := h (s.heap.objs.size + 1) s.heap.objs.size (I.hok.fresh (Nat.le_succ _)) (I.hok.fresh (Nat.le_refl _)) (Nat.ne_of_lt (Nat.lt_succ_self _))
 have I2 := Inv.made (C := C) I
 have r2 : Vals (V.ref (s.heap.objs.size + 1) :: (vs ++ dvs)) (Value.ref (s.heap.objs.size + 1) :: (us ++ ds)) := .cons rfl (r.append hd)
 have hl : (Value.ref (s.heap.objs.size + 1) :: us ++ ds).length = ps.length := by
  have e := r2.length
  rw [F.len _ _ _ _ hq] at e
  exact e.symm
 refine wpAny_call (JcO (f := f) I.kIn M.makes M.init (beq_iff_eq.mp M.fn) (codeAny_mono (F.run _ X.stack _ _ ⟨Value.ref (s.heap.objs.size + 1) :: us,[]⟩ (Value.ref (s.heap.objs.size + 1) :: (us ++ ds)) _ _ E (hr.make C us [])
  (I2.env0.make C us []) (hb _ (Value.ref (s.heap.objs.size + 1) :: us) I2.kIn hl) r2 hq) fun r s' hq' => ?_))
 cases r with
 | error e => exact hx pins σ _ _ e s' I2 hq'
 | ok fl =>
  cases fl with
  | ret u =>
   obtain ⟨v,H',I3,rv,ev,q3⟩ := I2.after hq'
   subst ev
   exact ⟨rv,⟨V.ref (s.heap.objs.size + 1),H',I3,rfl,q3⟩⟩
  | next => exact False.elim hq'
  | brk => exact False.elim hq'
  | cont => exact False.elim hq'
end
section
variable {X : Cx} {CX : CXT} {k : Nat} {f C : Addr} {fd : FuncData} {ps ks : List Str} {sp : Sp} {E : XK} {x m : Str} {p pos apos kpos : Pos} {e o : Expr} {es : List Expr} {kws : List Keyword} {te ta : TE} {t tk : TA} {nm : Option Str}
variable {g : List Value → List Value → List Value} {gV : List V → List V → List V}
end
structure Jr (N P : List Str) (sc : Scope) : Prop where
 kind : sc.kind = .function
 co : sc.isCoroutine = false
 gen : sc.isGenerator = false
 nd : N.Nodup
 pre : N.take P.length = P
 par : ∀ x ∈ P,sc.names.lookup x = some .local ∨ sc.names.lookup x = some .cell
 nofree : ∀ y ∈ sc.names,y.2 ≠ .free
theorem J80 {kindOf : Str → Option NameKind} {x : Str} : ∀ {binds : List (Str × Value)} {m : Str → Option Value},(∀ v,(x,v) ∉ binds) → bindL kindOf binds m x = m x
 | [],_,_ => rfl
 | (n,v) :: r,m,h => by
  unfold bindL
  rw [J80 fun w hw => h w (List.mem_cons_of_mem _ hw)]
  split
  ·have : x ≠ n := by rintro rfl; exact h v List.mem_cons_self
   simp [this]
  ·rfl
theorem J8a {kindOf : Str → Option NameKind} {x : Str} : ∀ {binds : List (Str × Value)} {m : Str → Option Value},(∀ v,(x,v) ∉ binds) → bindC kindOf binds m x = m x
 | [],_,_ => rfl
 | (n,v) :: r,m,h => by
  unfold bindC
  rw [J8a fun w hw => h w (List.mem_cons_of_mem _ hw)]
  split
  ·rfl
  ·have : x ≠ n := by rintro rfl; exact h v List.mem_cons_self
   simp [this]
theorem J81 {kindOf : Str → Option NameKind} {x : Str} {v : Value} : ∀ {P : List Str} {vs : List Value} {i : Nat} {m : Str → Option Value},P.Nodup → P[i]? = some x → vs[i]? = some v → kindOf x = some .local →
  bindL kindOf (P.zip vs) m x = some v
 | [],_,_,_,_,h,_,_ => by simp at h
 | _ :: _,[],_,_,_,_,h,_ => by simp at h
 | p :: P,w :: vs,0,m,nd,h1,h2,hk => by
  simp at h1 h2; subst h1; subst h2
  show bindL kindOf ((p,w) :: P.zip vs) m p = _
  unfold bindL
  rw [J80 fun v hv => (List.nodup_cons.mp nd).1 (List.of_mem_zip hv).1,if_pos hk]
  simp
 | p :: P,w :: vs,i + 1,m,nd,h1,h2,hk => by
  show bindL kindOf ((p,w) :: P.zip vs) m x = _
  unfold bindL
  exact J81 (i := i) (List.nodup_cons.mp nd).2 (by simpa using h1) (by simpa using h2) hk
theorem J8d {kindOf : Str → Option NameKind} {x : Str} {v : Value} : ∀ {P : List Str} {vs : List Value} {i : Nat} {m : Str → Option Value},P.Nodup → P[i]? = some x → vs[i]? = some v → kindOf x ≠ some .local →
  bindC kindOf (P.zip vs) m x = some v
 | [],_,_,_,_,h,_,_ => by simp at h
 | _ :: _,[],_,_,_,_,h,_ => by simp at h
 | p :: P,w :: vs,0,m,nd,h1,h2,hk => by
  simp at h1 h2; subst h1; subst h2
  show bindC kindOf ((p,w) :: P.zip vs) m p = _
  unfold bindC
  rw [J8a fun v hv => (List.nodup_cons.mp nd).1 (List.of_mem_zip hv).1,if_neg hk]
  simp
 | p :: P,w :: vs,i + 1,m,nd,h1,h2,hk => by
  show bindC kindOf ((p,w) :: P.zip vs) m x = _
  unfold bindC
  exact J8d (i := i) (List.nodup_cons.mp nd).2 (by simpa using h1) (by simpa using h2) hk
noncomputable def start (N : List Str) (vs : List V) : St := vs.map some ++ List.replicate (N.length - vs.length) none
noncomputable def cxOf (CX : CXT) (P : Program) (w : World) (K : PySem.W.Frag) (mg : Str → Option Value) (base : Heap) (N : List Str) (qual : Str) (scope : Scope) (f : Addr) (cd : Value) (A : Around) (outer : List Env) (s : Shared) (H : Hp) (E : XK) : Cx where
 prog := P
 w := w
 K := K
 mg := mg
 base := base
 A := A.deeper (envOfC qual scope s.heap.objs.size f cd)
 N := N
 s₀ := s
 H₀ := H
 env := envOfC qual scope s.heap.objs.size f cd
 outer := outer
 stack := envOfC qual scope s.heap.objs.size f cd :: outer
 ex := []
 calm := true
 fn := fun _ => true
 pn := []
 xe := fun e s' => wpAny (model P w) (A.deeper (envOfC qual scope s.heap.objs.size f cd)) (leaving (envOfC qual scope s.heap.objs.size f cd) e) (fun _ s'' => CX outer H s E e s'') (fun e' s'' => CX outer H s E e' s'') s'
theorem J9U {sc : Scope} {n : Nat} {x : Str} (h : sc.names.lookup x = some .cell) : ∃ c,(cellsFrom n sc.names []).lookup x = some c := by
 have q := PySem.W.cellsFrom_some sc.names n [] (.inl h)
 exact Option.isSome_iff_exists.mp q
theorem Jca {CX : CXT} {P : Program} {w : World} {K : PySem.W.Frag} {mg : Str → Option Value} {base : Heap} {N ps : List Str} {qual : Str} {scope : Scope} {f : Addr} {cd : Value} {A : Around} {outer : List Env} {s s1 : Shared} {H : Hp} {E : XK} {us : List Value} {vs : List V}
  (S : Jr N ps scope) (hd : A.handled = none) (e0 : Env0 P w K mg base A outer s H) (hl : vs.length = ps.length) (r : Vals vs us)
  (x : InCallC s s.heap.objs.size (bindL (envOfC qual scope s.heap.objs.size f cd).kindOf (ps.zip us) fun _ => none) (cellsFrom (s.heap.objs.size + 1) scope.names []) (bindC (envOfC qual scope s.heap.objs.size f cd).kindOf (ps.zip us) fun _ => none) s1) :
  Inv (cxOf CX P w K mg base N qual scope f cd A outer s H E) [] (start N vs) H s1 := by
 have hpl : ps.length ≤ N.length := by have := congrArg List.length S.pre; rw [List.length_take] at this; omega
 obtain ⟨h1,tk,rfl,hk⟩ := x.done
 have noA : ∀ b : Addr,b ∉ (cxOf CX P w K mg base N qual scope f cd A outer s H E).ex := fun b z => absurd (show b ∈ ([] : List Addr) from z) (by simp)
 refine ⟨⟨e0.mod,S.kind,rfl,rfl,Nat.le_refl _,fun y z c h1 h2 => ?_,fun y hy => ?_,fun y c _ h => ?_,fun _ => hd,Around.frames_deeper e0.frames,.inr ⟨rfl,rfl⟩,fun b z => absurd z (noA b),e0.bs,e0.bsz,fun b _ _ => noA b,fun b z => absurd z (noA b),e0.funs,e0.frf⟩,
  rfl,e0.bare,Un.kept hk,⟨_,x.toInCall.ns,fun i y v h1 h2 h3 => ?_⟩,fun y c h => ⟨_,x.cell y c h⟩,e0.hok.fresh (Nat.le_refl _),fun y c h => ?_,fun p hp => absurd (show p ∈ ([] : List (Addr × Obj)) from hp) (by simp),e0.hok.kept hk,?_⟩
 ·exact name_of_addr x.apart (PySem.mem_of_lookup h1) (PySem.mem_of_lookup h2)
 ·have hy : scope.names.lookup y = some .cell ∨ scope.names.lookup y = some .free := hy
  rcases hy with hy | hy
  ·exact J9U hy
  ·exact absurd rfl (S.nofree _ (PySem.mem_of_lookup hy))
 ·exact Nat.le_of_lt (x.above y c (PySem.mem_of_lookup h))
 ·have hi : i < vs.length := by
   unfold start at h2
   by_cases hi : i < vs.length
   ·exact hi
   ·rw [List.getElem?_append_right (by simpa using hi)] at h2
    rw [List.getElem?_replicate] at h2
    split at h2 <;> cases h2
  have ha : vs[i]? = some v := by
   unfold start at h2
   rw [List.getElem?_append_left (by simpa using hi),List.getElem?_map] at h2
   cases e : vs[i]? with
   | none => rw [e] at h2; cases h2
   | some a => rw [e] at h2; cases h2; rfl
  obtain ⟨u,hu,rv⟩ := r.get ha
  have hp : ps[i]? = some y := by
   rw [← S.pre,List.getElem?_take_of_lt (by omega)]; exact h1
  have ndP : ps.Nodup := by rw [← S.pre]; exact S.nd.sublist (List.take_sublist _ _)
  refine ⟨u,rv,?_⟩
  rcases S.par y (List.mem_of_getElem? hp) with k | k
  ·exact .inl ⟨k,J81 ndP hp hu k⟩
  ·obtain ⟨c,e⟩ := J9U (n := s.heap.objs.size + 1) k
   refine .inr ⟨.inl k,c,e,?_⟩
   have q := x.cell y c e
   rw [J8d ndP hp hu (by show scope.names.lookup y ≠ _; rw [k]; decide)] at q
   exact q
 ·exact e0.hok.fresh (Nat.le_of_lt (x.above y c (PySem.mem_of_lookup h)))
 ·unfold start
  show _ = N.length
  rw [List.length_append,List.length_map,List.length_replicate]
  omega
theorem JfN {CX : CXT} {P : Program} {w : World} {K : PySem.W.Frag} {mg : Str → Option Value} {base : Heap} {k : Nat} {f : Addr} {name qual : Str} {params : Arguments} {body : List Stmt} {scope : Scope} {dV kV doc pm cdv ct oc : Value} {an od : Option Addr}
  {osl : Array (Option Value)} {N ps : List Str} {sp : Sp} (lk : K.lookup f = some ⟨oc,od,.func (PySem.W.fnOf name qual params body scope dV kV doc pm an cdv ct),osl⟩) (hcd : PySem.W.codeIn K cdv qual = true) (S : Jr N ps scope)
  (len : ∀ vs H Q E,sp vs H Q E → vs.length = ps.length)
  (hbody : ∀ (A : Around) (outer : List Env) (s : Shared) (H : Hp) (vs : List V) (Q : VK) (E : XK),Room k (A.deeper (envOfC qual scope s.heap.objs.size f cdv)) → sp vs H Q E →
   ∃ t,PSs (cxOf CX P w K mg base N qual scope f cdv A outer s H E) body t ∧ t { nx := fun _ H' => Q .non H',rt := Q } (start N vs) H) :
  FnOk P w K mg base CX (k + 1) f (PySem.W.fnOf name qual params body scope dV kV doc pm an cdv ct) ps sp := by
 refine ⟨len,fun A outer s H args us vs Q E hr e0 hb r hsp => ?_⟩
 have hl := len _ _ _ _ hsp
 have KX : K.In s.heap := e0.mod.kin.keeps fun b o e => (e0.bs b o e).1
 have lim : s.heap.NoLimit := e0.mod.nolimit.keeps fun b o e => (e0.bs b o e).1
 have hkind : ∀ y ∈ ps.zip us,scope.names.lookup y.1 = some .local ∨ (scope.names.lookup y.1 = some .cell ∧ ((cellsFrom (s.heap.objs.size + 1) scope.names []).lookup y.1).isSome = true) := fun ⟨n,v⟩ hy => by
  rcases S.par n (List.of_mem_zip hy).1 with q | q
  ·exact .inl q
  ·exact .inr ⟨q,PySem.W.cellsFrom_some _ _ _ (.inl q)⟩
 refine codeAny_call_function hr.depth (KX _ _ lk) rfl S.co S.gen rfl (PySem.W.codeRec_of KX hcd) (hb _ _ _ _ ?_)
 refine wpAny_newFunctionEnv_cells S.kind hkind fun env he s1 x => ?_
 subst he
 refine ⟨lim.keeps x.toInCall.keep,codeAny_func ?_⟩
 obtain ⟨t,ht,hq⟩ := hbody A outer s H vs Q E (hr.deeper _) hsp
 have I : Inv (cxOf CX P w K mg base N qual scope f cdv A outer s H E) [] (start N vs) H s1 := Jca S hr.hd e0 hl r x
 refine wpAny_mono (ht [] s1 (start N vs) H _ I hq) (fun fl s' hs => ?_) fun e s' hs => hs
 have fin : ∀ {σ' : St} {H' : Hp} {v : V} {u : Value},Inv (cxOf CX P w K mg base N qual scope f cdv A outer s H E) [] σ' H' s' → RelV v u → Q v H' → CE outer P w H s Q u s' :=
  fun {σ' H' v u} J rv q => ⟨v,H',J.os,J.bare,J.base,J.hok,rv,q⟩
 cases fl with
 | ret u =>
  obtain ⟨v,σ',H',J,rv,q⟩ := hs
  exact fin J rv q
 | next =>
  obtain ⟨σ',H',J,q⟩ := hs
  exact fin (v := V.non) (u := Value.none) J rfl q
 | brk =>
  obtain ⟨_,_,_,q⟩ := hs
  exact False.elim q
 | cont =>
  obtain ⟨_,_,_,q⟩ := hs
  exact False.elim q
end L2
namespace L2
open PySem PySem.Spec PyProof.Rows
section
variable {X : Cx} {x : Str} {p pos : Pos} {e : Expr} {es : List Expr} {t : TA} {id T : String} {r : List V → Hp → VK → Prop}
noncomputable def tCB (r : List V → Hp → VK → Prop) (t : TA) : TE := fun σ H Q => t σ H fun vs H1 => r vs H1 Q
theorem Ju (hc : J2m X (.builtin id) r) (hg : Gl X x) (hm : X.mg x = none) (hv : bootBuiltins x = some (.builtin id)) (ha : PA X (e :: es) t) (hn : x ≠ "__name__" := by decide) (hdb : (x == ("__debug__" : Str)) = false := by decide)
  (he : starEach (e :: es) X.env = (false,eval e X.env) :: starEach es X.env := by rfl) (hpl : (backTo pos (starEach es X.env)).any (·.1) = false := by rfl) : PE X (.Call (.Name x p) (e :: es) [] pos) (tCB r t) := by
 intro pins s σ H Q I h
 refine wpAny_Call_Name_kw (J3r I hg hm hv ?_ hn hdb)
 exact PyProof.Rows.callWith_builtin1 (thn (ha pos pins s σ H _ I h) fun us s1 ⟨vs,H1,I1,r1,q1⟩ => hc pins s1 σ H1 vs us Q I1 r1 q1) he hpl
theorem JX (hc : J2m X (.type T) r) (hg : Gl X x) (hm : X.mg x = none) (hv : bootBuiltins x = some (.type T)) (ha : PA X (e :: es) t) (hn : x ≠ "__name__" := by decide) (hdb : (x == ("__debug__" : Str)) = false := by decide)
  (he : starEach (e :: es) X.env = (false,eval e X.env) :: starEach es X.env := by rfl) (hpl : (backTo pos (starEach es X.env)).any (·.1) = false := by rfl) : PE X (.Call (.Name x p) (e :: es) [] pos) (tCB r t) := by
 intro pins s σ H Q I h
 refine wpAny_Call_Name_kw (J3r I hg hm hv ?_ hn hdb)
 exact PyProof.Rows.callWith_type1 (thn (ha pos pins s σ H _ I h) fun us s1 ⟨vs,H1,I1,r1,q1⟩ => hc pins s1 σ H1 vs us Q I1 r1 q1) he hpl
end
end L2
namespace HT
open PySem PyProof.Rows
section
open PySem.SeqAt
open PySem.AutoSeq1 (wpAny_loadPart')
open PySem.MeetsSeq PySem.MeetsSeq2 PySem.MeetsSeq3
end
section
variable {prog : Program} {w : World} {A : Around} {E : Value → Shared → Prop} {s : Shared}
noncomputable def sIx (n d : Nat) : Option Int → Nat
 | none => d
 | some v => if v < 0 then (v + (n : Int)).toNat else min v.toNat n
theorem sIx_none (n d : Nat) : sIx n d none = d := rfl
theorem sIx_le (n d : Nat) (hd : d ≤ n) (o : Option Int) : sIx n d o ≤ n := by
 cases o with
 | none => exact hd
 | some v =>
  show (if v < 0 then (v + (n : Int)).toNat else min v.toNat n) ≤ n
  by_cases hv : v < 0
  ·rw [if_pos hv]; omega
  ·rw [if_neg hv]; exact Nat.min_le_right _ _
end
end HT
namespace L2
open PySem PySem.Spec PyProof.Rows
noncomputable abbrev TO := St → Hp → (Option Int → Hp → Prop) → Prop
noncomputable def PO (X : Cx) (e : Option Expr) (t : TO) : Prop :=
 ∀ (pins : List (Addr × Obj)) (s : Shared) (σ : St) (H : Hp) (Q : Option Int → Hp → Prop),Inv X pins σ H s → t σ H Q →
  wpAny (model X.prog X.w) X.A (evalPart e X.env) (fun u s' => ∃ o H',Inv X pins σ H' s' ∧ IsPart u o ∧ Q o H') X.xe s
noncomputable def JdP : TO := fun _ H Q => Q none H
noncomputable def JfY (t : TE) : TO := fun σ H Q => t σ H fun x H1 => ∃ i,x = .int i ∧ Q (some i) H1
section
variable {X : Cx} {e : Expr} {te : TE} {lo hi : Option Expr} {tl th : TO} {pos p2 : Pos}
theorem J2u : PO X none JdP := by
 intro pins s σ H Q I h
 rw [evalPart_none]
 exact wpAny_pure ⟨none,H,I,.none,h⟩
theorem J2b (h : PE X e te) : PO X (some e) (JfY te) := by
 intro pins s σ H Q I hw
 rw [evalPart_some]
 refine thn (h pins s σ H _ I hw) fun u s1 ⟨x,H1,I1,r1,q1⟩ => ?_
 obtain ⟨i,rfl,q⟩ := q1
 obtain ⟨t,rfl⟩ := r1
 exact ⟨some i,H1,I1,.int i t,q⟩
noncomputable def SlR (X : Cx) (r : V → Option Int → Option Int → Hp → VK → Prop) : Prop :=
 ∀ (pins : List (Addr × Obj)) (s : Shared) (σ : St) (H : Hp) (x : V) (v vl vu : Value) (lo hi : Option Int) (sl : Addr) (Q : VK),Inv X pins σ H s → RelV x v → s.heap.IsSliceOf sl vl vu .none → IsPart vl lo → IsPart vu hi → r x lo hi H Q →
  ∃ T id,typeLookup (.type T) "__getitem__" = pure (some (.builtin id)) ∧ s.TypeIs v T ∧ wpAny (model X.prog X.w) X.A (getItem v (.ref sl)) (EP X pins σ Q) X.xe s
noncomputable def tSl (r : V → Option Int → Option Int → Hp → VK → Prop) (te : TE) (tl th : TO) : TE := fun σ H Q => te σ H fun x H1 => tl σ H1 fun l H2 => th σ H2 fun u H3 => r x l u H3 Q
theorem J1T {r : V → Option Int → Option Int → Hp → VK → Prop} (hr : SlR X r) (he : PE X e te) (hl : PO X lo tl) (hu : PO X hi th) : PE X (.Subscript e (.Slice lo hi none p2) pos) (tSl r te tl th) := by
 intro pins s σ H Q I h
 refine Subscript_ (thn (he pins s σ H _ I h) fun v s1 ⟨x,H1,I1,r1,q1⟩ => ?_)
 refine wpAny_Slice (thn (hl pins s1 σ H1 _ I1 q1) fun vl s2 ⟨l,H2,I2,pl,q2⟩ => thn (hu pins s2 σ H2 _ I2 q2) fun vu s3 ⟨u,H3,I3,pu,q3⟩ => ?_)
 rw [evalPart_none]
 refine wpAny_pure ?_
 have I4 : Inv X pins σ H3 { s3 with heap := s3.heap.push { cls := .type "slice",data := .fields #[vl,vu,.none] } } := I3.kept (t' := s3.toks) fun b ob q => Heap.get?_push_of_some _ q
 obtain ⟨T,id,hT,ht,hg⟩ := hr pins { s3 with heap := s3.heap.push { cls := .type "slice",data := .fields #[vl,vu,.none] } } σ H3 x v vl vu l u s3.heap.objs.size Q I4 r1 (Heap.IsSliceOf.new ..) pl pu q3
 show wpAny (model X.prog X.w) X.A (subscriptTail e (.Slice lo hi none p2) v (.ref s3.heap.objs.size)) (EP X pins σ Q) X.xe { s3 with heap := s3.heap.push { cls := .type "slice",data := .fields #[vl,vu,.none] } }
 exact tail_any (ops := [.ref s3.heap.objs.size,v]) ht hT hg (by with_unfolding_all rfl)
noncomputable def cutV (xs : List V) (lo hi : Option Int) : List V := (xs.drop (HT.sIx xs.length 0 lo)).take (HT.sIx xs.length xs.length hi - HT.sIx xs.length 0 lo)
theorem J9F (xs : List V) (lo hi : Option Int) : (cutV xs lo hi).length ≤ xs.length := by
 unfold cutV
 rw [List.length_take,List.length_drop]
 omega
end
end L2
namespace L2
open PySem PySem.Spec PyProof.Rows
noncomputable def ixN (n : Nat) (i : Int) : Option Nat := if 0 ≤ i then (if i < n then some i.toNat else none) else if -(n : Int) ≤ i then some (i + n).toNat else none
noncomputable def atI {α : Type} (xs : List α) (i : Int) : Option α := (ixN xs.length i).bind fun j => xs[j]?
theorem Jb2 {n : Nat} {i : Int} {j : Nat} (h : ixN n i = some j) : seqIndex? i n = some j ∧ j < n ∧ -(n : Int) ≤ i ∧ i < n := by
 unfold ixN at h
 by_cases h0 : 0 ≤ i
 ·rw [if_pos h0] at h
  by_cases h1 : i < n
  ·rw [if_pos h1] at h
   have e : i.toNat = j := Option.some.inj h
   exact ⟨by rw [seqIndex_of h0 h1,e],by omega,by omega,h1⟩
  ·rw [if_neg h1] at h; cases h
 ·rw [if_neg h0] at h
  by_cases h1 : -(n : Int) ≤ i
  ·rw [if_pos h1] at h
   have e : (i + n).toNat = j := Option.some.inj h
   exact ⟨by rw [seqIndex_neg (by omega) h1,e],by omega,h1,by omega⟩
  ·rw [if_neg h1] at h; cases h
theorem J8U {α : Type} {xs : List α} {i : Int} {v : α} (h : atI xs i = some v) : ∃ j,seqIndex? i xs.length = some j ∧ xs[j]? = some v ∧ j < xs.length ∧ -(xs.length : Int) ≤ i ∧ i < xs.length := by
 unfold atI at h
 cases e : ixN xs.length i with
 | none => rw [e] at h; cases h
 | some j =>
  rw [e] at h
  obtain ⟨h1,h2,h3,h4⟩ := Jb2 e
  exact ⟨j,h1,h,h2,h3,h4⟩
theorem J01 {α : Type} {xs : List α} {j : Nat} {v : α} (h : xs[j]? = some v) : atI xs (j : Int) = some v := by
 have hj : j < xs.length := (List.getElem?_eq_some_iff.mp h).1
 have e : ixN xs.length (j : Int) = some j := by
  unfold ixN
  rw [if_pos (by omega),if_pos (by omega)]; simp
 unfold atI; rw [e]; exact h
noncomputable def JdX (b : Expr) : Prop := ∀ o i,subscripted b false o i = operate [o,i] (getItem o i)
noncomputable def IxR (X : Cx) (r : R2) : Prop :=
 ∀ (value slice : Expr) (pins : List (Addr × Obj)) (s : Shared) (σ : St) (H : Hp) (x y : V) (v u : Value) (Q : VK),Inv X pins σ H s → RelV x v → RelV y u → r x y H Q →
  subscripted slice false v u = operate [v,u] (getItem v u) → wpAny (model X.prog X.w) X.A (subscriptTail value slice v u) (EP X pins σ Q) X.xe s
noncomputable def MtR (X : Cx) (id : String) (r : V → List V → Hp → VK → Prop) : Prop :=
 ∀ (pins : List (Addr × Obj)) (s : Shared) (σ : St) (H : Hp) (x : V) (xs : List V) (v : Value) (us : List Value) (Q : VK),Inv X pins σ H s → RelV x v → Vals xs us → r x xs H Q →
  wpAny (model X.prog X.w) X.A (call (.builtin id) (v :: us)) (EP X pins σ Q) X.xe s
section
variable {X : Cx} {a b : Expr} {ta tb : TE} {pos : Pos}
theorem Jo {r : R2} (hr : IxR X r) (ha : PE X a ta) (hb : PE X b tb) (hs : JdX b) : PE X (.Subscript a b pos) (tOp r ta tb) := by
 intro pins s σ H Q I h
 exact Subscript_ (binT ha hb I h fun v u s2 x y H2 I2 rx ry q => hr a b pins s2 σ H2 x y v u Q I2 rx ry q (hs _ _))
noncomputable def rIxL (K : PySem.W.Frag) : R2 := fun x y H Q => ∃ p xs i v,x = .ref p ∧ y = .int i ∧ SqL K H p xs ∧ atI xs i = some v ∧ Q v H
noncomputable def rIxT (K : PySem.W.Frag) : R2 := fun x y H Q => ∃ p xs i v,x = .ref p ∧ y = .int i ∧ SqT K H p xs ∧ atI xs i = some v ∧ Q v H
noncomputable def rIxS : R2 := fun x y H Q => ∃ z i c,x = .str z ∧ y = .int i ∧ z.length ≤ sizeLine ∧ atI z.cps.toList i = some c ∧ Q (.str ⟨#[c]⟩) H
theorem Je0 : IxR X (rIxL X.K) := by
 intro value slice pins s σ H x y v u Q I rx ry h hs
 obtain ⟨p,xs,i,z,rfl,rfl,hq,he,q⟩ := h
 cases rx
 obtain ⟨t,rfl⟩ := ry
 obtain ⟨its,r,pl,hz⟩ := I.list hq
 obtain ⟨j,h1,h2,h3,h4,h5⟩ := J8U he
 obtain ⟨w,ew,rw'⟩ := r.get h2
 have hl := r.length
 have hn := J4r
 have fin : EP X pins σ Q w s := ⟨z,H,I,rw',q⟩
 by_cases h0 : 0 ≤ i
 ·have hj : i.toNat = j := by
   rw [seqIndex_of h0 h5] at h1
   exact Option.some.inj h1
  exact item_listR pl.isList h0 (by omega) (by rw [hj]; simpa using ew) fin hs
 ·have hj : (i + (its.toArray.size : Int)).toNat = j := by
   rw [seqIndex_neg (by omega) h4] at h1
   rw [List.size_toArray,← hl]
   exact Option.some.inj h1
  exact subscriptTail_builtinR (x := w) pl.isList.typeIs slot_list_getitem.lookup
   (wpAny_getItem_list_neg (Q := fun r s' => r = w ∧ EP X pins σ Q r s') pl.isList (by omega) (by rw [List.size_toArray] <;> omega) (by omega) (by rw [hj]; simpa using ew) ⟨rfl,fin⟩) hs
theorem JeS : IxR X (rIxT X.K) := by
 intro value slice pins s σ H x y v u Q I rx ry h hs
 obtain ⟨p,xs,i,z,rfl,rfl,hq,he,q⟩ := h
 cases rx
 obtain ⟨t,rfl⟩ := ry
 obtain ⟨its,r,pl,hz⟩ := I.tuple hq
 obtain ⟨j,h1,h2,h3,h4,h5⟩ := J8U he
 obtain ⟨w,ew,rw'⟩ := r.get h2
 have hl := r.length
 have hn := J4r
 have fin : EP X pins σ Q w s := ⟨z,H,I,rw',q⟩
 exact subscriptTail_builtinR (x := w) pl.typeIs slot_tuple_getitem.lookup
  (getItem_tuple (j := j) (Q := fun r s' => r = w ∧ EP X pins σ Q r s') pl (by omega) (by omega) (by rw [List.size_toArray,← hl]; exact h1) (by simpa using ew) ⟨rfl,fin⟩) hs
theorem JeX : IxR X rIxS := by
 intro value slice pins s σ H x y v u Q I rx ry h hs
 obtain ⟨z,i,c,rfl,rfl,hz,he,q⟩ := h
 obtain ⟨t,rfl⟩ := rx
 obtain ⟨t',rfl⟩ := ry
 obtain ⟨j,h1,h2,h3,h4,h5⟩ := J8U he
 have hl : z.cps.toList.length = z.length := by simp [Str.length]
 rw [hl] at h1 h4 h5
 have hn := J4r
 exact tail_any (typeIs_str s z t) slot_str_getitem.lookup (getItem_str (c := c) (by
  have e1 : decide (i < -(2 ^ 63 : Int)) = false := decide_eq_false (by omega)
  have e2 : decide (i ≥ 2 ^ 63) = false := decide_eq_false (by omega)
  rw [e1,e2,Bool.or_false]) (by rw [h1]; simpa using h2) ⟨.str ⟨#[c]⟩,H,I.tok _,⟨_,rfl⟩,q⟩) hs
theorem Jal (its : List Value) (n j : Nat) (u : Value) : Obj.mapSeq (·.setIfInBounds j u) { cls := .type "list",data := .seq its.toArray n } = { cls := .type "list",data := .seq (its.set j u).toArray n } := by
 simp [Obj.mapSeq]
theorem Inv.lst {pins : List (Addr × Obj)} {σ : St} {H : Hp} {s : Shared} {p : Addr} {xs : List V} (I : Inv X pins σ H s) (h : H p = some (.lst xs)) :
  ∃ (its : List Value) (n : Nat),Vals xs its ∧ s.heap.get? p = some { cls := .type "list",data := .seq its.toArray n } ∧ xs.length ≤ sizeLine := by
 obtain ⟨z,its,n,r,e⟩ := I.hok p _ h
 exact ⟨its,n,r,e,z⟩
theorem Inv.lstUpd {pins : List (Addr × Obj)} {σ : St} {H : Hp} {s : Shared} {p : Addr} {xs ys : List V} {its its' : List Value} {n n' : Nat} {f : Obj → Obj} (I : Inv X pins σ H s) (h : H p = some (.lst xs))
  (ho : s.heap.get? p = some { cls := .type "list",data := .seq its.toArray n }) (hf : f { cls := .type "list",data := .seq its.toArray n } = { cls := .type "list",data := .seq its'.toArray n' }) (r : Vals ys its') (hz : ys.length ≤ sizeLine) (t : Nat) :
  Inv X pins σ (upd H p (.lst ys)) { s with heap := s.heap.update p f,toks := t } := by
 have e : (s.heap.update p f).get? p = some { cls := .type "list",data := .seq its'.toArray n' } := by
  rw [Heap.get?_update_self f ho (by rw [hf] <;> rfl),hf]
 refine I.write (x := p) (e := p) (by rw [h]; trivial) (.inl rfl) (fun b u hb q => (Heap.get?_update_other _ _ (Ne.symm hb)).trans q) ⟨_,e⟩ ?_
 exact ⟨hz,its',n',r,e⟩
noncomputable def Jg4 : V → V → V → Hp → (Hp → Prop) → Prop := fun o i v H Q => ∃ p xs k j,o = .ref p ∧ i = .int k ∧ H p = some (.lst xs) ∧ ixN xs.length k = some j ∧ Q (upd H p (.lst (xs.set j v)))
theorem JcB : PSet X Jg4 := by
 intro pins s σ H o i v ov iv u Q I ro ri rv h
 obtain ⟨p,xs,k,j,rfl,rfl,hp,hj,q⟩ := h
 cases ro
 obtain ⟨t,rfl⟩ := ri
 obtain ⟨its,n,r,ho,hz⟩ := I.lst hp
 obtain ⟨h1,h2,h3,h4⟩ := Jb2 hj
 have hl := r.length
 have hn := J4r
 have I' : Inv X pins σ (upd H p (.lst (xs.set j v))) { s with heap := s.heap.update p (Obj.mapSeq (·.setIfInBounds j u)) } :=
  I.lstUpd hp ho (Jal its n j u) (r.set rv j) (by rw [List.length_set]; exact hz) s.toks
 by_cases h0 : 0 ≤ k
 ·have hk : k.toNat = j := by
   rw [seqIndex_of h0 h4] at h1
   exact Option.some.inj h1
  exact PySem.W.ki_setAt ho h0 (by omega) (by rw [List.size_toArray,← hl]; exact h4) (by rw [hk]; exact ⟨_,I',q⟩)
 ·have hk : (k + (its.toArray.size : Int)).toNat = j := by
   rw [seqIndex_neg (by omega) h3] at h1
   rw [List.size_toArray,← hl]
   exact Option.some.inj h1
  exact PySem.W.ki_setBack ho (by omega) (by rw [List.size_toArray,← hl]; exact h3) (by omega) (by rw [hk]; exact ⟨_,I',q⟩)
theorem J8Y (lo hi : Option Int) (n : Nat) : (sliceBounds lo hi none n).1 = ((HT.sIx n 0 lo : Nat) : Int) ∧ (sliceBounds lo hi none n).2.1 = ((HT.sIx n n hi : Nat) : Int) ∧ (sliceBounds lo hi none n).2.2 = 1 := by
 refine ⟨?_,?_,rfl⟩
 ·cases lo with
  | none => simp [sliceBounds,HT.sIx]
  | some i =>
   simp only [sliceBounds,HT.sIx,Option.getD_none,show (1 : Int) > 0 by decide,if_true]
   by_cases h : i < 0
   ·simp only [h,if_true] <;> omega
   ·simp only [h,if_false] <;> omega
 ·cases hi with
  | none => simp [sliceBounds,HT.sIx]
  | some i =>
   simp only [sliceBounds,HT.sIx,Option.getD_none,show (1 : Int) > 0 by decide,if_true]
   by_cases h : i < 0
   ·simp only [h,if_true] <;> omega
   ·simp only [h,if_false] <;> omega
theorem J7N (its : List Value) (lo hi : Option Int) : slicePick its.toArray lo hi none = ((its.drop (HT.sIx its.length 0 lo)).take (HT.sIx its.length its.length hi - HT.sIx its.length 0 lo)).toArray := by
 obtain ⟨h1,h2,h3⟩ := J8Y lo hi its.toArray.size
 unfold slicePick
 rw [h1,h2,h3]
 simp only [sliceRange_one,pick_run,List.size_toArray] <;> rfl
noncomputable def rSlL (K : PySem.W.Frag) : V → Option Int → Option Int → Hp → VK → Prop := fun x lo hi H Q => ∃ a xs,x = .ref a ∧ SqL K H a xs ∧ ∀ p,H p = none → Q (.ref p) (upd H p (.lst (cutV xs lo hi)))
theorem JdJ : SlR X (rSlL X.K) := by
 intro pins s σ H x v vl vu lo hi sl Q I rx hs pl pu h
 obtain ⟨a,xs,rfl,hx,q⟩ := h
 cases rx
 obtain ⟨its,r,ht,hz⟩ := I.list hx
 have hlen := r.length
 refine ⟨"list",_,slot_list_getitem.lookup,ht.isList.typeIs,?_⟩
 refine wpAny_getItem_list_slice ht.isList hs pl pu .none (by simp) ?_ (by rw [List.size_toArray] <;> omega)
 rw [J7N,← hlen]
 refine ⟨.ref s.heap.objs.size,_,I.laid (t' := s.toks) (o := .lst (cutV xs lo hi)) (fun b ob q => Heap.get?_push_of_some _ q) (Nat.le_refl _) ?_,rfl,q _ (I.hok.fresh (Nat.le_refl _))⟩
 exact ⟨Nat.le_trans (J9F xs lo hi) hz,_,0,(r.drop (HT.sIx xs.length 0 lo)).take (HT.sIx xs.length xs.length hi - HT.sIx xs.length 0 lo),Heap.get?_push_size _ rfl⟩
noncomputable def J15 : V → Bool
 | .non => true
 | .bl _ => true
 | .int _ => true
 | .str _ => true
 | _ => false
noncomputable def eqV : V → V → Bool
 | .non,.non => true
 | .bl a,.bl b => a == b
 | .bl a,.int b => (if a then 1 else 0) == b
 | .int a,.bl b => a == (if b then 1 else 0)
 | .int a,.int b => a == b
 | .str a,.str b => a == b
 | _,_ => false
theorem Jcy {A : Around} {s : Shared} {y x : V} {u v : Value} (ry : RelV y u) (rx : RelV x v) (fy : J15 y = true) (fx : J15 x = true) : SeqAt.EqAt A s u v (eqV y x) := by
 cases y with
 | non =>
  cases ry
  cases x with
  | non => cases rx; exact SeqAt.EqAt.same _
  | bl b => cases rx; exact SeqAt.EqAt.none_bool b
  | int b => obtain ⟨t,rfl⟩ := rx; exact SeqAt.EqAt.none_int b t
  | str b => obtain ⟨t,rfl⟩ := rx; exact SeqAt.EqAt.none_str b t
  | _ => exact absurd (show false = true from fx) Bool.false_ne_true
 | bl a =>
  cases ry
  cases x with
  | non => cases rx; exact SeqAt.EqAt.bool_none a
  | bl b => cases rx; exact SeqAt.EqAt.bool_bool a b
  | int b => obtain ⟨t,rfl⟩ := rx; exact SeqAt.EqAt.bool_int a b t
  | str b => obtain ⟨t,rfl⟩ := rx; exact SeqAt.EqAt.bool_str a b t
  | _ => exact absurd (show false = true from fx) Bool.false_ne_true
 | int a =>
  obtain ⟨t',rfl⟩ := ry
  cases x with
  | non => cases rx; exact SeqAt.EqAt.int_none a t'
  | bl b => cases rx; exact SeqAt.EqAt.int_bool a t' b
  | int b => obtain ⟨t,rfl⟩ := rx; exact SeqAt.EqAt.int_int a t' b t
  | str b => obtain ⟨t,rfl⟩ := rx; exact SeqAt.EqAt.int_str a t' b t
  | _ => exact absurd (show false = true from fx) Bool.false_ne_true
 | str a =>
  obtain ⟨t',rfl⟩ := ry
  cases x with
  | non => cases rx; exact SeqAt.EqAt.str_none a t'
  | bl b => cases rx; exact SeqAt.EqAt.str_bool a t' b
  | int b => obtain ⟨t,rfl⟩ := rx; exact SeqAt.EqAt.str_int a t' b t
  | str b => obtain ⟨t,rfl⟩ := rx; exact SeqAt.EqAt.str_str a t' b t
  | _ => exact absurd (show false = true from fx) Bool.false_ne_true
 | _ => exact absurd (show false = true from fy) Bool.false_ne_true
noncomputable def eqU (x : V) (u : Value) : Bool := match u with
 | .none => eqV .non x
 | .bool b => eqV (.bl b) x
 | .int i _ => eqV (.int i) x
 | .str z _ => eqV (.str z) x
 | _ => false
theorem JcX {x y : V} {u : Value} (r : RelV y u) (f : J15 y = true) : eqU x u = eqV y x := by
 cases y with
 | non => cases r; rfl
 | bl b => cases r; rfl
 | int i => obtain ⟨t,rfl⟩ := r; rfl
 | str z => obtain ⟨t,rfl⟩ := r; rfl
 | _ => exact absurd (show false = true from f) Bool.false_ne_true
theorem J8J {x : V} : ∀ {xs : List V} {us : List Value},Vals xs us → xs.all J15 = true → us.any (eqU x) = xs.any fun y => eqV y x
 | _,_,.nil,_ => rfl
 | y :: xs,u :: us,.cons r t,f => by
  rw [List.all_cons,Bool.and_eq_true] at f
  rw [List.any_cons,List.any_cons,JcX r f.1,J8J t f.2]
theorem J73 {A : Around} {s : Shared} {x : V} {v : Value} (rx : RelV x v) (fx : J15 x = true) : ∀ {xs : List V} {us : List Value},Vals xs us → xs.all J15 = true → ∀ u ∈ us,SeqAt.EqAt A s u v (eqU x u)
 | _,_,.nil,_ => fun u hu => by cases hu
 | y :: xs,u :: us,.cons r t,f => fun u' hu => by
  rw [List.all_cons,Bool.and_eq_true] at f
  rcases List.mem_cons.mp hu with rfl | hu
  ·rw [JcX r f.1]; exact Jcy r rx f.1 fx
  ·exact J73 rx fx t f.2 u' hu
noncomputable def inV (x : V) (xs : List V) : Bool := xs.any fun y => eqV y x
noncomputable def rIn (K : PySem.W.Frag) (neg : Bool) : R2 := fun x y H Q => ∃ p xs,y = .ref p ∧ (SqL K H p xs ∨ SqT K H p xs) ∧ J15 x = true ∧ xs.all J15 = true ∧ Q (.bl (if neg then !inV x xs else inV x xs)) H
theorem JbZ : OpR X (compareOp .In) (rIn X.K false) := by
 intro pins s σ H x y v u Q I rx ry h
 obtain ⟨p,xs,rfl,hq,fx,fs,q⟩ := h
 cases ry
 rcases hq with hq | hq
 ·obtain ⟨its,r,pl,hz⟩ := I.list hq
  refine SeqAt.in_listAt (eqU x) pl.isList (fun w hw => J73 rx fx r fs w (by simpa using hw)) ⟨.bl _,H,I,rfl,?_⟩
  rw [show its.toArray.any (eqU x) = its.any (eqU x) by simp,J8J r fs]
  exact q
 ·obtain ⟨its,r,pl,hz⟩ := I.tuple hq
  refine SeqAt.in_tupleAt (eqU x) pl (fun w hw => J73 rx fx r fs w (by simpa using hw)) ⟨.bl _,H,I,rfl,?_⟩
  rw [show its.toArray.any (eqU x) = its.any (eqU x) by simp,J8J r fs]
  exact q
theorem J8H : J2m X (.builtin "len") (fun xs H Q => ∃ p ys,xs = [.ref p] ∧ (SqL X.K H p ys ∨ SqT X.K H p ys) ∧ Q (.int ys.length) H) := by
 intro pins s σ H xs us Q I r h
 obtain ⟨p,ys,rfl,hq,q⟩ := h
 obtain ⟨u,rfl,rx⟩ := J9D r
 cases rx
 have hn := J4r
 rcases hq with hq | hq
 ·obtain ⟨its,r',pl,hz⟩ := I.list hq
  have hlen := r'.length
  exact Calls.call_len_list pl.isList (by simp only [List.size_toArray] <;> omega) ⟨.int ys.length,H,I.tok _,⟨s.toks + 1,by rw [List.size_toArray,hlen]⟩,q⟩
 ·obtain ⟨its,r',pl,hz⟩ := I.tuple hq
  have hlen := r'.length
  exact len_tuple pl (by simp only [List.size_toArray] <;> omega) ⟨.int ys.length,H,I.tok _,⟨s.toks + 1,by rw [List.size_toArray,hlen]⟩,q⟩
theorem J8V : J2m X (.builtin "len") (fun xs H Q => ∃ z,xs = [.str z] ∧ z.length ≤ sizeLine ∧ Q (.int z.length) H) := by
 intro pins s σ H xs us Q I r h
 obtain ⟨z,rfl,hz,q⟩ := h
 obtain ⟨u,rfl,t,rfl⟩ := J9D r
 have hn := J4r
 exact len_str (by omega) ⟨.int z.length,H,I.tok _,⟨_,rfl⟩,q⟩
theorem JI : J2m X (.type "list") (fun xs H Q => ∃ p ys,xs = [.ref p] ∧ (SqL X.K H p ys ∨ SqT X.K H p ys) ∧ ∀ l,H l = none → Q (.ref l) (upd H l (.lst ys))) := by
 intro pins s σ H xs us Q I r h
 obtain ⟨p,ys,rfl,hq,q⟩ := h
 obtain ⟨u,rfl,rx⟩ := J9D r
 cases rx
 have fin : ∀ (its : List Value),Vals ys its → ys.length ≤ sizeLine → ∀ (h' : Heap) (c' : Nat),(∀ b o',s.heap.get? b = some o' → h'.get? b = some o') →
   h'.get? s.heap.objs.size = some { cls := .type "list",dict := none,data := .seq its.toArray c',slots := #[] } → EP X pins σ Q (.ref s.heap.objs.size) { s with heap := h' } := fun its r' hz h' c' kp e =>
  ⟨.ref s.heap.objs.size,_,I.laid (t' := s.toks) kp (Nat.le_refl _) (show J18 X.prog X.w _ h' _ (.lst ys) from ⟨hz,its,c',r',e⟩),rfl,q _ (I.hok.fresh (Nat.le_refl _))⟩
 rcases hq with hq | hq
 ·obtain ⟨its,r',pl,hz⟩ := I.list hq
  have hlen := r'.length
  obtain ⟨o,ho,hc,n,hd⟩ := pl.isList
  exact call_list_seq p (.inl rfl) ho hc hd (fun h' c' kp e => fin its r' hz h' c' kp e) (by simp only [List.size_toArray] <;> omega)
 ·obtain ⟨its,r',pl,hz⟩ := I.tuple hq
  have hlen := r'.length
  obtain ⟨o,ho,hc,n,hd⟩ := pl
  exact call_list_seq p (.inr rfl) ho hc hd (fun h' c' kp e => fin its r' hz h' c' kp e) (by simp only [List.size_toArray] <;> omega)
noncomputable def tyV (K : PySem.W.Frag) (T : String) (x : V) (H : Hp) : Prop := match x with
 | .str _ => T = "str"
 | .int _ => T = "int"
 | .ref p => (T = "list" ∧ ∃ xs,SqL K H p xs) ∨ (T = "tuple" ∧ ∃ o,K.lookup p = some o ∧ o.cls = .type "tuple" ∧ o.dict = none) ∨
   (T = "dict" ∧ ((∃ kvs,H p = some (.dK kvs)) ∨ ∃ kvs,H p = some (.dT kvs))) ∨ (T = "set" ∧ ∃ S n,H p = some (.set S n))
 | _ => False
theorem JeG {pins : List (Addr × Obj)} {σ : St} {H : Hp} {s : Shared} {T : String} {x : V} {v : Value} (I : Inv X pins σ H s) (r : RelV x v) (ty : tyV X.K T x H) :
  s.TypeIs v T ∧ ∀ a,v = .ref a → ∃ ob,s.heap.get? a = some ob ∧ ob.dict = none := by
 cases x with
 | str z =>
  obtain ⟨t,rfl⟩ := r
  cases (show T = "str" from ty)
  exact ⟨typeIs_str s z t,fun _ e => nomatch e⟩
 | int i =>
  obtain ⟨t,rfl⟩ := r
  cases (show T = "int" from ty)
  exact ⟨typeIs_int s i t,fun _ e => nomatch e⟩
 | ref p =>
  cases r
  rcases ty with ⟨rfl,xs,hq⟩ | ⟨rfl,o,hk,hc,hd⟩ | ⟨rfl,hk⟩ | ⟨rfl,S,n,hk⟩
  ·obtain ⟨its,_,pl,_⟩ := I.list hq
   refine ⟨pl.isList.typeIs,fun a e => ?_⟩
   cases e
   obtain ⟨o,n,e,c,hd,_⟩ := pl
   exact ⟨o,e,hd⟩
  ·refine ⟨⟨o,I.kIn p o hk,hc⟩,fun a e => ?_⟩
   cases e
   exact ⟨o,I.kIn _ o hk,hd⟩
  ·have z : ∃ o,s.heap.get? p = some o ∧ o.ExactDict := by
    rcases hk with ⟨kvs,hk⟩ | ⟨kvs,hk⟩
    ·obtain ⟨_,_,_,_,o,_,_,e,ex,_⟩ := I.hok p _ hk
     exact ⟨o,e,ex⟩
    ·obtain ⟨_,_,_,_,o,_,_,e,ex,_⟩ := I.hok p _ hk
     exact ⟨o,e,ex⟩
   obtain ⟨o,e,ex⟩ := z
   refine ⟨⟨o,e,ex.1⟩,fun a e2 => ?_⟩
   cases e2
   exact ⟨o,e,ex.2.1⟩
  ·obtain ⟨o,_,_,_,e,ex,_⟩ := I.hok p _ hk
   refine ⟨⟨o,e,ex.1⟩,fun a e2 => ?_⟩
   cases e2
   exact ⟨o,e,ex.2.1⟩
 | _ => exact False.elim ty
noncomputable def tBM (K : PySem.W.Frag) (T : String) (r : V → List V → Hp → VK → Prop) (to : TE) (t : TA) : TE := fun σ H Q => to σ H fun x H1 => tyV K T x H1 ∧ t σ H1 fun xs H2 => r x xs H2 Q
variable {o e : Expr} {es : List Expr} {to : TE} {t : TA} {name : Str} {apos cpos : Pos} {T id : String} {r : V → List V → Hp → VK → Prop}
theorem J4N (pa : PlainAttrs T) (slot : Slot T name id) (hty : typeOf (.builtin id) = pure (.type "method_descriptor")) (hm : MtR X id r) (ho : PE X o to) (ha : PA X (e :: es) t)
  (hbase : attributeBase o name X.env (eval o X.env) = eval o X.env := by rfl)
  (hfew : ((backTo cpos (starEach (e :: es) X.env)).all (fun x => !x.1) && (backToKw cpos (keywordEach [] X.env)).all (fun x => x.1.isSome)
   && decide ((e :: es).length + ([] : List Keyword).length + (if ([] : List Keyword).isEmpty then 0 else 1) < 30)) = true := by rfl)
  (hline : (apos.endLine == cpos.line) = true := by rfl) (hs : starEach (e :: es) X.env = (false,eval e X.env) :: starEach es X.env := by rfl) (hplain : (backTo cpos (starEach es X.env)).any (·.1) = false := by rfl) :
  PE X (.Call (.Attribute o name apos) (e :: es) [] cpos) (tBM X.K T r to t) := by
 intro pins s σ H Q I h
 refine wpAny_Call_method_late hbase hfew hline rfl (thn (ho pins s σ H _ I h) fun v s1 ⟨x,H1,I1,r1,ty,q1⟩ => ?_)
 obtain ⟨h1,h2⟩ := JeG I1 r1 ty
 refine ⟨T,id,pa,slot,hty,h1,h2,?_⟩
 have hA := ha cpos pins s1 σ H1 _ I1 q1
 rw [hs] at hA ⊢
 refine Calls.callWith_builtin (by show (false || (backTo cpos (starEach es X.env)).any (·.1)) = false; rw [hplain] <;> rfl) (Calls.evalArgs_plain ?_)
 exact thn hA fun us s2 ⟨vs,H2,I2,r2,q2⟩ => hm pins s2 σ H2 x vs v us Q I2 r1 r2 q2
end
end L2
namespace L2
open PySem PySem.Spec PyProof.Rows
noncomputable def MtM (X : Cx) (id : String) (r : V → List V → Hp → VK → Prop) : Prop :=
 ∀ (pins : List (Addr × Obj)) (s : Shared) (σ : St) (H : Hp) (x : V) (xs : List V) (v : Value) (us : List Value) (Q : VK),Inv X pins σ H s → RelV x v → Vals xs us → r x xs H Q →
  wpAny (model X.prog X.w) X.A (call (.builtin id) (v :: us)) (EP X pins σ Q) X.xe s
theorem Vals.one : ∀ {x : V} {us : List Value},Vals [x] us → ∃ u,us = [u] ∧ RelV x u
 | _,_,.cons r .nil => ⟨_,rfl,r⟩
theorem Vals.two : ∀ {x y : V} {us : List Value},Vals [x,y] us → ∃ u v,us = [u,v] ∧ RelV x u ∧ RelV y v
 | _,_,_,.cons r (.cons q .nil) => ⟨_,_,rfl,r,q⟩
section
variable {X : Cx} {pins : List (Addr × Obj)} {σ : St} {H : Hp} {s : Shared} {l b : Addr} {xs ys zs : List V}
theorem Inv.lset {its its' : List Value} {n : Nat} {f : Array Value → Array Value} {t' : Nat} (I : Inv X pins σ H s) (hH : H l = some (.lst xs))
  (e : s.heap.get? l = some { cls := .type "list",data := .seq its.toArray n }) (hf : f its.toArray = its'.toArray) (hv : Vals ys its') (hz : ys.length ≤ sizeLine) :
  Inv X pins σ (upd H l (.lst ys)) { s with heap := s.heap.update l (Obj.mapSeq f),toks := t' } := by
 have q := PySem.IsL.update e f
 rw [hf] at q
 refine I.write (x := l) (e := l) (by rw [hH]; exact trivial) (.inl rfl) (fun b' u hb hu => (Heap.get?_update_other s.heap (Obj.mapSeq f) (Ne.symm hb)).trans hu) ⟨_,q⟩ ?_
 exact ⟨hz,its',_,hv,q⟩
theorem Inv.lnew {its : List Value} {t' : Nat} (I : Inv X pins σ H s) (hv : Vals ys its) (hz : ys.length ≤ sizeLine) :
  Inv X pins σ (upd H s.heap.objs.size (.lst ys)) { s with heap := s.heap.push { cls := .type "list",data := .seq its.toArray },toks := t' } :=
 I.laid (fun _ _ q => Heap.get?_push_of_some _ q) (Nat.le_refl _) ⟨hz,its,0,hv,Heap.get?_push_size _ rfl⟩
theorem Inv.fresh (I : Inv X pins σ H s) : H s.heap.objs.size = none := I.hok.fresh (Nat.le_refl _)
theorem Inv.lstM (I : Inv X pins σ H s) (hH : H l = some (.lst xs)) : xs.length ≤ sizeLine ∧ ∃ (its : List Value) (n : Nat),Vals xs its ∧ xs.length = its.length ∧ s.heap.get? l = some { cls := .type "list",data := .seq its.toArray n } := by
 obtain ⟨z,its,n,r,e⟩ := I.hok l _ hH
 exact ⟨z,its,n,r,r.length,e⟩
theorem Jd7 {n : Nat} (h : n ≤ sizeLine) : Builtin.List.listTooLong n = false := by
 unfold Builtin.List.listTooLong
 exact decide_eq_false (by omega)
end
section
variable {X : Cx}
noncomputable def JdK : V → List V → Hp → VK → Prop := fun x vs H Q => ∃ l xs y,x = .ref l ∧ vs = [y] ∧ H l = some (.lst xs) ∧ xs.length < sizeLine ∧ Q .non (upd H l (.lst (xs ++ [y])))
theorem J1w : MtM X "list.append" JdK := by
 intro pins s σ H x vs v us Q I rx rv h
 obtain ⟨l,xs,y,rfl,rfl,hH,hz,q⟩ := h
 cases rx
 obtain ⟨u,rfl,ru⟩ := rv.one
 obtain ⟨z,its,n,r,hl,e⟩ := I.lstM hH
 refine call_meets F.slot_list_append ⟨_,e,rfl⟩ F.entry_list_append (F.args_list_append_2 _ _) (PySem.list_append l its.toArray n u (by rw [List.size_toArray]; omega)) ⟨e,?_⟩
 refine ⟨.non,_,I.lset (its' := its ++ [u]) hH e (by simp) (r.append (.cons ru .nil)) ?_,rfl,q⟩
 rw [List.length_append,List.length_singleton]
 omega
noncomputable def rCat : R2 := fun x y H Q => ∃ l b xs zs,x = .ref l ∧ y = .ref b ∧ H l = some (.lst xs) ∧ H b = some (.lst zs) ∧ xs.length + zs.length ≤ sizeLine ∧ ∀ p,H p = none → Q (.ref p) (upd H p (.lst (xs ++ zs)))
theorem Jfp : OpR X (binaryOp .Add) rCat := by
 intro pins s σ H x y v u Q I rx ry h
 obtain ⟨l,b,xs,zs,rfl,rfl,hH,hB,hz,q⟩ := h
 cases rx
 cases ry
 obtain ⟨z,its,n,r,hl,e⟩ := I.lstM hH
 obtain ⟨z2,its2,n2,r2,hl2,e2⟩ := I.lstM hB
 refine PySem.P.add_list e e2 ?_ (by rw [List.size_toArray,List.size_toArray]; omega)
 have ea : its.toArray ++ its2.toArray = (its ++ its2).toArray := by simp
 rw [ea]
 exact ⟨.ref _,_,I.lnew (t' := s.toks) (r.append r2) (by rw [List.length_append]; omega),rfl,q _ I.fresh⟩
end
section
variable {prog : Program} {w : World} {A : Around} {E : Value → Shared → Prop} {s : Shared}
end
section
variable {X : Cx}
end
end L2
namespace Att
open PySem PySem.W PySem.Calls PyProof.Rows
theorem J64 {P : Params} {h : Heap} : ∀ (ns : List Int) (vs : List Value),WellAll P h vs (ns.map WData.int) → IntsAre vs ns := by
 intro ns
 induction ns with
 | nil =>
  intro vs w
  rw [List.map_nil] at w
  cases w
  exact .nil
 | cons n ns ih =>
  intro vs w
  rw [List.map_cons] at w
  cases w with
  | cons a b =>
   cases a
   exact .cons _ _ (ih _ b)
theorem JbV {l : OpenLaw} {n : Nat} (hn : l.most = some n) {P : Params} {h : Heap} {args : List WData} {vals : List Value}
  (hpre : l.row.toRowW.claim.pre args = true) (hwl : WellAll P h vals args) :
  ∃ a vs ns,vals = [Value.ref a] ∧ args = [WData.list (ns.map WData.int)] ∧ h.get? a = some { cls := .type "list",data := .seq vs.toArray } ∧ IntsAre vs ns ∧ ns.length ≤ n := by
 have hsh : WShape.hasAll [] args [.list .int] = true := (pre_splitW hpre).1
 have hc : l.pre.holds [] { args := args } = true := (pre_splitW hpre).2
 obtain ⟨d,r,rfl,h1,h2⟩ := hasAllW_cons hsh
 obtain rfl := hasAllW_nil h2
 obtain ⟨xs,rfl,h3⟩ := hasW_list h1
 obtain ⟨ns,rfl⟩ := items_int h3
 have hlen : ns.length ≤ n := by
  unfold OpenLaw.pre at hc
  have h4 : (WTm.not (.lt (.lit (.int (n : Int))) (.len (.arg 0)))).holds [] { args := [.list (ns.map .int)] } = true := by
   have h4 := (holds_andW hc).1
   rw [hn] at h4
   exact h4
  have h5 := condW_of h4 (w_not (w_lt w_lit (w_len_list (w_arg rfl))))
  rw [List.length_map] at h5
  refine Nat.le_of_not_lt fun q => ?_
  have q' : (n : Int) < ((ns.length : Nat) : Int) := by omega
  first
   | (rw [decide_eq_true q'] at h5; exact absurd h5 (by decide))
   | (simp at h5; omega)
 cases hwl with
 | cons w1 w2 =>
  cases w2
  cases w1 with
  | list ho hall => exact ⟨_,_,ns,rfl,rfl,ho,J64 ns _ hall,hlen⟩
theorem JbF (l : OpenLaw) (args : List WData) : l.row.toRowW.claim.post args (.bool true) args = true :=
 postW_of (r := l.row.toRowW) (X := (true == true))
  (show WShape.has [] (.bool true) .bool = true by first | rfl | decide | simp [WShape.has,WShape.arms,WShape.armsAll])
  (show (WTm.eq .res (.lit (.bool true))).value [] { args := args,res := some (.bool true),after := args } = some (.bool (true == true)) from w_eq_bool (w_res rfl) w_lit) rfl
theorem attach_call {l : OpenLaw} {n : Nat} {q : Program} {loose : List Str} {XP : (Str → Option Value) → Heap → Prop} {YP : World → Heap → Prop} {d : DefRec}
  (hn : l.most = some n) (hdf : d.params.defaults = [])
  (call : ∀ (w : World) (s₀ s₁ : Shared) (mg mb : Str → Option Value) (fa : Addr) (o : Obj) (pm cd doc : Value) (a : Addr) (vs : List Value) (ns : List Int),
   Ground q loose [] XP w s₀ mg mb s₁.heap → YP w s₁.heap →
   s₁.heap.get? fa = some o → o.data = .func (docDef d.name d.params d.body d.scope pm cd doc) → s₁.heap.CodeRec cd d.name → mg d.name = some (.ref fa) →
   s₁.heap.get? a = some { cls := .type "list",data := .seq vs.toArray } → IntsAre vs ns → ns.length ≤ n → s₁.gens = #[] →
   codeAny (model l.prog w) callerA (.call (.ref fa) ⟨[.ref a],[]⟩) (fun r s' => r = .ok (.ret (.bool true)) ∧ OldK s₁.heap s'.heap ∧ s'.os = s₁.os ∧ AllBare s'.gens) s₁) :
  WalkO q loose XP YP l.row.toRowW d [] (fun f vs => PySem.call f vs) := by
 intro w s₀ s₁ mg mb G Y fa o pm cd doc dV kV ho hd hcd hD hmg hg args vals as hpre hlay hrd hwl hlo
 obtain rfl : dV = .none := Dflts.none hD hdf
 obtain rfl : kV = .none := Dflts.noKw hD
 obtain ⟨a,vs,ns,rfl,rfl,hobj,hints,hlen⟩ := JbV hn hpre hwl
 refine enter_call (codeAny_mono (call w s₀ s₁ mg mb fa o pm cd doc a vs ns G Y ho (fd_plain hd) hcd hmg hobj hints hlen hg) fun r s' hq => ?_)
 obtain ⟨rfl,h2,h3,h4⟩ := hq
 exact ⟨.inl ⟨.bool true,.bool true,[],rfl,fun _ => rfl,.bool true,JbF l _,fun _ => ⟨List.Pairwise.nil,fun _ hm => (nomatch hm)⟩⟩,h2,h3,h4⟩
section
variable {prog : Program} {w : World} {A : Around} {E : Value → Shared → Prop} {s : Shared} {K : Frag}
end
end Att
namespace L2
open PySem PySem.Spec PyProof.Rows
theorem J88 : ∀ {vs : List Value} {ns : List Int},IntsAre vs ns → Vals (ns.map V.int) vs
 | _,_,.nil => .nil
 | _,_,.cons n t h => .cons ⟨t,rfl⟩ (J88 h)
noncomputable def Only (H : Hp) : Prop := ∀ b,H b = none ∨ ∃ o xs,H b = some (.frz o (.lst xs))
theorem Jdg {P : Program} {w : World} {K : PySem.W.Frag} {mg mb : Str → Option Value} {CX : CXT} {k : Nat} {fa a : Addr} {fd : FuncData} {x : Str} {sp : Sp} {s₁ : Shared} {vs : List Value} {ns : List Int}
  (KX : K.In s₁.heap) (hns : s₁.heap.Ns mainGlobals mg) (hb : s₁.heap.Ns builtinsNs mb) (hbb : ∀ x : Str,x ≠ "__name__" → mb x = bootBuiltins x) (hlim : s₁.heap.NoLimit) (hg : s₁.gens = #[])
  (ha : s₁.heap.get? a = some { cls := .type "list",data := .seq vs.toArray }) (hi : IntsAre vs ns) (hl : ns.length ≤ sizeLine) (hr : Room k callerA)
  (F : ∀ base : Heap,K.In base → base.Ns mainGlobals mg → FnOk P w K mg base CX k fa fd [x] sp) (hbind : ∀ (s : Shared) (u : Value),BindsTo s fd ⟨[u],[]⟩ [(x,u)])
  (hsp : ∀ H : Hp,Only H → SqL K H a (ns.map V.int) → sp [.ref a] H (fun v _ => v = .bl true) fun _ _ _ => False)
  (hCX : ∀ H e s',CX [] H s₁ (fun _ _ _ => False) e s' → False) :
  codeAny (model P w) callerA (.call (.ref fa) ⟨[.ref a],[]⟩) (fun r s' => r = .ok (.ret (.bool true)) ∧ OldK s₁.heap s'.heap ∧ s'.os = s₁.os ∧ AllBare s'.gens) s₁ := by
 have rv := J88 hi
 have lenV := hi.length
 have core : ∀ H : Hp,Only H → SqL K H a (ns.map V.int) → HOk P w H s₁.heap → (∀ b,H b ≠ none → b = a) → (H a ≠ none → K.lookup a = none) →
   codeAny (model P w) callerA (.call (.ref fa) ⟨[.ref a],[]⟩) (fun r s' => r = .ok (.ret (.bool true)) ∧ OldK s₁.heap s'.heap ∧ s'.os = s₁.os ∧ AllBare s'.gens) s₁ := by
  intro H hO hS hok hA hK
  have base_of : ∀ {b : Addr} {o : Obj},s₁.heap.get? b = some o → H b = none → (hidT s₁.heap H).get? b = some o := fun e n => Jd6 e n
  have noA : ∀ {b : Addr} {o : Obj} {es : Array DictEntry} {ep : Nat},s₁.heap.get? b = some o → o.data = .dict es ep → H b = none := fun {b o es ep} e d => by
   cases q : H b with
   | none => rfl
   | some u =>
    have e' : b = a := hA b (by rw [q]; simp)
    subst e'
    rw [ha] at e; cases e
    have d' : Data.seq vs.toArray _ = Data.dict es ep := d
    cases d'
  have nsK : ∀ {b : Addr} {m : Str → Option Value},s₁.heap.Ns b m → (hidT s₁.heap H).Ns b m := fun {b m} ⟨o,es,ep,e,d,r⟩ => ⟨o,es,ep,base_of e (noA e d),d,r⟩
  have hKb : K.In (hidT s₁.heap H) := fun b o e => base_of (KX b o e) (by
   cases q : H b with
   | none => rfl
   | some u =>
    have e' : b = a := hA b (by rw [q]; simp)
    subst e'
    rw [hK (by rw [q]; simp)] at e; cases e)
  have hM : Mod K mg (hidT s₁.heap H) := ⟨hKb,nsK hns,⟨mb,nsK hb,hbb⟩,let ⟨mc,h1,h2⟩ := hlim; ⟨mc,nsK h1,h2⟩⟩
  have e0 : Env0 P w K mg (hidT s₁.heap H) callerA [] s₁ H := ⟨rfl,hM,fun b o e => JdV e,Nat.le_of_eq (Jbx _ _),trivial,fun b hb => absurd (show b ∈ ([] : List Addr) from hb) (by simp),hok,.of_eq hg⟩
  refine codeAny_mono ((F _ hKb (nsK hns)).run callerA [] s₁ H ⟨[.ref a],[]⟩ [.ref a] [.ref a] _ _ hr e0 (hbind s₁ (.ref a)) (.cons rfl .nil) (hsp H hO hS)) fun r s' h => ?_
  cases r with
  | error e => exact (hCX H e s' h).elim
  | ok fl =>
   cases fl with
   | next => exact False.elim h
   | brk => exact False.elim h
   | cont => exact False.elim h
   | ret u =>
    obtain ⟨v,H',os,bare,un,hok',r',q⟩ := h
    have q' : v = .bl true := q
    subst q'
    obtain rfl : u = Value.bool true := r'
    refine ⟨rfl,OldK.of_keep fun b o e => ?_,os,bare⟩
    cases q : H b with
    | none => exact un.keep b o e q (by intro z; exact absurd (show b ∈ ([] : List Addr) from z) (by simp)) (by simp)
    | some u =>
     rcases hO b with z | ⟨ob,xs,z⟩
     ·rw [q] at z; cases z
     ·have z2 := un.frzs b ob _ z
      obtain ⟨e1,_⟩ := hok b _ z
      obtain ⟨e2,_⟩ := hok' b _ z2
      rw [e] at e1; cases e1
      exact e2
 cases hk : K.lookup a with
 | some o =>
  have e := KX a o hk
  rw [ha] at e
  cases e
  refine core (fun _ => none) (fun _ => .inl rfl) (.inr ⟨_,vs.toArray,_,hk,rfl,rfl,rfl,by rw [List.size_toArray,lenV]; exact hl,by simpa using rv⟩) (fun b u z => by have z' : (none : Option HO) = some u := z; cases z') (fun b z => absurd rfl z) fun z => absurd rfl z
 | none =>
  refine core (fun b => if b = a then some (.frz { cls := .type "list",data := .seq vs.toArray } (.lst (ns.map V.int))) else none) (fun b => ?_) (.inl (.inr ⟨{ cls := .type "list",data := .seq vs.toArray },if_pos rfl⟩)) (fun b u z => ?_) (fun b z => ?_) fun _ => hk
  ·by_cases hb : b = a
   ·exact .inr ⟨_,_,if_pos hb⟩
   ·exact .inl (if_neg hb)
  ·by_cases hb : b = a
   ·have z' := (if_pos hb).symm.trans z
    cases z'
    subst hb
    exact ⟨ha,by rw [List.length_map]; exact hl,vs,_,rv,ha⟩
   ·have z' := (if_neg hb).symm.trans z
    cases z'
  ·by_cases hb : b = a
   ·exact hb
   ·exact absurd (if_neg hb) z
end L2
namespace L2
open PySem PySem.Spec PyProof.Rows
theorem walk_of {l : PySem.W.OpenLaw} {n k : Nat} {q : Program} {loose : List Str} {XP : (Str → Option Value) → Heap → Prop} {YP : World → Heap → Prop} {d : DefRec} {K : Params → PySem.W.Frag} {CX : World → CXT} {sp : World → Sp} {x : Str}
  (hn : l.most = some n) (hn2 : n ≤ sizeLine) (hdf : d.params.defaults = []) (hr : Room k callerA)
  (hY : ∀ (w : World) (h : Heap),YP w h → (K w.params).In h)
  (F : ∀ (w : World) (mg : Str → Option Value) (fa : Addr) (h : Heap),(K w.params).In h → h.Ns mainGlobals mg → mg d.name = some (.ref fa) →
   ∃ fd : FuncData,(∀ (s : Shared) (u : Value),BindsTo s fd ⟨[u],[]⟩ [(x,u)]) ∧
    ∀ base : Heap,(K w.params).In base → base.Ns mainGlobals mg → FnOk l.prog w (K w.params) mg base (CX w) k fa fd [x] (sp w))
  (hsp : ∀ (w : World) (H : Hp) (a : Addr) (ns : List Int),ns.length ≤ n → Only H → SqL (K w.params) H a (ns.map V.int) → sp w [.ref a] H (fun v _ => v = .bl true) fun _ _ _ => False)
  (hCX : ∀ (w : World) (H : Hp) (s : Shared) (e : Value) (s' : Shared),CX w [] H s (fun _ _ _ => False) e s' → False) :
  PySem.W.WalkO q loose XP YP l.row.toRowW d [] (fun f vs => PySem.call f vs) := by
 refine Att.attach_call hn hdf fun w s₀ s₁ mg mb fa o pm cd doc a vs ns G Y ho hd hcd hmg hobj hints hlen hg => ?_
 have KX := hY w _ Y
 obtain ⟨fd,hb,hF⟩ := F w mg fa _ KX G.T.g hmg
 exact Jdg KX G.T.g G.T.b G.T.builtins G.T.nolimit hg hobj hints (Nat.le_trans hlen hn2) hr hF hb (fun H hO hS => hsp w H a ns hlen hO hS) fun H e s' => hCX w H s₁ e s'
end L2
namespace L2
open PySem PySem.Spec PyProof.Rows
noncomputable def J04 (s : Stmt) (j : Nat) : Stmt := match s with
 | .ClassDef _ _ _ body _ _ _ _ _ _ _ => body.getD j (.Pass ⟨0,0,0,0⟩)
 | _ => .Pass ⟨0,0,0,0⟩
noncomputable def Jp (s : Stmt) : Arguments := match s with
 | .FunctionDef _ a _ _ _ _ _ _ _ _ => a
 | _ => { posonlyargs := [],args := [],vararg := none,kwonlyargs := [],kw_defaults := [],kwarg := none,defaults := [] }
noncomputable def Jn (s : Stmt) : List Stmt := match s with
 | .FunctionDef _ _ b _ _ _ _ _ _ _ => b
 | _ => []
noncomputable def J3 (s : Stmt) : Scope := match s with
 | .FunctionDef _ _ _ _ _ _ sc _ _ _ => sc
 | _ => { kind := .function,names := [],isGenerator := false,isCoroutine := false }
noncomputable abbrev CX0 : CXT := fun _ _ _ _ _ _ => False
noncomputable abbrev E0 : XK := fun _ _ _ => False
theorem JaV {X : Cx} : J7e CX0 X E0 := fun _ _ _ _ _ _ _ h => h.elim
structure Fun (K : PySem.W.Frag) (x qual : Str) (st : Stmt) (f : Addr) (fd : FuncData) : Prop where
 ex : ∃ (oc : Value) (od : Option Addr) (kV doc pm : Value) (an : Option Addr) (cdv ct : Value) (osl : Array (Option Value)),
  fd = PySem.W.fnOf x qual (Jp st) (Jn st) (J3 st) .none kV doc pm an cdv ct ∧ K.lookup f = some ⟨oc,od,.func fd,osl⟩ ∧ PySem.W.codeIn K cdv qual = true
 kp : PySem.W.keepIn K (.ref f) = true
section
variable {P : Program} {w : World} {K : PySem.W.Frag} {mg : Str → Option Value} {base : Heap}
theorem Fun.ok {x qual : Str} {st : Stmt} {f : Addr} {fd : FuncData} {N ps : List Str} {k : Nat} {sp : Sp} (F : Fun K x qual st f fd) (S : Jr N ps (J3 st)) (len : ∀ vs H Q E,sp vs H Q E → vs.length = ps.length)
  (hbody : ∀ (cdv : Value) (A : Around) (outer : List Env) (s : Shared) (H : Hp) (vs : List V) (Q : VK) (E : XK),Room k (A.deeper (envOfC qual (J3 st) s.heap.objs.size f cdv)) → sp vs H Q E →
   ∃ t,PSs (cxOf CX0 P w K mg base N qual (J3 st) f cdv A outer s H E).nox (Jn st) t ∧ t { nx := fun _ H' => Q .non H',rt := Q } (start N vs) H) : FnOk P w K mg base CX0 (k + 1) f fd ps sp := by
 obtain ⟨oc,od,kV,doc,pm,an,cdv,ct,osl,rfl,lk,hcd⟩ := F.ex
 refine JfN lk hcd S len fun A outer s H vs Q E hr hsp => ?_
 obtain ⟨t,h,q⟩ := hbody cdv A outer s H vs Q E hr hsp
 exact ⟨t,h.nox,q⟩
theorem Fun.binds {x qual : Str} {st : Stmt} {f : Addr} {fd : FuncData} {ps : List Str} (F : Fun K x qual st f fd)
  (h : ∀ (kV doc pm : Value) (an : Option Addr) (cdv ct : Value) (us : List Value),us.length = ps.length → bindArgs (PySem.W.fnOf x qual (Jp st) (Jn st) (J3 st) .none kV doc pm an cdv ct) ⟨us,[]⟩ = pure (ps.zip us)) : J4d K fd ps [] := by
 obtain ⟨oc,od,kV,doc,pm,an,cdv,ct,osl,rfl,lk,hcd⟩ := F.ex
 exact .all (h kV doc pm an cdv ct)
theorem JA {x qual : Str} {st : Stmt} {f : Addr} {oc : Value} {od an : Option Addr} {osl : Array (Option Value)} {kV doc pm cdv ct : Value} (l : K.lookup f = some ⟨oc,od,.func (PySem.W.fnOf x qual (Jp st) (Jn st) (J3 st) .none kV doc pm an cdv ct),osl⟩)
  (c : PySem.W.codeIn K cdv qual = true) (k : PySem.W.keepIn K (.ref f) = true) : Fun K x qual st f (PySem.W.fnOf x qual (Jp st) (Jn st) (J3 st) .none kV doc pm an cdv ct) := ⟨⟨oc,od,kV,doc,pm,an,cdv,ct,osl,rfl,l,c⟩,k⟩
end
theorem J86 {A : Around} {k : Nat} (hr : Room k A) : A.units + 1 < cLine := Nat.lt_of_le_of_lt (Nat.add_le_add_left (by decide : 1 ≤ 64) _) hr.units
section
variable {X : Cx}
theorem pv (i : Nat) {x : Str} {pos : Pos} (hN : X.N[i]? = some x := by rfl) (hv : Vis X.env.scope x := by first | exact Or.inl rfl | exact Or.inr (Or.inl rfl) | exact Or.inr (Or.inr rfl)) (hd : (x == ("__debug__" : Str)) = false := by decide)
  (hcd : (x == ("__classdict__" : Str)) = false := by decide) : PE X (.Name x pos) (tVar i) := Jf4 hN hv hd hcd
end
theorem iteF {A B : Prop} (h : B) : if false = true then A else B := by
 rw [if_neg Bool.false_ne_true]
 exact h
theorem iteT {A B : Prop} (h : A) : if true = true then A else B := by
 rw [if_pos rfl]
 exact h
theorem ite2 {c A B : Prop} [Decidable c] (h1 : c → A) (h2 : ¬ c → B) : if c then A else B := by
 by_cases h : c
 ·rw [if_pos h]
  exact h1 h
 ·rw [if_neg h]
  exact h2 h
noncomputable def Same (H H' : Hp) : Prop := ∀ b o,H b = some o → H' b = some o
theorem Same.refl (H : Hp) : Same H H := fun _ _ h => h
theorem Same.trans {H H1 H2 : Hp} (a : Same H H1) (b : Same H1 H2) : Same H H2 := fun c o h => b c o (a c o h)
theorem Same.free {H H' : Hp} (e : Same H H') {l : Addr} (h : H' l = Option.none) : H l = Option.none := by
 cases q : H l with
 | none => rfl
 | some o =>
  rw [e l o q] at h
  cases h
theorem Same.seq {K : PySem.W.Frag} {H H' : Hp} {a : Addr} {xs : List V} (e : Same H H') (h : SqL K H a xs) : SqL K H' a xs := by
 rcases h with (h | ⟨o,h⟩) | h
 ·exact .inl (.inl (e _ _ h))
 ·exact .inl (.inr ⟨o,e _ _ h⟩)
 ·exact .inr h
end L2
set_option linter.all false
set_option maxRecDepth 100000
set_option maxHeartbeats 4000000
namespace L2
open PySem PySem.Spec PyProof.Rows
theorem J4b {scope : Scope} {env : Env} (h : ∀ y ∈ scope.names,y.2 = .free → ∃ c,env.cells.lookup y.1 = some c) :
  ∃ cl,closureFor scope env = pure cl ∧ (∀ y ∈ scope.names,y.2 = NameKind.free → cl.lookup y.1 = env.cells.lookup y.1) ∧ (∀ x c,cl.lookup x = some c → env.cells.lookup x = some c) := by
 have key : ∀ (names : List (Str × NameKind)) (acc : List (Str × Addr)) (f : Str × NameKind → List (Str × Addr) → Sem (ForInStep (List (Str × Addr)))),
   (∀ x cs,f x cs = if (x.2 == NameKind.free) = true then (cellOf env x.1 >>= fun a => pure (ForInStep.yield ((x.1,a) :: cs))) else pure (ForInStep.yield cs)) →
   (∀ y ∈ names,y.2 = .free → ∃ c,env.cells.lookup y.1 = some c) → (∀ x c,acc.lookup x = some c → env.cells.lookup x = some c) →
   ∃ cl,forIn names acc f = pure cl ∧ (∀ x c,acc.lookup x = some c → cl.lookup x = env.cells.lookup x) ∧ (∀ y ∈ names,y.2 = NameKind.free → cl.lookup y.1 = env.cells.lookup y.1) ∧ (∀ x c,cl.lookup x = some c → env.cells.lookup x = some c) := by
  intro names
  induction names with
  | nil =>
   intro acc f _ _ ha
   exact ⟨acc,rfl,fun x c e => by rw [e,ha x c e],fun _ h => (nomatch h),ha⟩
  | cons y r ih =>
   intro acc f hf hn ha
   obtain ⟨n,k⟩ := y
   rw [List.forIn_cons,hf]
   by_cases hk : k = .free
   ·subst hk
    obtain ⟨c,hc⟩ := hn (n,.free) List.mem_cons_self rfl
    have hc' : cellOf env n = pure c := by unfold cellOf; rw [hc]
    have ha' : ∀ x d,((n,c) :: acc).lookup x = some d → env.cells.lookup x = some d := fun x d e => by
     rw [List.lookup_cons] at e
     cases hx : x == n with
     | true =>
      rw [hx] at e
      have e' : c = d := Option.some.inj e
      have hx' : x = n := by simpa using hx
      rw [hx',hc,e']
     | false =>
      rw [hx] at e
      exact ha x d e
    obtain ⟨cl,e,h1,h2,h3⟩ := ih ((n,c) :: acc) f hf (fun y hy => hn y (List.mem_cons_of_mem _ hy)) ha'
    refine ⟨cl,?_,fun x d ex => ?_,fun y hy hyf => ?_,h3⟩
    ·rw [if_pos (by rfl)]
     show ((cellOf env n >>= fun a => pure (ForInStep.yield ((n,a) :: acc))) >>= _) = pure cl
     rw [hc',pure_bind,pure_bind]
     exact e
    ·by_cases hxn : x = n
     ·subst hxn
      exact h1 x c (by rw [List.lookup_cons,beq_self_eq_true])
     ·refine h1 x d ?_
      rw [List.lookup_cons,beq_eq_false_iff_ne.mpr hxn]
      exact ex
    ·rcases List.mem_cons.mp hy with rfl | hy
     ·exact h1 _ c (by rw [List.lookup_cons,beq_self_eq_true])
     ·exact h2 y hy hyf
   ·have hb : (k == NameKind.free) = false := by simpa using hk
    obtain ⟨cl,e,h1,h2,h3⟩ := ih acc f hf (fun y hy => hn y (List.mem_cons_of_mem _ hy)) ha
    refine ⟨cl,?_,h1,fun y hy hyf => ?_,h3⟩
    ·show ((if (k == NameKind.free) = true then _ else pure (ForInStep.yield acc)) >>= _) = pure cl
     rw [if_neg (by rw [hb]; exact Bool.false_ne_true),pure_bind]
     exact e
    ·rcases List.mem_cons.mp hy with rfl | hy
     ·exact absurd hyf hk
     ·exact h2 y hy hyf
 have z := key scope.names [] (fun x cs => if (x.2 == NameKind.free) = true then (cellOf env x.1 >>= fun a => pure (ForInStep.yield ((x.1,a) :: cs))) else pure (ForInStep.yield cs)) (fun _ _ => rfl) h (fun _ _ e => (nomatch e))
 obtain ⟨cl,e,_,h2,h3⟩ := z
 refine ⟨cl,?_,h2,h3⟩
 show (forIn scope.names [] _ >>= pure) = pure cl
 exact (congrArg (· >>= pure) e).trans (pure_bind _ _)
noncomputable abbrev J1x (X : Cx) (scope : Scope) (N : List Str) (s₀ : Shared) (H₀ : Hp) (cl : List (Str × Addr)) (C : Addr) (ex : List Addr) : Cx :=
 {prog := X.prog,w := X.w,K := X.K,mg := X.mg,base := X.base,A := X.A,N := N,s₀ := s₀,H₀ := H₀,env := compEnvC scope cl C X.env,
  outer := X.stack,stack := X.stack,ex := ex,fn := fun _ => false,calm := X.calm,pn := [],xe := fun _ _ => False }
theorem J4Y {prog : Program} {w : World} {A : Around} {R : Result → Shared → Prop} {s : Shared} {elt target iter : Expr} {ifs : List Expr} {scope : Scope} {pos : Pos} {it acc : Value} {env : Env} (I : Nat → Shared → Prop)
  (turn : ∀ n s,I n s → wpAny (model prog w) A (pyNext it) (fun r s₁ => match r with
   | none => R (.ok .next) s₁
   | some v => wpAny (model prog w) A (letOwnedTupleGo target it v) (fun _ s₁' => wpAny (model prog w) A (assign target env v) (fun _ s₂ =>
     wpAny (model prog w) A (forIn ifs true fun c r => if r = true then do let ok ← isTrue c env (eval c env); pure (ForInStep.yield ok) else pure (ForInStep.yield r)) (fun ok s₃ =>
      if ok = true then wpAny (model prog w) A (eval elt env) (fun x s₄ =>
       wpAny (model prog w) A (call (.builtin "list.append") [acc,x]) (fun _ s₅ => ∃ m,m < n ∧ I m s₅) (fun _ _ => False) s₄) (fun _ _ => False) s₃
      else ∃ m,m < n ∧ I m s₃) (fun _ _ => False) s₂) (fun _ _ => False) s₁') (fun _ _ => False) s₁) (fun _ _ => False) s)
  (n : Nat) (h : I n s) :
  codeAny (model prog w) A (.compLoop (.ListComp elt [⟨target,iter,ifs,0⟩] scope pos) 0 it acc env) R s := by
 refine codeAny_loop rfl I (fun n s hI => ?_) n h
 show wpAny _ A ((compTurn (.ListComp elt [⟨target,iter,ifs,0⟩] scope pos) 0 it acc env).onRaise (fun x => do noteFrame x env; theTreesLotGoes x)) _ _ s
 refine wpAny_noted ?_
 rw [compTurn_list]
 refine wpAny_bind (wpAny_standAt (wpAny_bind (wpAny_mono (turn n s hI) (fun r s₁ h₁ => ?_) fun _ _ z => z.elim)))
 cases r with
 | none => exact wpAny_pure h₁
 | some v =>
  refine wpAny_bind (wpAny_mono h₁ (fun _ s₁' h₁' => ?_) fun _ _ z => z.elim)
  refine wpAny_bind (wpAny_mono h₁' (fun _ s₂ h₂ => wpAny_bind (wpAny_mono h₂ (fun ok s₃ h₃ => ?_) fun _ _ z => z.elim)) fun _ _ z => z.elim)
  cases ok with
  | false => exact wpAny_pure ⟨rfl,h₃⟩
  | true =>
   exact wpAny_bind (wpAny_bind (wpAny_mono h₃ (fun x s₄ h₄ => wpAny_bind (wpAny_mono h₄ (fun _ s₅ h₅ => wpAny_pure (wpAny_pure ⟨rfl,h₅⟩)) fun _ _ z => z.elim)) fun _ _ z => z.elim))
noncomputable def PIfs (X : Cx) (ifs : List Expr) (t : TT) : Prop :=
 ∀ (pins : List (Addr × Obj)) (s : Shared) (σ : St) (H : Hp) (Q : Bool → Hp → Prop),Inv X pins σ H s → t σ H Q →
  wpAny (model X.prog X.w) X.A (forIn ifs true fun c r => if r = true then do let ok ← isTrue c X.env (eval c X.env); pure (ForInStep.yield ok) else pure (ForInStep.yield r)) (TP X pins σ Q) X.xe s
noncomputable def tYes : TT := fun _ H Q => Q true H
theorem J0b {X : Cx} : PIfs X [] tYes := fun _ _ _ H _ I h => wpAny_tests_nil ⟨H,I,h⟩
theorem J0o {X : Cx} {c : Expr} {t : TT} (hc : PT X c t) : PIfs X [c] t := fun pins s σ H Q I h => wpAny_tests_one (hc pins s σ H Q I h)
noncomputable def J5W (J : It) (H1 : Hp) (σ0 : St) (g : TG) (tc : TT) (te : TE) (Q : VK) : Prop := ∀ D,H1 D = none →
  ∃ W : Nat → Nat → St → List V → Hp → Prop,(∃ m,W 0 m σ0 [] (upd H1 D (.lst []))) ∧ ∀ i m σ1 ys H,W i m σ1 ys H →
    (J.stop i H ∧ Q (.ref D) H) ∨ (J.go i H ∧ ∀ x H',J.yld i H x H' → g x σ1 H' fun σ2 H2 => tc σ2 H2 fun b H3 =>
       if b = true then te σ2 H3 fun y H4 => H4 D = some (.lst ys) ∧ ys.length < sizeLine ∧ ∃ m',m' < m ∧ W (i + 1) m' σ2 (ys ++ [y]) (upd H4 D (.lst (ys ++ [y])))
       else ∃ m',m' < m ∧ W (i + 1) m' σ2 ys H3)
noncomputable def JcQ (wi : TI) (sub : St → St) (g : TG) (tc : TT) (te : TE) : TE := fun σ H Q => wi σ H fun J H1 => J5W J H1 (sub σ) g tc te Q
noncomputable def subσ (js : List (Option Nat)) (σ : St) : St := js.map fun o => o.bind fun j => (σ[j]?).join
theorem J25 {env : Env} : ∀ {names : List (Str × NameKind)} {x : Str},names.lookup x = some .free →
  (names.map fun (n,k) => if (k == NameKind.free && env.scope.kind == .function && env.kindOf n == some .cell) then (n,NameKind.cell) else (n,k)).lookup x = some .cell ∨
  (names.map fun (n,k) => if (k == NameKind.free && env.scope.kind == .function && env.kindOf n == some .cell) then (n,NameKind.cell) else (n,k)).lookup x = some .free
 | [],_,h => by simp at h
 | (n,k) :: r,x,h => by
  have ih := @J25 env r x
  show List.lookup x ((if (k == NameKind.free && env.scope.kind == .function && env.kindOf n == some .cell) = true then (n,NameKind.cell) else (n,k)) :: _) = _ ∨ List.lookup x ((if (k == NameKind.free && env.scope.kind == .function && env.kindOf n == some .cell) = true then (n,NameKind.cell) else (n,k)) :: _) = _
  cases hx : x == n with
  | true =>
   simp only [List.lookup_cons,hx] at h
   cases h
   by_cases hc : (NameKind.free == NameKind.free && env.scope.kind == .function && env.kindOf n == some .cell) = true
   ·rw [if_pos hc]; left; simp only [List.lookup_cons,hx]
   ·rw [if_neg hc]; right; simp only [List.lookup_cons,hx]
  | false =>
   simp only [List.lookup_cons,hx] at h
   by_cases hc : (k == NameKind.free && env.scope.kind == .function && env.kindOf n == some .cell) = true
   ·rw [if_pos hc]; simp only [List.lookup_cons,hx]; exact ih h
   ·rw [if_neg hc]; simp only [List.lookup_cons,hx]; exact ih h
theorem J3v {env : Env} : ∀ {names : List (Str × NameKind)} {x : Str},(∀ y ∈ names,y.2 ≠ NameKind.cell) →
  ((names.map fun (n,k) => if (k == NameKind.free && env.scope.kind == .function && env.kindOf n == some .cell) then (n,NameKind.cell) else (n,k)).lookup x = some .cell ∨
  (names.map fun (n,k) => if (k == NameKind.free && env.scope.kind == .function && env.kindOf n == some .cell) then (n,NameKind.cell) else (n,k)).lookup x = some .free) → (x,NameKind.free) ∈ names
 | [],_,_,h => by simp at h
 | (n,k) :: r,x,hn,h => by
  have ih := @J3v env r x fun y hy => hn y (List.mem_cons_of_mem _ hy)
  have hk : k ≠ .cell := hn (n,k) List.mem_cons_self
  change List.lookup x ((if (k == NameKind.free && env.scope.kind == .function && env.kindOf n == some .cell) = true then (n,NameKind.cell) else (n,k)) :: _) = _ ∨ List.lookup x ((if (k == NameKind.free && env.scope.kind == .function && env.kindOf n == some .cell) = true then (n,NameKind.cell) else (n,k)) :: _) = _ at h
  cases hx : x == n with
  | true =>
   have hx' : x = n := by simpa using hx
   subst hx'
   by_cases hc : (k == NameKind.free && env.scope.kind == .function && env.kindOf x == some .cell) = true
   ·have : k = .free := by
     have := (Bool.and_eq_true _ _).mp ((Bool.and_eq_true _ _).mp hc).1
     simpa using this.1
    subst this
    exact List.mem_cons_self
   ·rw [if_neg hc] at h
    simp only [List.lookup_cons,beq_self_eq_true] at h
    rcases h with h | h
    ·exact absurd (Option.some.inj h) hk
    ·have := Option.some.inj h
     subst this
     exact List.mem_cons_self
  | false =>
   by_cases hc : (k == NameKind.free && env.scope.kind == .function && env.kindOf n == some .cell) = true
   ·rw [if_pos hc] at h; simp only [List.lookup_cons,hx] at h; exact List.mem_cons_of_mem _ (ih h)
   ·rw [if_neg hc] at h; simp only [List.lookup_cons,hx] at h; exact List.mem_cons_of_mem _ (ih h)
section
variable {X : Cx} {elt tg iter : Expr} {ifs : List Expr} {scope : Scope} {pos : Pos} {N : List Str} {js : List (Option Nat)} {wi : TI} {g : TG} {tc : TT} {te : TE}
structure J40 (osc : Scope) (ON : List Str) (scope : Scope) (N : List Str) (js : List (Option Nat)) : Prop where
 kind : scope.kind = .function
 cell : ∀ y ∈ scope.names,y.2 ≠ .cell
 names : ∀ y ∈ scope.names,y.2 = .local → scope.names.lookup y.1 = some .local
 free : ∀ y ∈ scope.names,y.2 = .free → osc.names.lookup y.1 = some .cell ∨ osc.names.lookup y.1 = some .free
 len : js.length = N.length
 slots : (js.zip N).all (fun p => match p.1 with | none => true | some j => decide (ON[j]? = some p.2) && decide (scope.names.lookup p.2 = some .free)) = true
theorem J40.sub {osc : Scope} {ON : List Str} {scope : Scope} {N : List Str} {js : List (Option Nat)} (cs : J40 osc ON scope N js) : ∀ (i j : Nat),js[i]? = some (some j) → ∃ x,N[i]? = some x ∧ ON[j]? = some x ∧ scope.names.lookup x = some .free := by
 intro i j h
 have hi : i < js.length := (List.getElem?_eq_some_iff.mp h).1
 have hN : N[i]? = some (N[i]'(by rw [← cs.len]; exact hi)) := List.getElem?_eq_getElem _
 have hz : (js.zip N)[i]? = some (some j,N[i]'(by rw [← cs.len]; exact hi)) := by
  rw [List.getElem?_zip_eq_some]
  exact ⟨h,hN⟩
 have hm := List.all_eq_true.mp cs.slots _ (List.mem_of_getElem? hz)
 have hm2 := (Bool.and_eq_true _ _).mp hm
 exact ⟨_,hN,of_decide_eq_true hm2.1,of_decide_eq_true hm2.2⟩
theorem mem_of_lookup {α : Type} : ∀ {l : List (Str × α)} {x : Str} {k : α},l.lookup x = some k → (x,k) ∈ l
 | [],_,_,h => by simp at h
 | (n,v) :: r,x,k,h => by
  rw [List.lookup_cons] at h
  cases hx : x == n with
  | true =>
   rw [hx] at h
   have hx' : x = n := by simpa using hx
   have : v = k := Option.some.inj h
   subst hx' this
   exact List.mem_cons_self
  | false =>
   rw [hx] at h
   exact List.mem_cons_of_mem _ (mem_of_lookup h)
theorem JP {osc : Scope} {ON : List Str} (cs : J40 osc ON scope N js) (ho : X.env.scope = osc) (hON : X.N = ON) (hc : X.calm = true) (hi : PI X tg iter wi)
    (hg : ∀ s₀ H₀ cl C ex,PG (J1x X scope N s₀ H₀ cl C ex) tg g) (hif : ∀ s₀ H₀ cl C ex,PIfs (J1x X scope N s₀ H₀ cl C ex) ifs tc) (he : ∀ s₀ H₀ cl C ex,PE (J1x X scope N s₀ H₀ cl C ex) elt te)
    (hs : ∀ x,foldedSetIterable iter X.env x = pure x := by intro _; rfl) : PE X (.ListComp elt [⟨tg,iter,ifs,0⟩] scope pos) (JcQ wi (subσ js) g tc te) := by
  intro pins s σ H Q I h
  subst ho hON
  obtain ⟨cl,hcl,cl1,cl2⟩ := J4b (scope := scope) (env := X.env) fun y hy hf => I.ok.has y.1 (cs.free y hy hf)
  rw [eval_ListComp]
  refine wpAny_comprehension_free (use := none) rfl hs hcl cs.kind cs.names ?_
  refine thn (hi pins s σ H _ I h) fun v s1 h1 => thn h1 fun itv s2 h2 => ?_
  obtain ⟨it,fp,tn,J,H2,e,I2,T,st2,f2,hW⟩ := h2
  subst e
  have hD0 : H2 s2.heap.objs.size = none := I2.hok.fresh (Nat.le_refl _)
  obtain ⟨W,⟨m0,w0⟩,turn⟩ := hW s2.heap.objs.size hD0
  have I3 := I2.lnew (t' := s2.toks) (ys := []) (its := []) .nil (Nat.zero_le _)
  refine wpAny_newObj_type (wpAny_newFunctionEnv cs.cell (by intro y hy; simp at hy) (fun h₁ hns₁ hsb₁ => ?_) cs.kind)
  dsimp only at hns₁ hsb₁ ⊢
  obtain ⟨s3,hs3⟩ : ∃ s3 : Shared,s3 = { s2 with heap := s2.heap.push { cls := .type "list",data := .seq ([] : List Value).toArray },toks := s2.toks } := ⟨_,rfl⟩
  rw [← hs3] at I3
  have e3 : s3.heap = s2.heap.push { cls := .type "list",dict := none,data := .seq ([] : List Value).toArray } := by rw [hs3]
  have e3o : s3.os = s2.os := by rw [hs3]
  have e3g : s3.gens = s2.gens := by rw [hs3]
  rw [← e3] at hns₁ hsb₁ ⊢
  obtain ⟨H3,hH3⟩ : ∃ H3 : Hp,H3 = upd H2 s2.heap.objs.size (.lst []) := ⟨_,rfl⟩
  rw [← hH3] at I3 w0
  have up1 : ∀ b o,s2.heap.get? b = some o → s3.heap.get? b = some o := fun b o q => by rw [e3]; exact Heap.get?_push_of_some _ q
  have up2 : ∀ b o,s3.heap.get? b = some o → h₁.get? b = some o := fun b o q => hsb₁.extBut b o (Nat.ne_of_lt (Heap.lt_size q)) (Heap.get?_push_of_some _ q)
  have fpo : ∀ b ∈ fp,∃ o,s3.heap.get? b = some o := fun b hb => by
    obtain ⟨o,ho,_⟩ := T.obj 0 _ st2 b hb
    exact ⟨o,up1 b o ho⟩
  have fr3 : ∀ b ∈ fp,H3 b = none := fun b hb => by
    obtain ⟨o,ho,_⟩ := T.obj 0 _ st2 b hb
    rw [hH3,Jj (Nat.ne_of_lt (Heap.lt_size ho))]
    exact (f2 b hb).1
  have fpC : ∀ b ∈ fp,b ≠ s3.heap.objs.size := fun b hb => by
    obtain ⟨o,ho⟩ := fpo b hb
    exact Nat.ne_of_lt (Heap.lt_size ho)
  have fpS : ∀ b ∈ fp,b ∉ frs X.stack := fun b hb hs' => by
    rcases List.mem_cons.mp (I2.stkSub b hs') with z | z
    · exact (f2 b hb).2.1 z
    · exact (f2 b hb).2.2.1 z
  have ok' : (J1x X scope N s3 H3 cl s3.heap.objs.size fp).Ok := by
    refine ⟨I.ok.mod,cs.kind,I.ok.glob,I.ok.blt,Nat.le_refl _,fun x y c e1 e2 => I.ok.inj x y c (cl2 x c e1) (cl2 y c e2),fun x hx => ?_,fun x c hf => (nomatch hf),I.ok.hd,I.ok.frames,.inl rfl,fun b hb => ⟨fpC b hb,fun x c e => (f2 b hb).2.2.2.2.1 x c (cl2 x c e)⟩,
      I3.bs,Nat.le_trans I.ok.bsz I3.sz,fun b o e hb => ?_,fun b hb => fpS b hb,I3.stack,I3.stkFree⟩
    · have hm : (x,NameKind.free) ∈ scope.names := J3v cs.cell hx
      obtain ⟨c,hc⟩ := I.ok.has x (cs.free _ hm rfl)
      exact ⟨c,(cl1 _ hm rfl).trans hc⟩
    · rcases (f2 b hb).2.2.2.1 with z | z
      · exact I.ok.noex b o e z
      · exact absurd (Nat.lt_of_lt_of_le (Heap.lt_size e) (Nat.le_trans I.ok.bsz z)) (Nat.lt_irrefl _)
  have cellK : ∀ c v,s3.heap.IsCell c v → h₁.IsCell c v := fun c v ⟨o,ho,hd⟩ => ⟨o,up2 c o ho,hd⟩
  have I4 : ∀ t : Nat,Inv (J1x X scope N s3 H3 cl s3.heap.objs.size fp) [] (subσ js σ) H3 { s2 with heap := h₁,toks := t } := fun t => by
    refine ⟨ok',e3o.symm,I2.bare,Un.kept up2,⟨_,hns₁,fun i x v hi hv hx => ?_⟩,fun x c e => ?_,I3.hok.fresh (Nat.le_refl _),fun x c e => I3.freeC x c (cl2 x c e),fun p hp => (nomatch hp),I3.hok.kept up2,?_⟩
    ·
      have hv' : ∃ j,js[i]? = some (some j) ∧ σ[j]? = some (some v) := by
        unfold subσ at hv
        rw [List.getElem?_map] at hv
        cases hj : js[i]? with
        | none => rw [hj] at hv; cases hv
        | some o =>
          rw [hj] at hv
          cases o with
          | none => cases hv
          | some j =>
            refine ⟨j,rfl,?_⟩
            have hv2 : (σ[j]?).join = some v := Option.some.inj hv
            cases hs2 : σ[j]? with
            | none => rw [hs2] at hv2; cases hv2
            | some u => rw [hs2] at hv2; exact congrArg some hv2
      obtain ⟨j,hj,hσ⟩ := hv'
      obtain ⟨x',h1',h2',h3'⟩ := cs.sub i j hj
      have hxx : x = x' := Option.some.inj (hi.symm.trans h1')
      subst hxx
      have hm : (x,NameKind.free) ∈ scope.names := mem_of_lookup h3'
      have hk := cs.free _ hm rfl
      obtain ⟨m,hn,hl⟩ := id I3.loc
      obtain ⟨u,ru,lk⟩ := hl j x v h2' hσ (by rcases hk with z | z; exact .inr (.inl z); exact .inr (.inr z))
      refine ⟨u,ru,?_⟩
      rcases lk with ⟨k1,_⟩ | ⟨k1,c,e1,z⟩
      · rcases hk with z | z <;> (rw [show X.env.kindOf x = _ from z] at k1; cases k1)
      · exact .inr ⟨J25 h3',c,(cl1 _ hm rfl).trans e1,cellK c _ z⟩
    · obtain ⟨v,z⟩ := I3.cell x c (cl2 x c e)
      exact ⟨v,cellK c v z⟩
    · unfold subσ
      rw [List.length_map]
      exact cs.len
  have hst₁ : tn 0 h₁ := T.keep 0 _ _ st2 fun b hb o q => up2 b o (up1 b o q)
  have stat : ∀ {H' : Hp},(∀ b ∈ fp,H' b = none) → ∀ b ∈ fp,FpOk (J1x X scope N s3 H3 cl s3.heap.objs.size fp) [] H' b := fun hn b hb =>
    ⟨hn b hb,fpC b hb,fpS b hb,.inl hb,fun x c e => (f2 b hb).2.2.2.2.1 x c (cl2 x c e),fun p hp => (nomatch hp)⟩
  have loop : ∀ s4 : Shared,(∃ t,s4 = { s2 with heap := h₁,toks := t }) →
      codeAny (model X.prog X.w) X.A (.compLoop (.ListComp elt [⟨tg,iter,ifs,0⟩] scope pos) 0 (.ref it) (.ref s2.heap.objs.size) (compEnvC scope cl s3.heap.objs.size X.env))
        (compPost (model X.prog X.w) X.A X.xe none (EP X pins σ Q) (.ref s2.heap.objs.size) s3.heap.objs.size) s4 := by
    rintro s4 ⟨t,rfl⟩
    refine J4Y (fun n s' => ∃ i σ' ys H',Inv (J1x X scope N s3 H3 cl s3.heap.objs.size fp) [] σ' H' s' ∧ tn i s'.heap ∧ (∀ b ∈ fp,H' b = none) ∧ W i n σ' ys H') ?_ m0 ⟨0,_,[],H3,I4 t,hst₁,fr3,w0⟩
    rintro n s5 ⟨i,σ5,ys,H5,I5,st5,fr5,w5⟩
    rcases turn i n σ5 ys H5 w5 with ⟨stop,qn⟩ | ⟨go,step⟩
    · refine thn (T.done (J1x X scope N s3 H3 cl s3.heap.objs.size fp) rfl rfl rfl hc i [] s5 σ5 H5 _ I5 (stat fr5) st5 stop) fun r s6 ⟨hr,I6⟩ => ?_
      subst hr
      obtain ⟨m,hn,_⟩ := id I6.loc
      refine ⟨m,hn,fun h' hs' => ⟨.ref s2.heap.objs.size,H5,?_,rfl,qn⟩⟩
      have neC : ∀ b o,s3.heap.get? b = some o → b ≠ s3.heap.objs.size := fun b o q => Nat.ne_of_lt (Heap.lt_size q)
      have un : Un (frs X.stack) fp H3 H5 s3.heap h' :=
        ⟨fun b o q n1 hb hx => (hs'.2 b (neC b o q)).trans (I6.base.keep b o q n1 hb hx),
         fun b o q n1 hb hx => by
           obtain ⟨sl,e⟩ := I6.base.slot b o q n1 hb hx
           exact ⟨sl,(hs'.2 b (neC b o q)).trans e⟩,
         fun b o q n1 hx => I6.base.free b o q n1 hx,
         fun b o q hx => by
           obtain ⟨o',e⟩ := I6.base.there b o q hx
           exact ⟨o',(hs'.2 b (neC b o q)).trans e⟩,
         I6.base.tups,I6.base.frzs,I6.base.tbls⟩
      refine I3.call' (ch := fp) (s' := { s6 with heap := h' }) I6.os un (fun b ob e => ?_) I6.bare (fun b hb => ⟨(f2 b hb).2.2.2.1,(f2 b hb).2.1,(f2 b hb).2.2.2.2.1,(f2 b hb).2.2.2.2.2⟩)
      refine (I6.hok b ob e).stay (fun c w' hc' q => (hs'.2 c ?_).trans q) (fun _ q => q) fun _ _ q => q
      rintro rfl
      have fC : H5 s3.heap.objs.size = none := I6.free
      rcases hc' with z | z
      · rw [← z,fC] at e; cases e
      · rw [fC] at z; cases z
    · refine thn (T.item (J1x X scope N s3 H3 cl s3.heap.objs.size fp) rfl rfl rfl hc i [] s5 σ5 H5 _ I5 (stat fr5) st5 go) fun r s6 ⟨u,hr,h6⟩ => ?_
      subst hr
      refine thn h6 fun _ s7 ⟨x,H7,I7,r7,y7,st7,fr7⟩ => ?_
      have I7' := I7.pinned (stat fr7) (T.obj _ _ st7)
      refine thn (hg _ _ _ _ _ _ s7 σ5 H7 x u _ I7' r7 (step x H7 y7)) fun _ s8 ⟨σ8,H8,I8,q8⟩ => ?_
      refine thn (hif _ _ _ _ _ _ s8 σ8 H8 _ I8 q8) fun ok s9 ⟨H9,I9,q9⟩ => ?_
      have again : ∀ {σ' : St} {H' : Hp} {s' : Shared},Inv (J1x X scope N s3 H3 cl s3.heap.objs.size fp) ([] ++ J5A fp s7.heap) σ' H' s' →
          Inv (J1x X scope N s3 H3 cl s3.heap.objs.size fp) [] σ' H' s' ∧ tn (i + 1) s'.heap ∧ ∀ b ∈ fp,H' b = none := fun {σ' H' s'} I' => by
        refine ⟨I'.unpinned,T.keep _ _ _ st7 fun b hb o e => (I'.pin (b,o) (List.mem_append_right _ (List.mem_append_right _ (J2d hb e)))).1,fun b hb => ?_⟩
        obtain ⟨o,e,d⟩ := T.obj _ _ st7 b hb
        exact (I'.pin (b,o) (List.mem_append_right _ (List.mem_append_right _ (J2d hb e)))).2.1
      cases ok with
      | false =>
        rw [if_neg Bool.false_ne_true] at q9 ⊢
        obtain ⟨m',hm,w9⟩ := q9
        obtain ⟨a1,a2,a3⟩ := again I9
        exact ⟨m',hm,i + 1,σ8,ys,H9,a1,a2,a3,w9⟩
      | true =>
        rw [if_pos rfl] at q9 ⊢
        refine thn (he _ _ _ _ _ _ s9 σ8 H9 _ I9 q9) fun yv s10 ⟨y,H10,I10,r10,q10⟩ => ?_
        obtain ⟨hD,hz,m',hm,w10⟩ := q10
        refine thn (J1w (X := J1x X scope N s3 H3 cl s3.heap.objs.size fp) _ s10 σ8 H10 (.ref s2.heap.objs.size) [y] (.ref s2.heap.objs.size) [yv] (fun v H' => H' = upd H10 s2.heap.objs.size (.lst (ys ++ [y]))) I10 rfl (.cons r10 .nil)
          ⟨s2.heap.objs.size,ys,y,rfl,rfl,hD,hz,rfl⟩) fun _ s11 ⟨v11,H11,I11,_,e11⟩ => ?_
        have e11' : H11 = upd H10 s2.heap.objs.size (.lst (ys ++ [y])) := e11
        subst e11'
        obtain ⟨a1,a2,a3⟩ := again I11
        exact ⟨m',hm,i + 1,σ8,ys ++ [y],_,a1,a2,a3,w10⟩
  exact codeAny_compStart_list (loop _ ⟨_,rfl⟩) (T.self X.A 0 _ _ _ hst₁ (loop _ ⟨_,rfl⟩))
end
structure J9A (J : It) (H0 : Hp) (xs : List V) : Prop where
 go : ∀ i H,Same H0 H → i < xs.length → J.go i H
 yld : ∀ i H x H',Same H0 H → i < xs.length → J.yld i H x H' → H' = H ∧ xs[i]? = some x
 stop : ∀ H,Same H0 H → J.stop xs.length H
theorem JL {K : PySem.W.Frag} {a : Addr} {H : Hp} {xs : List V} (h : SqL K H a xs) : J9A (Itl K a) H xs where
 go := fun i H' s hi => ⟨xs,xs[i],s.seq h,by simp [hi]⟩
 yld := fun i H' x H'' s hi y => ⟨y.1,y.2 xs (s.seq h)⟩
 stop := fun H' s => ⟨xs,s.seq h,Nat.le_refl _⟩
theorem J1O {H : Hp} (lo : Int) (n : Nat) : J9A (Itr lo n) H ((List.range n).map fun i => .int (lo + (i : Nat))) where
 go := fun i H' s hi => by rw [List.length_map,List.length_range] at hi; exact hi
 yld := fun i H' x H'' s hi y => by
  rw [List.length_map,List.length_range] at hi
  refine ⟨y.1,?_⟩
  rw [List.getElem?_map,List.getElem?_range hi]
  exact congrArg some y.2.symm
 stop := fun H' s => by rw [List.length_map,List.length_range]; exact Nat.le_refl _
theorem JB {H : Hp} {p : Addr} (h : H p = none) (o : HO) : Same H (upd H p o) := fun b u q => by rw [Jj (Je q h)]; exact q
theorem Same.upd {H H' : Hp} {p : Addr} {o : HO} (s : Same H H') (h : H p = none) : Same H (upd H' p o) := fun b u q => by rw [Jj (Je q h)]; exact s b u q
theorem J8G {J : It} {H : Hp} {xs : List V} {σ0 : St} {k : Nat} {tc : TT} {te : TE} {Q : VK} (p : V → Bool) (f : V → V) (hJ : J9A J H xs) (hx : xs.length ≤ 1000000)
  (hc : ∀ x ∈ xs,∀ H',Same H H' → ∀ R : Bool → Hp → Prop,(∀ H'',Same H' H'' → R (p x) H'') → tc (σ0.set k (some x)) H' R)
  (he : ∀ x ∈ xs,p x = true → ∀ H',Same H H' → ∀ R : VK,(∀ H'',Same H' H'' → R (f x) H'') → te (σ0.set k (some x)) H' R)
  (hQ : ∀ D H',H D = none → Same H H' → H' D = some (.lst ((xs.filter p).map f)) → Q (.ref D) H') :
  J5W J H σ0 (J4P k) tc te Q := by
 intro D hD
 refine ⟨fun i m σ1 ys H' => m = xs.length - i ∧ i ≤ xs.length ∧ (σ1 = σ0 ∨ ∃ v,σ1 = σ0.set k v) ∧ ys = ((xs.take i).filter p).map f ∧ H' D = some (.lst ys) ∧ Same H H',⟨xs.length,by simp,Nat.zero_le _,.inl rfl,rfl,Jd,JB hD _⟩,?_⟩
 rintro i m σ1 ys H' ⟨rfl,hi,hσ,rfl,hDD,hs⟩
 by_cases hlt : i < xs.length
 ·refine .inr ⟨hJ.go i H' hs hlt,fun x H'' hy => ?_⟩
  obtain ⟨e1,hx1⟩ := hJ.yld i H' x H'' hs hlt hy
  subst e1
  have hm : x ∈ xs := List.mem_of_getElem? hx1
  have hset : σ1.set k (some x) = σ0.set k (some x) := by
   rcases hσ with rfl | ⟨v,rfl⟩
   ·rfl
   ·rw [List.set_set]
  show tc (σ1.set k (some x)) H'' _
  rw [hset]
  have tk : ((xs.take (i + 1)).filter p).map f = ((xs.take i).filter p).map f ++ (if p x = true then [f x] else []) := by
   rw [List.take_add_one,hx1,List.filter_append,List.map_append]
   cases hp : p x <;> simp [hp]
  refine hc x hm H'' hs _ fun H3 s3 => ?_
  have s03 : Same H H3 := hs.trans s3
  have lenk : (((xs.take i).filter p).map f).length < sizeLine := by
   have h1 := List.length_filter_le p (xs.take i)
   rw [List.length_take] at h1
   rw [List.length_map]
   have : (1000001 : Nat) ≤ sizeLine := by decide
   omega
  refine ite2 (fun hp => ?_) (fun hp => ?_)
  ·refine he x hm hp H3 s03 _ fun H4 s4 => ⟨s4 _ _ (s3 _ _ hDD),lenk,xs.length - (i + 1),by omega,rfl,hlt,.inr ⟨_,rfl⟩,?_,?_,?_⟩
   ·rw [tk,if_pos hp]
   ·exact Jd
   ·exact (s03.trans s4).upd hD
  ·refine ⟨xs.length - (i + 1),by omega,rfl,hlt,.inr ⟨_,rfl⟩,?_,s3 _ _ hDD,s03⟩
   rw [tk,if_neg hp,List.append_nil]
 ·have e : i = xs.length := by omega
  subst e
  refine .inl ⟨hJ.stop H' hs,hQ D H' hD hs ?_⟩
  rw [hDD,List.take_length]
end L2
set_option linter.all false
set_option maxRecDepth 100000
set_option maxHeartbeats 4000000
namespace L2
open PySem PySem.Spec PyProof.Rows
noncomputable abbrev T (l : List Nat) : V := .str ⟨l.toArray⟩
theorem J1S {a b : List Nat} (h : T a = T b) : a = b := by
 have h1 : (⟨a.toArray⟩ : Str) = ⟨b.toArray⟩ := V.str.inj h
 have h2 : a.toArray = b.toArray := congrArg Str.cps h1
 simpa using h2
theorem J4M (l : List Nat) : (⟨l.toArray⟩ : Str).length = l.length := by simp [Str.length]
theorem Jct (a b : List Nat) : (⟨a.toArray⟩ : Str) ++ ⟨b.toArray⟩ = ⟨(a ++ b).toArray⟩ := by
 show (⟨a.toArray ++ b.toArray⟩ : Str) = _
 simp
section
variable {X : Cx}
theorem JU {x : Str} {l : List Nat} {j pos} (h : x = ⟨l.toArray⟩) : PE X (.Constant (.str x) j pos) (tC (T l)) := by subst h; exact Jfb
noncomputable def JfE : R2 := fun x y H Q => ∃ a b,x = T a ∧ y = T b ∧ a.length + b.length ≤ sizeLine ∧ Q (T (a ++ b)) H
theorem J2V : OpR X (binaryOp .Add) JfE := by
 intro pins s σ H x y v u Q I rx ry h
 obtain ⟨a,b,rfl,rfl,hz,q⟩ := h
 exact JaB pins s σ H _ _ v u Q I rx ry ⟨_,_,rfl,rfl,by rw [J4M,J4M]; exact hz,by rw [Jct]; exact q⟩
noncomputable def JfV : R2 := fun x y H Q => ∃ l i c,x = T l ∧ y = .int i ∧ l.length ≤ sizeLine ∧ atI l i = some c ∧ Q (T [c]) H
theorem J09 : IxR X JfV := by
 intro value slice pins s σ H x y v u Q I rx ry h hs
 obtain ⟨l,i,c,rfl,rfl,hz,he,q⟩ := h
 exact JeX value slice pins s σ H _ _ v u Q I rx ry ⟨_,i,c,rfl,rfl,by rw [J4M]; exact hz,by simpa using he,q⟩ hs
theorem Jah : OpR X (compareOp .In) (fun x y H Q => ∃ c m,x = T [c] ∧ y = T m ∧ Q (.bl (decide (c ∈ m))) H) := by
 intro pins s σ H x y v u Q I rx ry h
 obtain ⟨c,m,rfl,rfl,q⟩ := h
 refine J83 pins s σ H _ _ v u Q I rx ry ⟨_,_,rfl,rfl,?_⟩
 have e := StrLaws.found_one ⟨m.toArray⟩ c
 rw [show (!(Builtin.Str.occurrences ⟨m.toArray⟩ ⟨[c].toArray⟩ 0 (⟨m.toArray⟩ : Str).length 1).isEmpty) = decide (c ∈ m) from by simpa using e]
 exact q
theorem J84 : OpR X (compareOp .NotIn) (fun x y H Q => ∃ c m,x = T [c] ∧ y = T m ∧ Q (.bl (!decide (c ∈ m))) H) := by
 intro pins s σ H x y v u Q I rx ry h
 obtain ⟨c,m,rfl,rfl,q⟩ := h
 refine J90 pins s σ H _ _ v u Q I rx ry ⟨_,_,rfl,rfl,?_⟩
 have e := StrLaws.found_one ⟨m.toArray⟩ c
 rw [show (!(Builtin.Str.occurrences ⟨m.toArray⟩ ⟨[c].toArray⟩ 0 (⟨m.toArray⟩ : Str).length 1).isEmpty) = decide (c ∈ m) from by simpa using e]
 exact q
theorem J14 : J2m X (.builtin "len") (fun xs H Q => ∃ l,xs = [T l] ∧ l.length ≤ sizeLine ∧ Q (.int l.length) H) := by
 intro pins s σ H xs us Q I r h
 obtain ⟨l,rfl,hz,q⟩ := h
 exact J8V pins s σ H _ us Q I r ⟨_,rfl,by rw [J4M]; exact hz,by rw [J4M]; exact q⟩
end
noncomputable def cutN {α : Type} (xs : List α) (lo hi : Option Int) : List α := (xs.drop (HT.sIx xs.length 0 lo)).take (HT.sIx xs.length xs.length hi - HT.sIx xs.length 0 lo)
noncomputable def Jco (n : Nat) (d : Int) : Option Int → Int
 | none => d
 | some i => max 0 (min (if i < 0 then i + (n : Int) else i) (n : Int))
theorem J9K (n d : Nat) (o : Option Int) : Jco n (d : Int) o = ((HT.sIx n d o : Nat) : Int) := by
 cases o with
 | none => rfl
 | some i =>
  show max 0 (min (if i < 0 then i + (n : Int) else i) (n : Int)) = (((if i < 0 then (i + (n : Int)).toNat else min i.toNat n) : Nat) : Int)
  by_cases hi : i < 0
  ·rw [if_pos hi,if_pos hi]; omega
  ·rw [if_neg hi,if_neg hi]; omega
theorem Jfk (a b : Nat) : sliceRange (a : Int) (b : Int) 1 = (List.range (b - a)).map fun k => a + k := by
 unfold sliceRange
 simp only [show (1 : Int) > 0 by decide,if_true]
 have e1 : (if (a : Int) < (b : Int) then ((b : Int) - (a : Int) + 1 - 1) / 1 else 0).toNat = b - a := by
  split <;> simp <;> omega
 rw [e1]
 refine List.map_congr_left fun k _ => ?_
 omega
theorem J8F (lo hi : Option Int) (n : Nat) : Builtin.Str.strSliceIndices lo hi 1 n = (List.range (HT.sIx n n hi - HT.sIx n 0 lo)).map fun k => HT.sIx n 0 lo + k := by
 have e : Builtin.Str.strSliceIndices lo hi 1 n = sliceRange (Jco n ((0 : Nat) : Int) lo) (Jco n ((n : Nat) : Int) hi) 1 := by
  cases lo <;> cases hi <;> rfl
 rw [e,J9K,J9K,Jfk]
theorem JfQ (l : List Nat) (i k : Nat) : ((List.range k).map fun m => i + m).filterMap (fun j => l.toArray[j]?) = (l.drop i).take k := by
 induction k generalizing i with
 | zero => simp
 | succ k ih =>
  rw [List.range_succ_eq_map,List.map_cons,List.filterMap_cons,List.map_map]
  have e : ((fun m => i + m) ∘ Nat.succ) = fun m => (i + 1) + m := by funext m; simp; omega
  rw [e,ih (i + 1)]
  by_cases h : i < l.length
  ·have : l.toArray[i + 0]? = some l[i] := by simp [h]
   rw [this,List.drop_eq_getElem_cons h,List.take_succ_cons]
  ·have : l.toArray[i + 0]? = none := by simp; omega
   rw [this,List.drop_eq_nil_of_le (by omega),List.drop_eq_nil_of_le (by omega)]
   simp
theorem JbC {α : Type} {l : List α} {lo hi : Option Int} (h : (cutN l lo hi).length = l.length) : cutN l lo hi = l := by
 unfold cutN at h ⊢
 rw [List.length_take,List.length_drop] at h
 have h2 := HT.sIx_le l.length l.length (Nat.le_refl _) hi
 by_cases h0 : l.length = 0
 ·have : l = [] := List.length_eq_zero_iff.mp h0
  subst this; simp
 ·have e0 : HT.sIx l.length 0 lo = 0 := by omega
  rw [e0,List.drop_zero]
  exact List.take_of_length_le (by omega)
theorem JbJ (l : List Nat) (lo hi : Option Int) : Txt.slice ⟨l.toArray⟩ lo hi = ⟨(cutN l lo hi).toArray⟩ := by
 unfold Txt.slice
 rw [J4M,J8F]
 have e := JfQ l (HT.sIx l.length 0 lo) (HT.sIx l.length l.length hi - HT.sIx l.length 0 lo)
 have e2 : ((List.range (HT.sIx l.length l.length hi - HT.sIx l.length 0 lo)).map fun k => HT.sIx l.length 0 lo + k).filterMap (fun x => (⟨l.toArray⟩ : Str).cps[x]?) = cutN l lo hi := e
 by_cases h : ((1 : Int) == 1 && ((List.range (HT.sIx l.length l.length hi - HT.sIx l.length 0 lo)).map fun k => HT.sIx l.length 0 lo + k).length == l.length) = true
 ·rw [if_pos h]
  have h' : HT.sIx l.length l.length hi - HT.sIx l.length 0 lo = l.length := by
   have := ((Bool.and_eq_true _ _).mp h).2
   simpa using this
  have : (cutN l lo hi).length = l.length := by
   unfold cutN
   rw [List.length_take,List.length_drop]
   have := HT.sIx_le l.length l.length (Nat.le_refl _) hi
   omega
  rw [JbC this]
 ·rw [if_neg h,e2]
section
variable {X : Cx}
noncomputable def rSlS : V → Option Int → Option Int → Hp → VK → Prop := fun x lo hi H Q => ∃ l,x = T l ∧ l.length ≤ sizeLine ∧ Q (T (cutN l lo hi)) H
theorem J3V : SlR X rSlS := by
 intro pins s σ H x v vl vu lo hi sl Q I rx hs pl pu h
 obtain ⟨l,rfl,hz,q⟩ := h
 obtain ⟨t,rfl⟩ := rx
 refine ⟨"str",_,F.slot_str_getitem.lookup,typeIs_str _ _ _,?_⟩
 have fin : ∀ t' k,EP X pins σ Q (.str (Txt.slice ⟨l.toArray⟩ lo hi) t') { s with toks := k } := fun t' k => ⟨T (cutN l lo hi),H,I.tok _,⟨t',by rw [JbJ]⟩,q⟩
 have hlen : (Txt.slice ⟨l.toArray⟩ lo hi).length ≤ sizeLine := Nat.le_trans (Txt.slice_le _ _ _) (by rw [J4M]; exact hz)
 cases pl with
 | none =>
  cases pu with
  | none => exact wpAny_getItem_str_slice (l := none) (u := none) (st := none) hs rfl (post_val_or_str ⟨hlen,fin⟩)
  | int j uj => exact wpAny_getItem_str_slice (l := none) (u := some (j,uj)) (st := none) hs rfl (post_val_or_str ⟨hlen,fin⟩)
 | int i ui =>
  cases pu with
  | none => exact wpAny_getItem_str_slice (l := some (i,ui)) (u := none) (st := none) hs rfl (post_val_or_str ⟨hlen,fin⟩)
  | int j uj => exact wpAny_getItem_str_slice (l := some (i,ui)) (u := some (j,uj)) (st := none) hs rfl (post_val_or_str ⟨hlen,fin⟩)
end
noncomputable def Its (l : List Nat) : It := ⟨fun i _ => i < l.length,fun i H x H' => H' = H ∧ ∃ c,l[i]? = some c ∧ x = T [c],fun i _ => l.length ≤ i⟩
theorem JcW {P : Program} {w : World} {K : PySem.W.Frag} {tg : Expr} {it : Addr} {l : List Nat} {t : Tok} {nm : String} (hn : nm = "str_ascii_iterator" ∨ nm = "str_iterator") :
  Turn P w K tg (Its l) [it] it (fun i h => h.IsStrIter it nm ⟨l.toArray⟩ t i) where
 mem := by simp
 obj := fun i h st b hb => by
  have e : b = it := by simpa using hb
  subst e
  obtain ⟨o,e,c,d⟩ := st
  exact ⟨o,e,fun v z => by rw [d] at z; cases z⟩
 keep := fun i h h' st k => by
  obtain ⟨o,e,r⟩ := st
  exact ⟨o,k it (by simp) o e,r⟩
 item := by
  intro X hP hw hK hc i pins s σ H E I hf st hg
  subst hP hw hK
  obtain ⟨f0,f1,f2,f3,f4,f5⟩ := hf it (by simp)
  have hi : i < l.length := hg
  have hx : (⟨l.toArray⟩ : Str).cps[i]? = some l[i] := by simp [hi]
  have fin : ∀ h',h'.IsStrIter it nm ⟨l.toArray⟩ t (i + 1) → Heap.SameBut it s.heap h' → ∃ u,(some (Value.str ⟨#[l[i]]⟩ s.toks) : Option Value) = some u ∧
    wpAny (model X.prog X.w) X.A (letOwnedTupleGo tg (.ref it) u) (fun _ s2 => ∃ x H',Inv X pins σ H' s2 ∧ RelV x u ∧ (Its l).yld i H x H' ∧ s2.heap.IsStrIter it nm ⟨l.toArray⟩ t (i + 1) ∧ ∀ b ∈ [it],H' b = none) E { s with heap := h',toks := s.toks + 1 } := fun h' st' sb => by
   have I1 : Inv X pins σ H { s with heap := h',toks := s.toks + 1 } := I.turned (t' := s.toks + 1) (fun b o hb e => (sb.2 b hb).trans e) f0 f1 f3 f4 f5
   obtain ⟨o,e,c,d⟩ := id st'
   refine ⟨_,rfl,Jdl (s := { s with heap := h',toks := s.toks + 1 }) e c d (by rcases hn with rfl | rfl <;> decide) ⟨T [l[i]],H,I1,⟨_,rfl⟩,⟨rfl,l[i],by simp [hi],rfl⟩,st',fun b hb => (hf b hb).1⟩⟩
  rcases hn with rfl | rfl
  ·exact wpAny_pyNext_ascii_item st hx fin
  ·exact wpAny_pyNext_wide_item st hx fin
 done := by
  intro X hP hw hK hc i pins s σ H E I hf st hg
  subst hP hw hK
  obtain ⟨f0,f1,f2,f3,f4,f5⟩ := hf it (by simp)
  have hi : l.length ≤ i := hg
  have hx : (⟨l.toArray⟩ : Str).cps[i]? = none := by simp; exact hi
  have fin : ∀ h',Heap.ExtBut it s.heap h' → (none : Option Value) = none ∧ Inv X pins σ H { s with heap := h' } := fun h' eb => ⟨rfl,I.turned (t' := s.toks) (fun b o hb e => eb b o hb e) f0 f1 f3 f4 f5⟩
  rcases hn with rfl | rfl
  ·exact wpAny_pyNext_ascii_end (I.ok.hd hc) st hx fin
  ·exact wpAny_pyNext_wide_end (I.ok.hd hc) st hx fin
 self := fun _ _ _ _ _ st h => by
  rcases hn with rfl | rfl
  ·exact wpAny_pyIter_striter_ascii st h
  ·exact wpAny_pyIter_striter_wide st h
section
variable {X : Cx} {tg : Expr}
noncomputable def iTxt (tl : TE) : TI := fun σ H R => tl σ H fun x H1 => ∃ l,x = T l ∧ R (Its l) H1
theorem J5E {e : Expr} {tl : TE} (hl : PE X e tl) : PI X tg e (iTxt tl) := by
 intro pins s σ H R I h
 refine thn (hl pins s σ H _ I h) fun v s1 ⟨x,H1,I1,r1,q1⟩ => ?_
 obtain ⟨l,e,q⟩ := q1
 subst e
 obtain ⟨t,rfl⟩ := r1
 have fin : ∀ nm : String,(nm = "str_ascii_iterator" ∨ nm = "str_iterator") → PIE X pins σ tg R (.ref s1.heap.objs.size) { s1 with heap := s1.heap.push { cls := .type nm,data := .fields #[.str ⟨l.toArray⟩ t,.int 0 0] } } := fun nm hn => by
  refine ⟨s1.heap.objs.size,[s1.heap.objs.size],_,_,H1,rfl,I1.kept (t' := s1.toks) fun b o e => Heap.get?_push_of_some _ e,JcW (t := t) hn,⟨_,Heap.get?_push_size _ rfl,rfl,rfl⟩,fun b hb => ?_,q⟩
  have e : b = s1.heap.objs.size := by simpa using hb
  subst e
  exact I1.fpOk (Nat.le_refl _) (I1.hok.fresh (Nat.le_refl _))
 cases ha : (⟨l.toArray⟩ : Str).cps.all (· < 128) with
 | true => exact wpAny_pyIter_ascii ha (fin _ (.inl rfl))
 | false => exact wpAny_pyIter_wide ha (fin _ (.inr rfl))
end
theorem J3Z {H : Hp} (l : List Nat) : J9A (Its l) H (l.map fun c => T [c]) where
 go := fun i H' s hi => by rw [List.length_map] at hi; exact hi
 yld := fun i H' x H'' s hi y => by
  obtain ⟨e,c,hc,rfl⟩ := y
  exact ⟨e,by rw [List.getElem?_map,hc]; rfl⟩
 stop := fun H' s => by rw [List.length_map]; exact Nat.le_refl _
theorem Jb4 {l : List Nat} {g : TG} {tb : TS} {D : Ends} {σ : St} {H : Hp} (Pv : Nat → St → Hp → Prop) (h0 : Pv 0 σ H)
  (hs : ∀ i c σ H,l[i]? = some c → Pv i σ H → g (T [c]) σ H fun σ2 H2 => tb { D with nx := Pv (i + 1),ct := Pv (i + 1),bk := D.nx } σ2 H2) (hd : ∀ σ H,Pv l.length σ H → D.nx σ H) :
  ∃ W : Nat → Nat → St → Hp → Prop,(∃ m,W 0 m σ H) ∧ ∀ i m σ H,W i m σ H →
   ((Its l).stop i H ∧ D.nx σ H) ∨ ((Its l).go i H ∧ ∃ N : St → Hp → Prop,(∀ σ' H',N σ' H' → ∃ m',m' < m ∧ W (i + 1) m' σ' H') ∧ ∀ x H',(Its l).yld i H x H' → g x σ H' fun σ2 H2 => tb { D with nx := N,ct := N,bk := D.nx } σ2 H2) := by
 refine ⟨fun i m σ H => m = l.length - i ∧ i ≤ l.length ∧ Pv i σ H,⟨l.length,by simp,Nat.zero_le _,h0⟩,?_⟩
 rintro i m σ H ⟨rfl,hi,p⟩
 by_cases hlt : i < l.length
 ·refine .inr ⟨hlt,Pv (i + 1),fun σ' H' p' => ⟨l.length - (i + 1),by omega,rfl,hlt,p'⟩,fun x H' y => ?_⟩
  obtain ⟨e,c,hc,rfl⟩ := y
  subst e
  exact hs i c σ _ hc p
 ·have e : i = l.length := by omega
  subst e
  exact .inl ⟨Nat.le_refl _,hd σ H p⟩
theorem J7W : ∀ {ts : List (List Nat)} {us : List Value},Vals (ts.map T) us → PyProof.Rows.StrsAre us (ts.map fun l => ⟨l.toArray⟩)
 | [],_,h => by cases h; exact .nil
 | l :: r,_,h => by
  cases h with
  | cons r1 r2 =>
   obtain ⟨t,rfl⟩ := r1
   exact .cons _ t (J7W r2)
noncomputable def J7j (sep : List Nat) : List (List Nat) → List Nat
 | [] => []
 | [x] => x
 | x :: y :: r => x ++ sep ++ J7j sep (y :: r)
theorem Ja2 (sep : List Nat) : ∀ ts : List (List Nat),Str.join ⟨sep.toArray⟩ (ts.map fun l => ⟨l.toArray⟩) = ⟨(J7j sep ts).toArray⟩
 | [] => rfl
 | [x] => rfl
 | x :: y :: r => by
  show (⟨x.toArray⟩ : Str) ++ ⟨sep.toArray⟩ ++ Str.join ⟨sep.toArray⟩ ((y :: r).map fun l => ⟨l.toArray⟩) = _
  rw [Ja2 sep (y :: r),Jct,Jct]
  rfl
theorem J2G : ∀ ts : List (List Nat),J7j [] ts = ts.flatten
 | [] => rfl
 | [x] => by simp [J7j]
 | x :: y :: r => by
  show x ++ [] ++ J7j [] (y :: r) = _
  rw [J2G (y :: r),List.append_nil]
  rfl
theorem J3d : ∀ cs : List Nat,(((cs.map fun c => [c]).map List.length).sum) = cs.length
 | [] => rfl
 | c :: r => by
  rw [List.map_cons,List.map_cons,List.sum_cons,J3d r]
  simp
  omega
theorem J2E : ∀ cs : List Nat,(cs.map fun c => [c]).flatten = cs
 | [] => rfl
 | c :: r => by
  rw [List.map_cons,List.flatten_cons,J2E r]
  rfl
section
variable {X : Cx}
noncomputable def Jd8 (K : PySem.W.Frag) : V → List V → Hp → VK → Prop := fun x vs H Q => ∃ sep ts D,x = T sep ∧ vs = [.ref D] ∧ SqL K H D (ts.map T) ∧ (ts.map List.length).sum + ts.length * sep.length ≤ 16777216 ∧ Q (T (J7j sep ts)) H
theorem JdF : MtR X "str.join" (Jd8 X.K) := by
 intro pins s σ H x vs v us Q I rx rv h
 obtain ⟨sep,ts,D,rfl,rfl,hq,hz,q⟩ := h
 obtain ⟨t,rfl⟩ := rx
 obtain ⟨u,rfl,ru⟩ := rv.one
 cases ru
 obtain ⟨its,r,pl,_⟩ := I.list hq
 refine join_list (ys := ts.map fun l => ⟨l.toArray⟩) pl.isList (by simpa using J7W r) ?_ fun t' k => ⟨T (J7j sep ts),H,I.tok _,⟨t',?_⟩,q⟩
 ·rw [List.map_map,List.length_map,J4M]
  have e : ((fun x => x.length) ∘ fun l : List Nat => (⟨l.toArray⟩ : Str)) = List.length := by funext l; exact J4M l
  rw [e]
  exact hz
 ·rw [← Ja2]
  show Value.str (Builtin.Str.glued _ _) t' = _
  rw [StrLaws.glued_eq_join]
end
theorem JdL {X : Cx} {o e : Expr} {to : TE} {t : TA} {apos cpos : Pos} (ho : PE X o to) (ha : PA X [e] t)
  (hbase : attributeBase o "join" X.env (eval o X.env) = eval o X.env := by rfl)
  (hfew : ((backTo cpos (starEach [e] X.env)).all (fun x => !x.1) && (backToKw cpos (keywordEach [] X.env)).all (fun x => x.1.isSome)
   && decide ([e].length + ([] : List Keyword).length + (if ([] : List Keyword).isEmpty then 0 else 1) < 30)) = true := by rfl)
  (hline : (apos.endLine == cpos.line) = true := by rfl) (hs : starEach [e] X.env = (false,eval e X.env) :: starEach [] X.env := by rfl) (hplain : (backTo cpos (starEach [] X.env)).any (·.1) = false := by rfl) :
  PE X (.Call (.Attribute o "join" apos) [e] [] cpos) (tBM X.K "str" (Jd8 X.K) to t) :=
 J4N F.plainAttrs_str F.slot_str_join F.type_str_join JdF ho ha hbase hfew hline hs hplain
theorem JcZ {bs : List Bool} {us : List Value} (h : Vals (bs.map V.bl) us) : us = bs.map Value.bool := by
 induction bs generalizing us with
 | nil => cases h; rfl
 | cons b r ih =>
  cases h with
  | cons r1 r2 =>
   cases r1
   rw [ih r2]; rfl
theorem Jbt (bs : List Bool) : (List.range bs.length).all (fun i => bs.getD i false) = bs.all id := by
 rw [Bool.eq_iff_iff,List.all_eq_true,List.all_eq_true]
 constructor
 ·intro h b hb
  obtain ⟨i,hi,rfl⟩ := List.mem_iff_getElem.mp hb
  have := h i (List.mem_range.mpr hi)
  simpa [List.getD_eq_getElem?_getD,hi] using this
 ·intro h i hi
  have hi := List.mem_range.mp hi
  have := h bs[i] (List.getElem_mem hi)
  simpa [List.getD_eq_getElem?_getD,hi] using this
section
variable {X : Cx}
theorem JbX (bs : List Bool) {A : Around} : TruthOf X.prog X.w A (fun i v => (bs.map Value.bool).toArray[i]? = some v) (fun i => bs.getD i false) := fun i v s Q E hP hQ => by
 have : ∃ b,bs[i]? = some b ∧ v = .bool b := by
  have hP' : (bs.map Value.bool).toArray[i]? = some v := hP
  rw [List.getElem?_toArray,List.getElem?_map] at hP'
  cases hb : bs[i]? with
  | none => rw [hb] at hP'; cases hP'
  | some b => rw [hb] at hP'; exact ⟨b,rfl,(Option.some.inj hP').symm⟩
 obtain ⟨b,hb,rfl⟩ := this
 refine wpAny_truthy_bool ?_
 simpa [List.getD_eq_getElem?_getD,hb] using hQ
theorem JbY (hc : X.calm = true) : J2m X (.builtin "all") (fun xs H Q => ∃ (D : Addr) (bs : List Bool),xs = [.ref D] ∧ SqL X.K H D (bs.map V.bl) ∧ Q (.bl (bs.all id)) H) := by
 intro pins s σ H xs us Q I r h
 obtain ⟨D,bs,rfl,hq,q⟩ := h
 obtain ⟨u,rfl,ru⟩ := r.one
 cases ru
 obtain ⟨its,rv,pl,_⟩ := I.list hq
 obtain rfl := JcZ rv
 have hD : D < s.heap.objs.size := by obtain ⟨o,n,e,_⟩ := pl; exact Heap.lt_size e
 refine call_all_walk (wpAny_pyIter_list pl.isList ⟨s.heap.objs.size,_,_,_,_,_,fun i => bs.getD i false,rfl,Walks.list (A := X.A.in1) (I.ok.hd hc) _ D (Nat.ne_of_lt hD) (bs.map Value.bool).toArray,
  ⟨⟨_,Heap.get?_push_size _ rfl,rfl,rfl⟩,pl.isList.push _⟩,JbX bs,fun h' tk hk => ?_⟩)
 rw [List.size_toArray,List.length_map,Jbt]
 exact ⟨.bl (bs.all id),H,I.kept fun b o e => hk b o (by simpa using Nat.ne_of_lt (Heap.lt_size e)) (Heap.get?_push_of_some _ e),rfl,q⟩
theorem J89 : J2m X (.builtin "isinstance") (fun xs H Q => (∃ b,xs = [.bl b,.ty "bool"] ∧ Q (.bl true) H) ∨ (∃ i,xs = [.int i,.ty "bool"] ∧ Q (.bl false) H) ∨ (∃ i,xs = [.int i,.ty "int"] ∧ Q (.bl true) H) ∨ (∃ x,xs = [.str x,.ty "str"] ∧ Q (.bl true) H) ∨
  (∃ p ys,xs = [.ref p,.ty "list"] ∧ H p = some (.lst ys) ∧ Q (.bl true) H)) := by
 intro pins s σ H xs us Q I r h
 rcases h with ⟨b,rfl,q⟩ | ⟨i,rfl,q⟩ | ⟨i,rfl,q⟩ | ⟨x,rfl,q⟩ | ⟨p,ys,rfl,hp,q⟩
 ·obtain ⟨u,v,rfl,r1,r2⟩ := r.two
  cases r1; cases r2
  exact PySem.W.kia_one PySem.W.kitx_bool I.kIn True.intro (by rfl) (fun z => nomatch z) fun tk => ⟨.bl true,H,I.tok _,rfl,q⟩
 ·obtain ⟨u,v,rfl,r1,r2⟩ := r.two
  obtain ⟨t,rfl⟩ := r1; cases r2
  exact PySem.W.kia_one PySem.W.kitx_int I.kIn True.intro (by rfl) (fun z => nomatch z) fun tk => ⟨.bl false,H,I.tok _,rfl,q⟩
 ·obtain ⟨u,v,rfl,r1,r2⟩ := r.two
  obtain ⟨t,rfl⟩ := r1; cases r2
  exact PySem.W.kia_one PySem.W.kitx_int I.kIn True.intro (by rfl) (fun z => nomatch z) fun tk => ⟨.bl true,H,I.tok _,rfl,q⟩
 ·obtain ⟨u,v,rfl,r1,r2⟩ := r.two
  obtain ⟨t,rfl⟩ := r1; cases r2
  exact PySem.W.kia_one PySem.W.kitx_str I.kIn True.intro (by rfl) (fun z => nomatch z) fun tk => ⟨.bl true,H,I.tok _,rfl,q⟩
 ·obtain ⟨u,v,rfl,r1,r2⟩ := r.two
  cases r1; cases r2
  obtain ⟨_,its,n,_,h1⟩ := I.hok p _ hp
  exact PySem.W.kia_one PySem.W.kitx_list I.kIn ⟨_,h1,rfl⟩ (by rfl) (fun z => nomatch z) fun tk => ⟨.bl true,H,I.tok _,rfl,q⟩
end
end L2
set_option linter.all false
set_option maxRecDepth 100000
set_option maxHeartbeats 4000000
namespace L2
open PySem PySem.Spec PyProof.Rows
open Builtin Builtin.Str
section
variable {prog : Program} {w : World} {A : Around} {E : Value → Shared → Prop} {s : Shared}
structure J3U (z TI TO i1 i2 : Addr) : Prop where
 TIz : TI ≠ z
 TOz : TO ≠ z
 i1z : i1 ≠ z
 i2z : i2 ≠ z
 TITO : TI ≠ TO
 TIi1 : TI ≠ i1
 TIi2 : TI ≠ i2
 TOi1 : TO ≠ i1
 TOi2 : TO ≠ i2
 i12 : i1 ≠ i2
theorem J7c (n : Nat) : J3U (n + 4) (n + 2) (n + 3) n (n + 1) :=
 ⟨Nat.ne_of_lt (by omega),Nat.ne_of_lt (by omega),Nat.ne_of_lt (by omega),Nat.ne_of_lt (by omega),Nat.ne_of_lt (by omega),Nat.ne_of_gt (by omega),Nat.ne_of_gt (by omega),Nat.ne_of_gt (by omega),Nat.ne_of_gt (by omega),Nat.ne_of_lt (by omega)⟩
theorem JbE {z TI TO i1 i2 : Addr} {k n1 n2 : Nat} {P1 P2 : Nat → Value → Prop} {St1 St2 : Nat → Heap → Prop} {a b : Value} {Q : Value → Shared → Prop} (F : J3U z TI TO i1 i2)
  (D1 : Draws prog w A i1 [i1] n1 P1 St1) (D2 : Draws prog w A i2 [i2] n2 P2 St2)
  (hz : IsZip s.heap z TI TO .none) (hTI : IsPair s.heap TI (.ref i1) (.ref i2)) (hTO : IsPair s.heap TO a b)
  (h1 : St1 k s.heap) (h2 : St2 k s.heap) (hk1 : k < n1) (hk2 : k < n2)
  (hQ : ∀ x y h' tk,P1 k x → P2 k y → IsZip h' z TI TO (rawInt s.heap.objs.size) → IsPair h' TO x y → St1 (k + 1) h' → St2 (k + 1) h' → IsPair h' s.heap.objs.size x y → h'.objs.size = s.heap.objs.size + 1 →
   (∀ c o,c ≠ z → c ≠ TO → c ≠ i1 → c ≠ i2 → s.heap.get? c = some o → h'.get? c = some o) → Q (.ref s.heap.objs.size) { s with heap := h',toks := tk }) :
  wpAny (model prog w) A (Builtin.«zip.__next__» ⟨[.ref z],[]⟩) (fun fin s' => ∃ v,fin = .done (.ret v) ∧ Q v s') E s := by
 have fr1 : ∀ i h h',St1 i h → (∀ o,h.get? i1 = some o → h'.get? i1 = some o) → St1 i h' := fun i h h' st hk => D1.frame i h h' st fun b hb o e => by
  have : b = i1 := by simpa using hb
  subst this; exact hk o e
 have fr2 : ∀ i h h',St2 i h → (∀ o,h.get? i2 = some o → h'.get? i2 = some o) → St2 i h' := fun i h h' st hk => D2.frame i h h' st fun b hb o e => by
  have : b = i2 := by simpa using hb
  subst this; exact hk o e
 show wpAny _ _ (field (.ref z) 2 >>= _) _ _ _
 refine wpAny_bind (wpAny_field hz rfl (x := .bool false) rfl ?_)
 show wpAny _ _ (field (.ref z) 3 >>= _) _ _ _
 refine wpAny_bind (wpAny_field hz rfl (x := .ref TI) rfl ?_)
 refine wpAny_bind (wpAny_seqItems hTI rfl ?_)
 show wpAny _ _ (Builtin.SmallTypes.ownedTupleIsFree (.ref z) >>= _) _ _ _
 refine wpAny_bind ?_
 unfold Builtin.SmallTypes.ownedTupleIsFree
 refine wpAny_bind (wpAny_field hz rfl (x := .none) rfl (wpAny_pure ?_))
 simp only [if_true]
 refine wpAny_bind (wpAny_rule ?_)
 refine wpAny_bind (wpAny_field hz rfl (x := .ref TO) rfl ?_)
 refine wpAny_bind (wpAny_setField_rec hz (by simp) fun h₁ hz₁ hs₁ => ?_)
 replace hz₁ : IsZip h₁ z TI TO .ellipsis := hz₁
 refine wpAny_bind ?_
 simp only [List.zipIdx_cons,List.zipIdx_nil,List.forIn_cons,List.forIn_nil]
 refine wpAny_bind (wpAny_bind (wpAny_onRaise ?_))
 show wpAny _ _ (Builtin.SmallTypes.nextOf (.ref i1) >>= _) _ _ _
 refine wpAny_bind (D1.item k _ _ _ hk1 (fr1 _ _ _ h1 fun o e => hs₁.extBut _ _ F.i1z e) fun x h₂ tk₂ hx h1₂ hs₂ => wpAny_pure ?_)
 replace hs₂ : Heap.SameBut i1 h₁ h₂ := hs₂
 have hTO₂ : IsPair h₂ TO a b := hs₂.extBut _ _ F.TOi1 (hs₁.extBut _ _ F.TOz hTO)
 refine wpAny_bind (wpAny_seqItems hTO₂ rfl ?_)
 refine wpAny_bind (wpAny_updateSeq_pair hTO₂ fun h₃ hTO₃ hs₃ => ?_)
 replace hTO₃ : IsPair h₃ TO x b := hTO₃
 replace hs₃ : Heap.SameBut TO h₂ h₃ := hs₃
 refine wpAny_bind (wpAny_letGo (wpAny_pure ?_))
 refine wpAny_bind (wpAny_bind (wpAny_onRaise ?_))
 show wpAny _ _ (Builtin.SmallTypes.nextOf (.ref i2) >>= _) _ _ _
 refine wpAny_bind (D2.item k _ _ _ hk2 (fr2 _ _ _ h2 fun o e => hs₃.extBut _ _ F.TOi2.symm (hs₂.extBut _ _ F.i12.symm (hs₁.extBut _ _ F.i2z e))) fun y h₄ tk₄ hy h2₄ hs₄ => wpAny_pure ?_)
 replace hs₄ : Heap.SameBut i2 h₃ h₄ := hs₄
 have hTO₄ : IsPair h₄ TO x b := hs₄.extBut _ _ F.TOi2 hTO₃
 refine wpAny_bind (wpAny_seqItems hTO₄ rfl ?_)
 refine wpAny_bind (wpAny_updateSeq_pair hTO₄ fun h₅ hTO₅ hs₅ => ?_)
 replace hTO₅ : IsPair h₅ TO x y := hTO₅
 replace hs₅ : Heap.SameBut TO h₄ h₅ := hs₅
 refine wpAny_bind (wpAny_letGo (wpAny_pure (wpAny_pure ?_)))
 refine wpAny_bind (wpAny_seqItems hTO₅ rfl ?_)
 refine wpAny_bind (wpAny_newTuple ?_)
 have hsz : h₅.objs.size = s.heap.objs.size := by rw [hs₅.1,hs₄.1,hs₃.1,hs₂.1,hs₁.1]
 have hz₅ : IsZip h₅ z TI TO .ellipsis := hs₅.extBut _ _ F.TOz.symm (hs₄.extBut _ _ F.i2z.symm (hs₃.extBut _ _ F.TOz.symm (hs₂.extBut _ _ F.i1z.symm hz₁)))
 have hk₅ : ∀ c o,c ≠ z → c ≠ TO → c ≠ i1 → c ≠ i2 → s.heap.get? c = some o → h₅.get? c = some o := fun c o c1 c2 c3 c4 e =>
  hs₅.extBut _ _ c2 (hs₄.extBut _ _ c4 (hs₃.extBut _ _ c2 (hs₂.extBut _ _ c3 (hs₁.extBut _ _ c1 e))))
 have h1₅ : St1 (k + 1) h₅ := fr1 _ _ _ h1₂ fun o e => hs₅.extBut _ _ F.TOi1.symm (hs₄.extBut _ _ F.i12 (hs₃.extBut _ _ F.TOi1.symm e))
 have h2₅ : St2 (k + 1) h₅ := fr2 _ _ _ h2₄ fun o e => hs₅.extBut _ _ F.TOi2.symm e
 have hzlt : z < h₅.objs.size := Heap.lt_size hz₅
 show wpAny _ _ (Builtin.SmallTypes.ownedTupleHandOut (.ref z) (.ref h₅.objs.size) >>= _) _ _ _
 refine wpAny_bind ?_
 unfold Builtin.SmallTypes.ownedTupleHandOut
 have hz₆ : IsZip (h₅.push { cls := .type "tuple",data := .seq #[x,y] }) z TI TO .ellipsis := Heap.get?_push_of_some _ hz₅
 refine wpAny_bind (wpAny_setField_rec hz₆ (by simp) fun h₇ hz₇ hs₇ => ?_)
 replace hz₇ : IsZip h₇ z TI TO (rawInt h₅.objs.size) := hz₇
 replace hs₇ : Heap.SameBut z (h₅.push { cls := .type "tuple",data := .seq #[x,y] }) h₇ := hs₇
 refine wpAny_setField_rec hz₇ (by simp) fun h₈ hz₈ hs₈ => ?_
 replace hz₈ : IsZip h₈ z TI TO (rawInt h₅.objs.size) := hz₈
 replace hs₈ : Heap.SameBut z h₇ h₈ := hs₈
 have up : ∀ c o,c ≠ z → h₅.get? c = some o → h₈.get? c = some o := fun c o c1 e => hs₈.extBut _ _ c1 (hs₇.extBut _ _ c1 (Heap.get?_push_of_some _ e))
 have hT₈ : IsPair h₈ h₅.objs.size x y := hs₈.extBut _ _ (Nat.ne_of_gt hzlt) (hs₇.extBut _ _ (Nat.ne_of_gt hzlt) (Heap.get?_push_size _ rfl))
 have hz8 : h₈.objs.size = h₅.objs.size + 1 := by rw [hs₈.1,hs₇.1,Heap.size_push]
 rw [hsz] at hz₈ hT₈ hz8
 refine wpAny_pure ⟨_,rfl,?_⟩
 show Q (.ref h₅.objs.size) _
 rw [hsz]
 exact hQ x y h₈ tk₄ hx hy hz₈ (up _ _ F.TOz hTO₅) (fr1 _ _ _ h1₅ fun o e => up _ o F.i1z e) (fr2 _ _ _ h2₅ fun o e => up _ o F.i2z e) hT₈ hz8 fun c o c1 c2 c3 c4 e => up c o c1 (hk₅ c o c1 c2 c3 c4 e)
theorem JcJ {z TI TO i1 i2 : Addr} {k n1 n2 : Nat} {P1 P2 : Nat → Value → Prop} {St1 St2 : Nat → Heap → Prop} {a b : Value} {Q : Fin → Shared → Prop} (F : J3U z TI TO i1 i2)
  (D1 : Draws prog w A i1 [i1] n1 P1 St1) (D2 : Draws prog w A i2 [i2] n2 P2 St2)
  (hz : IsZip s.heap z TI TO .none) (hTI : IsPair s.heap TI (.ref i1) (.ref i2)) (hTO : IsPair s.heap TO a b)
  (h1 : St1 k s.heap) (h2 : St2 k s.heap) (hend : k = n1 ∨ (k < n1 ∧ k = n2))
  (hE : ∀ h' tk e,(∀ c o,c ≠ z → c ≠ TO → c ≠ i1 → c ≠ i2 → s.heap.get? c = some o → h'.get? c = some o) → (∃ o,h'.get? e = some o ∧ o.cls = .type "StopIteration") → E (.ref e) { s with heap := h',toks := tk }) :
  wpAny (model prog w) A (Builtin.«zip.__next__» ⟨[.ref z],[]⟩) Q E s := by
 have fr1 : ∀ i h h',St1 i h → (∀ o,h.get? i1 = some o → h'.get? i1 = some o) → St1 i h' := fun i h h' st hk => D1.frame i h h' st fun b hb o e => by
  have : b = i1 := by simpa using hb
  subst this; exact hk o e
 have fr2 : ∀ i h h',St2 i h → (∀ o,h.get? i2 = some o → h'.get? i2 = some o) → St2 i h' := fun i h h' st hk => D2.frame i h h' st fun b hb o e => by
  have : b = i2 := by simpa using hb
  subst this; exact hk o e
 show wpAny _ _ (field (.ref z) 2 >>= _) _ _ _
 refine wpAny_bind (wpAny_field hz rfl (x := .bool false) rfl ?_)
 show wpAny _ _ (field (.ref z) 3 >>= _) _ _ _
 refine wpAny_bind (wpAny_field hz rfl (x := .ref TI) rfl ?_)
 refine wpAny_bind (wpAny_seqItems hTI rfl ?_)
 show wpAny _ _ (Builtin.SmallTypes.ownedTupleIsFree (.ref z) >>= _) _ _ _
 refine wpAny_bind ?_
 unfold Builtin.SmallTypes.ownedTupleIsFree
 refine wpAny_bind (wpAny_field hz rfl (x := .none) rfl (wpAny_pure ?_))
 simp only [if_true]
 refine wpAny_bind (wpAny_rule ?_)
 refine wpAny_bind (wpAny_field hz rfl (x := .ref TO) rfl ?_)
 refine wpAny_bind (wpAny_setField_rec hz (by simp) fun h₁ hz₁ hs₁ => ?_)
 replace hz₁ : IsZip h₁ z TI TO .ellipsis := hz₁
 refine wpAny_bind ?_
 simp only [List.zipIdx_cons,List.zipIdx_nil,List.forIn_cons,List.forIn_nil]
 refine wpAny_bind (wpAny_bind (wpAny_onRaise ?_))
 show wpAny _ _ (Builtin.SmallTypes.nextOf (.ref i1) >>= _) _ _ _
 rcases hend with hk | ⟨hk1,hk⟩
 ·subst hk
  refine wpAny_bind (D1.done _ _ _ (fr1 _ _ _ h1 fun o e => hs₁.extBut _ _ F.i1z e) fun h₂ e hs₂ he => ?_)
  obtain ⟨oe,hoe,hce⟩ := he
  replace hs₂ : Heap.ExtBut i1 h₁ h₂ := hs₂
  have hz₂ : IsZip h₂ z TI TO .ellipsis := hs₂ _ _ F.i1z.symm hz₁
  have hez : e ≠ z := fun x => by subst x; rw [hz₂] at hoe; cases hoe; simp at hce
  exact wpAny_setField_rec hz₂ (by simp) fun h₃ _ hs₃ => hE h₃ _ e (fun c o c1 _ c3 _ x => hs₃.extBut _ _ c1 (hs₂ _ _ c3 (hs₁.extBut _ _ c1 x))) ⟨oe,hs₃.extBut _ _ hez hoe,hce⟩
 ·subst hk
  refine wpAny_bind (D1.item k _ _ _ hk1 (fr1 _ _ _ h1 fun o e => hs₁.extBut _ _ F.i1z e) fun x h₂ tk₂ hx h1₂ hs₂ => wpAny_pure ?_)
  replace hs₂ : Heap.SameBut i1 h₁ h₂ := hs₂
  have hTO₂ : IsPair h₂ TO a b := hs₂.extBut _ _ F.TOi1 (hs₁.extBut _ _ F.TOz hTO)
  refine wpAny_bind (wpAny_seqItems hTO₂ rfl ?_)
  refine wpAny_bind (wpAny_updateSeq_pair hTO₂ fun h₃ hTO₃ hs₃ => ?_)
  replace hs₃ : Heap.SameBut TO h₂ h₃ := hs₃
  refine wpAny_bind (wpAny_letGo (wpAny_pure ?_))
  refine wpAny_bind (wpAny_bind (wpAny_onRaise ?_))
  show wpAny _ _ (Builtin.SmallTypes.nextOf (.ref i2) >>= _) _ _ _
  refine wpAny_bind (D2.done _ _ _ (fr2 _ _ _ h2 fun o e => hs₃.extBut _ _ F.TOi2.symm (hs₂.extBut _ _ F.i12.symm (hs₁.extBut _ _ F.i2z e))) fun h₄ e hs₄ he => ?_)
  obtain ⟨oe,hoe,hce⟩ := he
  replace hs₄ : Heap.ExtBut i2 h₃ h₄ := hs₄
  have hz₄ : IsZip h₄ z TI TO .ellipsis := hs₄ _ _ F.i2z.symm (hs₃.extBut _ _ F.TOz.symm (hs₂.extBut _ _ F.i1z.symm hz₁))
  have hez : e ≠ z := fun x => by subst x; rw [hz₄] at hoe; cases hoe; simp at hce
  exact wpAny_setField_rec hz₄ (by simp) fun h₅ _ hs₅ => hE h₅ _ e (fun c o c1 c2 c3 c4 x => hs₅.extBut _ _ c1 (hs₄ _ _ c4 (hs₃.extBut _ _ c2 (hs₂.extBut _ _ c3 (hs₁.extBut _ _ c1 x))))) ⟨oe,hs₅.extBut _ _ hez hoe,hce⟩
theorem J3g {it : Addr} {l : List Nat} {t : Tok} {nm : String} (hh : A.handled = none) (hn : nm = "str_ascii_iterator" ∨ nm = "str_iterator") :
  Draws prog w A it [it] l.length (fun i v => ∃ c u,l[i]? = some c ∧ v = .str ⟨#[c]⟩ u) (fun i h => h.IsStrIter it nm ⟨l.toArray⟩ t i) := by
 rcases hn with rfl | rfl
 ·have D := Draws.strAscii (prog := prog) (w := w) hh it ⟨l.toArray⟩ t
  simpa using D
 ·have D := Draws.strWide (prog := prog) (w := w) hh it ⟨l.toArray⟩ t
  simpa using D
end
theorem Inv.turnedN {X : Cx} {pins : List (Addr × Obj)} {σ : St} {H : Hp} {s : Shared} {h' : Heap} {t' : Nat} {ch : List Addr} (I : Inv X pins σ H s) (k : ∀ b o,b ∉ ch → s.heap.get? b = some o → h'.get? b = some o) (hf : ∀ b ∈ ch,FpOk X pins H b) :
  Inv X pins σ H { s with heap := h',toks := t' } := by
 have nch : ∀ b u,H b = some u → b ∉ ch := fun b u e z => by rw [(hf b z).1] at e; cases e
 refine I.step (g' := s.gens) (d' := s.drawn) (ch := ch) (fun b hb => ?_) (fun b o _ _ hc e _ => k b o hc e) (fun b o _ _ hc e _ => ⟨o.slots,k b o hc e⟩) (fun _ _ _ _ n => n)
  (fun b o hc e => ⟨o,k b o hc e⟩) (fun _ _ e => e) (fun _ _ _ e => e) (fun b ps e => ⟨#[],by rw [e]; simp⟩) (fun m hm => ?_) (fun b u e => ?_) I.bare
 ·obtain ⟨f0,f1,f2,f3,f4,f5⟩ := hf b hb
  exact ⟨f3,f1,f4,f5⟩
 ·obtain ⟨o,es,ep,ho,r⟩ := hm
  exact ⟨o,es,ep,k _ o (fun z => (hf _ z).2.1 rfl) ho,r⟩
 ·refine (I.hok b u e).stay (fun c v hc q => k c v ?_ q) (fun _ q => q) fun _ _ q => q
  rcases hc with z | z
  ·rw [z]; exact nch b u e
  ·exact nch c _ z
noncomputable def Itz (l1 l2 : List Nat) : It :=
 ⟨fun i _ => i < l1.length ∧ i < l2.length,fun i H x H' => ∃ p c d,H p = none ∧ l1[i]? = some c ∧ l2[i]? = some d ∧ x = .ref p ∧ H' = upd H p (.tup [T [c],T [d]]),fun i _ => i = l1.length ∨ (i < l1.length ∧ i = l2.length)⟩
theorem Jbv {P : Program} {w : World} {K : PySem.W.Frag} {es : List Expr} {k : Nat} {pos : Pos} {z TI TO i1 i2 : Addr} {l1 l2 : List Nat} {t1 t2 : Tok} {n1 n2 : String} (F : J3U z TI TO i1 i2)
  (hn1 : n1 = "str_ascii_iterator" ∨ n1 = "str_iterator") (hn2 : n2 = "str_ascii_iterator" ∨ n2 = "str_iterator") :
  Turn P w K (.Tuple es k pos) (Itz l1 l2) [z,TI,TO,i1,i2] z (fun i h => IsZip h z TI TO .none ∧ IsPair h TI (.ref i1) (.ref i2) ∧ (∃ a b,IsPair h TO a b) ∧ h.IsStrIter i1 n1 ⟨l1.toArray⟩ t1 i ∧ h.IsStrIter i2 n2 ⟨l2.toArray⟩ t2 i) where
 mem := by simp
 obj := fun i h st b hb => by
  obtain ⟨hz,hTI,⟨a,b',hTO⟩,⟨o1,e1,c1,d1⟩,o2,e2,c2,d2⟩ := st
  simp only [List.mem_cons,List.not_mem_nil,or_false] at hb
  rcases hb with rfl | rfl | rfl | rfl | rfl
  ·exact ⟨_,hz,fun v q => by cases q⟩
  ·exact ⟨_,hTI,fun v q => by cases q⟩
  ·exact ⟨_,hTO,fun v q => by cases q⟩
  ·exact ⟨o1,e1,fun v q => by rw [d1] at q; cases q⟩
  ·exact ⟨o2,e2,fun v q => by rw [d2] at q; cases q⟩
 keep := fun i h h' st kk => by
  obtain ⟨hz,hTI,⟨a,b',hTO⟩,⟨o1,e1,r1⟩,o2,e2,r2⟩ := st
  exact ⟨kk z (by simp) _ hz,kk TI (by simp) _ hTI,⟨a,b',kk TO (by simp) _ hTO⟩,⟨o1,kk i1 (by simp) _ e1,r1⟩,o2,kk i2 (by simp) _ e2,r2⟩
 item := by
  intro X hP hw hK hc i pins s σ H E I hf st hg
  subst hP hw hK
  obtain ⟨hz,hTI,⟨a,b,hTO⟩,h1,h2⟩ := st
  have hh : X.A.in1.handled = none := I.ok.hd hc
  have hT : s.TypeIs (.ref z) "zip" := ⟨_,hz,rfl⟩
  have D1 := J3g (prog := X.prog) (w := X.w) (it := i1) (l := l1) (t := t1) hh hn1
  have D2 := J3g (prog := X.prog) (w := X.w) (it := i2) (l := l2) (t := t2) hh hn2
  unfold pyNext
  refine wpAny_bind (wpAny_attempt (wpAny_callSpecial?_slot (name := Str.ofString "__next__") hT PySem.F.slot_zip_next (wpAny_call_entry PySem.F.slot_zip_next hT PySem.F.entry_zip_next
   (JbE F D1 D2 hz hTI hTO h1 h2 hg.1 hg.2 fun x y h' tk hx hy a1 a2 a3 a4 a5 a6 kp => wpAny_pure ?_) (PySem.F.args_zip_next_1 _))))
  obtain ⟨c,u,hc1,rfl⟩ := hx
  obtain ⟨d,v,hd1,rfl⟩ := hy
  refine ⟨_,rfl,?_⟩
  refine wpAny_letOwnedTupleGo_zip (s := { s with heap := h',toks := tk }) a1 fun h2' hz' hs' => ?_
  replace hs' : Heap.SameBut z h' h2' := hs'
  have zlt : z < s.heap.objs.size := Heap.lt_size hz
  have far : ∀ q ∈ [z,TI,TO,i1,i2],q < s.heap.objs.size := by
   intro q hq
   obtain ⟨o1,e1,_⟩ := h1
   obtain ⟨o2,e2,_⟩ := h2
   simp only [List.mem_cons,List.not_mem_nil,or_false] at hq
   rcases hq with rfl | rfl | rfl | rfl | rfl
   ·exact zlt
   ·exact Heap.lt_size hTI
   ·exact Heap.lt_size hTO
   ·exact Heap.lt_size e1
   ·exact Heap.lt_size e2
  have fz := hf z (by simp)
  have fTO := hf TO (by simp)
  have f1 := hf i1 (by simp)
  have f2 := hf i2 (by simp)
  have I1 : Inv X pins σ H { s with heap := s.heap.push { cls := .type "tuple",data := .seq #[.str ⟨#[c]⟩ u,.str ⟨#[d]⟩ v] },toks := tk } := I.kept fun b o e => Heap.get?_push_of_some _ e
  have keepAll : ∀ b o,b ≠ z → b ≠ TO → b ≠ i1 → b ≠ i2 → s.heap.get? b = some o → h2'.get? b = some o := fun b o b1 b2 b3 b4 e => hs'.extBut _ _ b1 (kp b o b1 b2 b3 b4 e)
  have hnew : H s.heap.objs.size = none := I.hok.fresh (Nat.le_refl _)
  have Tz : s.heap.objs.size ≠ z := Nat.ne_of_gt zlt
  have ht2 : h2'.get? s.heap.objs.size = some { cls := .type "tuple",data := .seq #[.str ⟨#[c]⟩ u,.str ⟨#[d]⟩ v] } := hs'.extBut _ _ Tz a5
  have I2 : Inv X pins σ (upd H s.heap.objs.size (.tup [T [c],T [d]])) { s with heap := h2',toks := tk } := by
   have there : ∀ q ∈ [z,TO,i1,i2],∃ o',h2'.get? q = some o' := by
    intro q hq
    obtain ⟨o1,e1,_⟩ := a3
    obtain ⟨o2,e2,_⟩ := a4
    simp only [List.mem_cons,List.not_mem_nil,or_false] at hq
    rcases hq with rfl | rfl | rfl | rfl
    ·exact ⟨_,hz'⟩
    ·exact ⟨_,hs'.extBut _ _ F.TOz a2⟩
    ·exact ⟨_,hs'.extBut _ _ F.i1z e1⟩
    ·exact ⟨_,hs'.extBut _ _ F.i2z e2⟩
   have nch : ∀ b,b ∉ [z,TO,i1,i2] → b ≠ z ∧ b ≠ TO ∧ b ≠ i1 ∧ b ≠ i2 := fun b hb => by
    simp only [List.mem_cons,List.not_mem_nil,or_false,not_or] at hb
    exact hb
   have trk : ∀ b u',H b = some u' → b ≠ z ∧ b ≠ TO ∧ b ≠ i1 ∧ b ≠ i2 := fun b u' e =>
    ⟨fun q => (by rw [q,fz.1] at e; cases e),fun q => (by rw [q,fTO.1] at e; cases e),fun q => (by rw [q,f1.1] at e; cases e),fun q => (by rw [q,f2.1] at e; cases e)⟩
   have okH : HOk X.prog X.w (upd H s.heap.objs.size (.tup [T [c],T [d]])) h2' := fun b u' e => by
    by_cases hb : b = s.heap.objs.size
    ·subst hb
     rw [Jd] at e
     cases e
     exact ⟨(show 2 ≤ sizeLine by decide),[.str ⟨#[c]⟩ u,.str ⟨#[d]⟩ v],.cons ⟨u,rfl⟩ (.cons ⟨v,rfl⟩ .nil),⟨_,ht2,rfl,_,rfl⟩⟩
    ·rw [Jj hb] at e
     have hx := I.hok b u' e
     refine hx.stay (fun q o hq e2 => ?_) (fun q e2 => ?_) (fun q xs e2 => ?_)
     ·rcases hq with rfl | hq
      ·obtain ⟨b1,b2,b3,b4⟩ := trk q _ e
       exact keepAll q o b1 b2 b3 b4 e2
      ·obtain ⟨b1,b2,b3,b4⟩ := trk q _ hq
       exact keepAll q o b1 b2 b3 b4 e2
     ·rw [Jj (Je e2 hnew)]; exact e2
     ·rw [Jj (Je e2 hnew)]; exact e2
   refine I.step (g' := s.gens) (d' := s.drawn) (ch := [z,TO,i1,i2]) (fun b hb => ?_) (fun b o _ _ hcb e n => ?_) (fun b o _ _ hcb e n => ?_) (fun b o hcb e n => ?_) (fun b o hcb e => ?_) (fun b xs e => ?_) (fun b o u' e => ?_) (fun b ps e => ?_) (fun m hm => ?_) okH I.bare
   ·simp only [List.mem_cons,List.not_mem_nil,or_false] at hb
    rcases hb with rfl | rfl | rfl | rfl
    ·exact ⟨fz.2.2.2.1,fz.2.1,fz.2.2.2.2.1,fz.2.2.2.2.2⟩
    ·exact ⟨fTO.2.2.2.1,fTO.2.1,fTO.2.2.2.2.1,fTO.2.2.2.2.2⟩
    ·exact ⟨f1.2.2.2.1,f1.2.1,f1.2.2.2.2.1,f1.2.2.2.2.2⟩
    ·exact ⟨f2.2.2.2.1,f2.2.1,f2.2.2.2.2.1,f2.2.2.2.2.2⟩
   ·obtain ⟨b1,b2,b3,b4⟩ := nch b hcb
    exact keepAll b o b1 b2 b3 b4 e
   ·obtain ⟨b1,b2,b3,b4⟩ := nch b hcb
    exact ⟨o.slots,keepAll b o b1 b2 b3 b4 e⟩
   ·rw [Jj (Nat.ne_of_lt (Heap.lt_size e))]; exact n
   ·obtain ⟨b1,b2,b3,b4⟩ := nch b hcb
    exact ⟨o,keepAll b o b1 b2 b3 b4 e⟩
   ·rw [Jj (Je e hnew)]; exact e
   ·rw [Jj (Je e hnew)]; exact e
   ·exact ⟨#[],by rw [Jj (Je e hnew),e]; simp⟩
   ·obtain ⟨o,es',ep,ho,r⟩ := hm
    exact ⟨o,es',ep,keepAll _ o fz.2.1.symm fTO.2.1.symm f1.2.1.symm f2.2.1.symm ho,r⟩
  refine ⟨.ref s.heap.objs.size,_,I2,rfl,⟨_,c,d,hnew,hc1,hd1,rfl,rfl⟩,⟨hz',hs'.extBut _ _ F.TIz (kp _ _ F.TIz F.TITO F.TIi1 F.TIi2 hTI),⟨_,_,hs'.extBut _ _ F.TOz a2⟩,?_,?_⟩,fun b hb => ?_⟩
  ·obtain ⟨o,e,r⟩ := a3; exact ⟨o,hs'.extBut _ _ F.i1z e,r⟩
  ·obtain ⟨o,e,r⟩ := a4; exact ⟨o,hs'.extBut _ _ F.i2z e,r⟩
  ·rw [Jj (Nat.ne_of_lt (far b hb))]; exact (hf b hb).1
 done := by
  intro X hP hw hK hc i pins s σ H E I hf st hg
  subst hP hw hK
  obtain ⟨hz,hTI,⟨a,b,hTO⟩,h1,h2⟩ := st
  have hh : X.A.in1.handled = none := I.ok.hd hc
  have hT : s.TypeIs (.ref z) "zip" := ⟨_,hz,rfl⟩
  have D1 := J3g (prog := X.prog) (w := X.w) (it := i1) (l := l1) (t := t1) hh hn1
  have D2 := J3g (prog := X.prog) (w := X.w) (it := i2) (l := l2) (t := t2) hh hn2
  unfold pyNext
  refine wpAny_bind (wpAny_attempt (wpAny_callSpecial?_slot (name := Str.ofString "__next__") hT PySem.F.slot_zip_next (wpAny_call_entry PySem.F.slot_zip_next hT PySem.F.entry_zip_next
   (JcJ F D1 D2 hz hTI hTO h1 h2 hg fun h' tk e kp he => ?_) (PySem.F.args_zip_next_1 _))))
  obtain ⟨o,ho,hc'⟩ := he
  refine wpAny_bind (wpAny_isInstance (T := "StopIteration") (b := true) ⟨o,ho,hc'⟩ isSubtype_stop ?_)
  refine wpAny_pure ⟨rfl,?_⟩
  refine I.turnedN (ch := [z,TO,i1,i2]) (fun b o hb q => ?_) fun b hb => hf b ?_
  ·simp only [List.mem_cons,List.not_mem_nil,or_false,not_or] at hb
   exact kp b o hb.1 hb.2.1 hb.2.2.1 hb.2.2.2 q
  ·simp only [List.mem_cons,List.not_mem_nil,or_false] at hb ⊢
   rcases hb with q | q | q | q
   ·exact .inl q
   ·exact .inr (.inr (.inl q))
   ·exact .inr (.inr (.inr (.inl q)))
   ·exact .inr (.inr (.inr (.inr q)))
 self := fun _ _ _ _ _ st h => wpAny_pyIter_zip st.1 h
noncomputable def J2B (l : List Nat) : String := if (⟨l.toArray⟩ : Str).cps.all (· < 128) = true then "str_ascii_iterator" else "str_iterator"
theorem J7U (l : List Nat) : J2B l = "str_ascii_iterator" ∨ J2B l = "str_iterator" := by
 unfold J2B; split
 ·exact .inl rfl
 ·exact .inr rfl
theorem Ja1 {prog : Program} {w : World} {A : Around} {E : Value → Shared → Prop} {hp : Heap} {g : Array GenState} {d : Drawn} {tk : Nat} {os : OsState} {l : List Nat} {t : Tok} {Q : Value → Shared → Prop}
  (h : Q (.ref hp.objs.size) ⟨hp.push { cls := .type (J2B l),data := .fields #[.str ⟨l.toArray⟩ t,.int 0 0] },g,d,tk,os⟩) : wpAny (model prog w) A (pyIter (.str ⟨l.toArray⟩ t)) Q E ⟨hp,g,d,tk,os⟩ := by
 cases ha : (⟨l.toArray⟩ : Str).cps.all (· < 128) with
 | true =>
  have e : J2B l = "str_ascii_iterator" := by unfold J2B; rw [if_pos ha]
  rw [e] at h
  exact wpAny_pyIter_ascii (s := ⟨hp,g,d,tk,os⟩) ha h
 | false =>
  have e : J2B l = "str_iterator" := by unfold J2B; rw [if_neg (by rw [ha]; exact Bool.false_ne_true)]
  rw [e] at h
  exact wpAny_pyIter_wide (s := ⟨hp,g,d,tk,os⟩) ha h
noncomputable abbrev JaX (h : Heap) (l1 : List Nat) (t1 : Tok) : Heap := h.push { cls := .type (J2B l1),data := .fields #[.str ⟨l1.toArray⟩ t1,.int 0 0] }
noncomputable abbrev Jb7 (h : Heap) (l1 l2 : List Nat) (t1 t2 : Tok) : Heap := (JaX h l1 t1).push { cls := .type (J2B l2),data := .fields #[.str ⟨l2.toArray⟩ t2,.int 0 0] }
noncomputable abbrev Jb6 (h : Heap) (l1 l2 : List Nat) (t1 t2 : Tok) : Heap := (Jb7 h l1 l2 t1 t2).push { cls := .type "tuple",data := .seq #[.ref h.objs.size,.ref (JaX h l1 t1).objs.size] }
noncomputable abbrev JaZ (h : Heap) (l1 l2 : List Nat) (t1 t2 : Tok) : Heap := (Jb6 h l1 l2 t1 t2).push { cls := .type "tuple",data := .seq #[.none,.none] }
noncomputable abbrev J7V (h : Heap) (l1 l2 : List Nat) (t1 t2 : Tok) : Heap := (JaZ h l1 l2 t1 t2).push { cls := .type "zip",data := .fields #[.none,.bool false,.bool false,.ref (Jb7 h l1 l2 t1 t2).objs.size,.ref (Jb6 h l1 l2 t1 t2).objs.size] }
theorem Jag (l1 l2 : List Nat) (t1 t2 : Tok) :
  Meets (Builtin.«zip.__new__» ⟨[.type "zip",.str ⟨l1.toArray⟩ t1,.str ⟨l2.toArray⟩ t2],[]⟩) (fun _ R s => R (.ok (.ret (.ref (JaZ s.heap l1 l2 t1 t2).objs.size))) { s with heap := J7V s.heap l1 l2 t1 t2 }) :=
 .of_wp fun prog w A R s h => by
  obtain ⟨hp,g,d,tk,os⟩ := s
  have hsub := sub_zip
  wp_walk using Ja1 (l := l1) (t := t1),Ja1 (l := l2) (t := t2)
  exact ⟨_,rfl,h⟩
theorem Jbu {prog : Program} {w : World} {A : Around} {E : Value → Shared → Prop} {s : Shared} {l1 l2 : List Nat} {t1 t2 : Tok} {Q : Value → Shared → Prop}
  (h : ∀ h',IsZip h' (s.heap.objs.size + 4) (s.heap.objs.size + 2) (s.heap.objs.size + 3) .none → IsPair h' (s.heap.objs.size + 2) (.ref s.heap.objs.size) (.ref (s.heap.objs.size + 1)) →
   IsPair h' (s.heap.objs.size + 3) .none .none → h'.IsStrIter s.heap.objs.size (J2B l1) ⟨l1.toArray⟩ t1 0 → h'.IsStrIter (s.heap.objs.size + 1) (J2B l2) ⟨l2.toArray⟩ t2 0 →
   (∀ c o,s.heap.get? c = some o → h'.get? c = some o) → Q (.ref (s.heap.objs.size + 4)) { s with heap := h' }) :
  wpAny (model prog w) A (call (.type "zip") [.str ⟨l1.toArray⟩ t1,.str ⟨l2.toArray⟩ t2]) Q E s := by
 refine callType_new F.called_zip (by decide) (F.typeCall_zip_2 _ _) (F.newCall_zip_2 _ _) (fun obj => F.args_object_init_3 obj _ _) F.entry_zip_new (Jag l1 l2 t1 t2) ?_
 have z1 : (JaX s.heap l1 t1).objs.size = s.heap.objs.size + 1 := Heap.size_push ..
 have z2 : (Jb7 s.heap l1 l2 t1 t2).objs.size = s.heap.objs.size + 2 := by rw [Heap.size_push,z1]
 have z3 : (Jb6 s.heap l1 l2 t1 t2).objs.size = s.heap.objs.size + 3 := by rw [Heap.size_push,z2]
 have z4 : (JaZ s.heap l1 l2 t1 t2).objs.size = s.heap.objs.size + 4 := by rw [Heap.size_push,z3]
 have g5 : (J7V s.heap l1 l2 t1 t2).get? (JaZ s.heap l1 l2 t1 t2).objs.size = some _ := Heap.get?_push_size _ rfl
 have g4 : (J7V s.heap l1 l2 t1 t2).get? (Jb6 s.heap l1 l2 t1 t2).objs.size = some _ := Heap.get?_push_of_some _ (Heap.get?_push_size _ rfl)
 have g3 : (J7V s.heap l1 l2 t1 t2).get? (Jb7 s.heap l1 l2 t1 t2).objs.size = some _ := Heap.get?_push_of_some _ (Heap.get?_push_of_some _ (Heap.get?_push_size _ rfl))
 have g2 : (J7V s.heap l1 l2 t1 t2).get? (JaX s.heap l1 t1).objs.size = some _ := Heap.get?_push_of_some _ (Heap.get?_push_of_some _ (Heap.get?_push_of_some _ (Heap.get?_push_size _ rfl)))
 have g1 : (J7V s.heap l1 l2 t1 t2).get? s.heap.objs.size = some _ := Heap.get?_push_of_some _ (Heap.get?_push_of_some _ (Heap.get?_push_of_some _ (Heap.get?_push_of_some _ (Heap.get?_push_size _ rfl))))
 show _ ∧ _
 rw [z2,z3,z4] at g5
 rw [z1,z2] at g3
 rw [z3] at g4
 rw [z1] at g2
 rw [z4]
 exact ⟨⟨_,g5,rfl⟩,h _ g5 g3 g4 ⟨_,g1,rfl,rfl⟩ ⟨_,g2,rfl,rfl⟩ fun c o x =>
  Heap.get?_push_of_some _ (Heap.get?_push_of_some _ (Heap.get?_push_of_some _ (Heap.get?_push_of_some _ (Heap.get?_push_of_some _ x))))⟩
section
variable {X : Cx} {es : List Expr} {k : Nat} {tpos : Pos}
noncomputable def Jg1 (ta : TA) : TI := fun σ H R => ta σ H fun vs H1 => ∃ l1 l2,vs = [T l1,T l2] ∧ R (Itz l1 l2) H1
theorem Jeb {a b : Expr} {ta : TA} {p pos : Pos} (hg : Gl X "zip") (hm : X.mg "zip" = none) (ha : PA X [a,b] ta) (hv : bootBuiltins "zip" = some (.type "zip") := by decide +kernel) (hs : starEach [a,b] X.env = [(false,eval a X.env),(false,eval b X.env)] := by rfl) (hs2 : starEach [b] X.env = [(false,eval b X.env)] := by rfl) :
  PI X (.Tuple es k tpos) (.Call (.Name "zip" p) [a,b] [] pos) (Jg1 ta) := by
 intro pins s σ H R I h
 refine Call_ (J3r I hg hm hv (PyProof.Rows.callWith_type1 (thn (ha pos pins s σ H _ I h) fun us s1 ⟨vs,H1,I1,r1,q1⟩ => ?_) (by rw [hs,hs2]) (by rw [hs2]; rfl)))
 obtain ⟨l1,l2,e,q⟩ := q1
 subst e
 obtain ⟨u,v,rfl,ru,rv⟩ := r1.two
 obtain ⟨t1,rfl⟩ := ru
 obtain ⟨t2,rfl⟩ := rv
 refine Jbu fun h' a1 a2 a3 a4 a5 kp => ?_
 have far : J3U (s1.heap.objs.size + 4) (s1.heap.objs.size + 2) (s1.heap.objs.size + 3) s1.heap.objs.size (s1.heap.objs.size + 1) := J7c _
 have I2 : Inv X pins σ H1 { s1 with heap := h' } := I1.kept (t' := s1.toks) kp
 refine wpAny_pyIter_zip a1 ⟨s1.heap.objs.size + 4,[s1.heap.objs.size + 4,s1.heap.objs.size + 2,s1.heap.objs.size + 3,s1.heap.objs.size,s1.heap.objs.size + 1],_,_,H1,rfl,I2,Jbv (t1 := t1) (t2 := t2) far (J7U l1) (J7U l2),⟨a1,a2,⟨_,_,a3⟩,a4,a5⟩,fun b hb => ?_,q⟩
 have hb' : s1.heap.objs.size ≤ b := by
  simp only [List.mem_cons,List.not_mem_nil,or_false] at hb
  rcases hb with rfl | rfl | rfl | rfl | rfl
  ·exact Nat.le_add_right _ _
  ·exact Nat.le_add_right _ _
  ·exact Nat.le_add_right _ _
  ·exact Nat.le_refl _
  ·exact Nat.le_add_right _ _
 exact I1.fpOk hb' (I1.hok.fresh hb')
end
end L2
set_option linter.all false
set_option maxRecDepth 100000
set_option maxHeartbeats 4000000
namespace L2
open PySem PySem.Spec PyProof.Rows
theorem JbI {K : PySem.W.Frag} {H : Hp} {l1 l2 : List Nat} {rest : St} {te : TE} {Q : VK} (f : Nat → Nat → V) (hx : l1.length ≤ 1000000)
  (he : ∀ c d H',Same H H' → ∀ R : VK,(∀ H'',Same H' H'' → R (f c d) H'') → te (some (T [c]) :: some (T [d]) :: rest) H' R)
  (hQ : ∀ D H',H D = none → Same H H' → H' D = some (.lst ((l1.zip l2).map fun p => f p.1 p.2)) → Q (.ref D) H') :
  J5W (Itz l1 l2) H (none :: none :: rest) (gTup K 2 (Ja0 (J4P 0) (Ja0 (J4P 1) gNil))) tYes te Q := by
 intro D hD
 refine ⟨fun i m σ1 ys H' => m = l1.length - i ∧ i ≤ l1.length ∧ i ≤ l2.length ∧ (∃ a b,σ1 = a :: b :: rest) ∧ ys = ((l1.zip l2).take i).map (fun p => f p.1 p.2) ∧ H' D = some (.lst ys) ∧ Same H H',⟨l1.length,by simp,Nat.zero_le _,Nat.zero_le _,⟨_,_,rfl⟩,rfl,Jd,JB hD _⟩,?_⟩
 rintro i m σ1 ys H' ⟨rfl,hi1,hi2,⟨a,b,rfl⟩,rfl,hDD,hs⟩
 by_cases hlt : i < l1.length ∧ i < l2.length
 ·refine .inr ⟨hlt,fun x H'' hy => ?_⟩
  obtain ⟨p,c,d,hp,hc,hd,rfl,rfl⟩ := hy
  refine ⟨p,[T [c],T [d]],rfl,SqT.of Jd,rfl,T [c],[T [d]],rfl,T [d],[],rfl,rfl,?_⟩
  unfold tYes
  dsimp only
  refine iteT ?_
  have pD : D ≠ p := fun z => by subst z; rw [hp] at hDD; cases hDD
  have s1 : Same H (upd H' p (.tup [T [c],T [d]])) := hs.trans (JB hp _)
  have hz : (l1.zip l2)[i]? = some (c,d) := by rw [List.getElem?_zip_eq_some]; exact ⟨hc,hd⟩
  refine he c d _ s1 _ fun H4 s4 => ⟨s4 _ _ (by rw [Jj pD]; exact hDD),?_,l1.length - (i + 1),by omega,rfl,hlt.1,hlt.2,⟨_,_,rfl⟩,?_,Jd,(s1.trans s4).upd hD⟩
  ·rw [List.length_map,List.length_take]
   have : (1000001 : Nat) ≤ sizeLine := by decide
   omega
  ·rw [List.take_add_one,hz,List.map_append]
   rfl
 ·have e : i = l1.length ∨ (i < l1.length ∧ i = l2.length) := by omega
  refine .inl ⟨e,hQ D H' hD hs ?_⟩
  rw [hDD,List.take_of_length_le]
  rw [List.length_zip]
  omega
end L2
set_option linter.all false
set_option maxRecDepth 100000
set_option maxHeartbeats 4000000
namespace L2
open PySem PySem.Spec PyProof.Rows
noncomputable def GF (K : PySem.W.Frag) (mg : Str → Option Value) (x : Str) (st : Stmt) : Prop := ∃ f fd,Fun K x x st f fd ∧ mg x = some (.ref f)
noncomputable def FnG (P : Program) (w : World) (K : PySem.W.Frag) (mg : Str → Option Value) (base : Heap) (x : Str) (k : Nat) (ps : List Str) (sp : Sp) : Prop :=
 ∃ f fd,FnOk P w K mg base CX0 k f fd ps sp ∧ mg x = some (.ref f) ∧ PySem.W.keepIn K (.ref f) = true ∧ J4d K fd ps []
noncomputable def MF (K : PySem.W.Frag) (C : Addr) (m qual : Str) (st : Stmt) : Prop := ∃ f fd,Fun K m qual st f fd ∧ Meth K C m f
noncomputable def MtG (P : Program) (w : World) (K : PySem.W.Frag) (mg : Str → Option Value) (base : Heap) (C : Addr) (m : Str) (k : Nat) (ps : List Str) (sp : Sp) : Prop :=
 ∃ f fd,FnOk P w K mg base CX0 k f fd ps sp ∧ Cls K C ∧ Meth K C m f ∧ J4d K fd ps []
structure CF (K : PySem.W.Frag) (mg : Str → Option Value) (x : Str) (C : Addr) : Prop where
 cl : Cls K C
 mg : mg x = some (.ref C)
 makes : PySem.W.makesIn K C = true
 kp : PySem.W.keepIn K (.ref C) = true
noncomputable def MkG (P : Program) (w : World) (K : PySem.W.Frag) (mg : Str → Option Value) (base : Heap) (C : Addr) (x : Str) (k : Nat) (ps : List Str) (sp : Sp) : Prop :=
 ∃ f fd,FnOk P w K mg base CX0 k f fd ps sp ∧ Mk K C f ∧ mg x = some (.ref C) ∧ J4d K fd ps []
section
variable {P : Program} {w : World} {K : PySem.W.Frag} {mg : Str → Option Value} {base : Heap}
theorem GF.g {x : Str} {st : Stmt} {N ps : List Str} {k : Nat} {sp : Sp} (F : GF K mg x st) (S : Jr N ps (J3 st))
  (bnd : ∀ (kV doc pm : Value) (an : Option Addr) (cdv ct : Value) (us : List Value),us.length = ps.length → bindArgs (PySem.W.fnOf x x (Jp st) (Jn st) (J3 st) .none kV doc pm an cdv ct) ⟨us,[]⟩ = pure (ps.zip us))
  (len : ∀ vs H Q E,sp vs H Q E → vs.length = ps.length)
  (hbody : ∀ (f : Addr) (cdv : Value) (A : Around) (outer : List Env) (s : Shared) (H : Hp) (vs : List V) (Q : VK) (E : XK),Room k (A.deeper (envOfC x (J3 st) s.heap.objs.size f cdv)) → sp vs H Q E →
   ∃ t,PSs (cxOf CX0 P w K mg base N x (J3 st) f cdv A outer s H E).nox (Jn st) t ∧ t { nx := fun _ H' => Q .non H',rt := Q } (start N vs) H) : FnG P w K mg base x (k + 1) ps sp := by
 obtain ⟨f,fd,F,m⟩ := F
 exact ⟨f,fd,F.ok S len fun cdv A outer s H vs Q E hr h => hbody f cdv A outer s H vs Q E hr h,m,F.kp,F.binds bnd⟩
theorem MF.g {C : Addr} {m qual : Str} {st : Stmt} {N ps : List Str} {k : Nat} {sp : Sp} (F : MF K C m qual st) (cl : Cls K C) (S : Jr N ps (J3 st))
  (bnd : ∀ (kV doc pm : Value) (an : Option Addr) (cdv ct : Value) (us : List Value),us.length = ps.length → bindArgs (PySem.W.fnOf m qual (Jp st) (Jn st) (J3 st) .none kV doc pm an cdv ct) ⟨us,[]⟩ = pure (ps.zip us))
  (len : ∀ vs H Q E,sp vs H Q E → vs.length = ps.length)
  (hbody : ∀ (f : Addr) (cdv : Value) (A : Around) (outer : List Env) (s : Shared) (H : Hp) (vs : List V) (Q : VK) (E : XK),Room k (A.deeper (envOfC qual (J3 st) s.heap.objs.size f cdv)) → sp vs H Q E →
   ∃ t,PSs (cxOf CX0 P w K mg base N qual (J3 st) f cdv A outer s H E).nox (Jn st) t ∧ t { nx := fun _ H' => Q .non H',rt := Q } (start N vs) H) : MtG P w K mg base C m (k + 1) ps sp := by
 obtain ⟨f,fd,F,m⟩ := F
 exact ⟨f,fd,F.ok S len fun cdv A outer s H vs Q E hr h => hbody f cdv A outer s H vs Q E hr h,cl,m,F.binds bnd⟩
theorem CF.g {C : Addr} {x : Str} {k : Nat} {ps : List Str} {sp : Sp} (c : CF K mg x C) (G : MtG P w K mg base C "__init__" k ps sp) : MkG P w K mg base C x k ps sp := by
 obtain ⟨f,fd,a,_,m,b⟩ := G
 exact ⟨f,fd,a,⟨c.makes,m.at_,m.fn,c.kp⟩,c.mg,b⟩
end
section
variable {X : Cx} {x m : Str} {k : Nat} {ps : List Str} {sp : Sp} {C : Addr} {p pos apos : Pos} {e o : Expr} {es : List Expr} {t : TA} {to : TE}
theorem JO (G : FnG X.prog X.w X.K X.mg X.base x k ps sp) (hr : Room k X.A) (ha : PA X (e :: es) t) (hg : Gl X x := by rfl) (hdb : (x == ("__debug__" : Str)) = false := by decide)
  (he : starEach (e :: es) X.env = (false,eval e X.env) :: starEach es X.env := by rfl) (hpl : (backTo pos (starEach es X.env)).any (·.1) = false := by rfl) : PE X (.Call (.Name x p) (e :: es) [] pos) (Jeq sp [] E0 t) := by
 obtain ⟨f,fd,a,b,c,d⟩ := G
 exact Je1 a hr hg b c d .nil JaV ha hdb he hpl
theorem J71 {pl : Sem Bool} (G : MtG X.prog X.w X.K X.mg X.base C m k ps sp) (hr : Room k X.A) (ho : PE X o to) (ha : PA X (e :: es) t)
  (hst : starEach (e :: es) X.env = (false,eval e X.env) :: starEach es X.env := by rfl) (hpl : (backTo pos (starEach es X.env)).any (·.1) = false := by rfl)
  (ht : eval (.Call (.Attribute o m apos) (e :: es) [] pos) X.env = (do
   let ov ← eval o X.env
   standAt apos.atName
   let (f,first) ← holding [ov] (getMethod ov m pl)
   callWith pos f first (backTo pos (starEach (e :: es) X.env)) (backToKw pos (keywordEach [] X.env))) := by rfl) :
  PE X (.Call (.Attribute o m apos) (e :: es) [] pos) (Jep C m sp [] E0 to t) := by
 obtain ⟨f,fd,a,b,c,d⟩ := G
 exact JdI (pl := pl) ho b c a hr d .nil JaV ha hst hpl ht
noncomputable def JeU (P : Program) (w : World) (K : PySem.W.Frag) (mg : Str → Option Value) (base : Heap) (n : Nat) (m : Str) (ta : TE) (t : TA) : TE := fun σ H Q => ta σ H fun x H1 => ∃ a C dx fs k ps sp,x = .ref a ∧ H1 a = some (.ins C dx fs) ∧ fs.lookup m = none ∧
 MtG P w K mg base C m k ps sp ∧ k ≤ n ∧ t σ H1 fun vs H2 => sp (x :: vs) H2 Q E0
theorem J2s {P : Program} {w : World} {K : PySem.W.Frag} {mg : Str → Option Value} {base : Heap} {n : Nat} {pl : Sem Bool} (hr : Room n X.A) (ho : PE X o to) (ha : PA X (e :: es) t) (hP : X.prog = P) (hw : X.w = w) (hK : X.K = K) (hmg : X.mg = mg) (hbs : X.base = base)
  (hst : starEach (e :: es) X.env = (false,eval e X.env) :: starEach es X.env := by rfl) (hpl : (backTo pos (starEach es X.env)).any (·.1) = false := by rfl)
  (ht : eval (.Call (.Attribute o m apos) (e :: es) [] pos) X.env = (do
   let ov ← eval o X.env
   standAt apos.atName
   let (f,first) ← holding [ov] (getMethod ov m pl)
   callWith pos f first (backTo pos (starEach (e :: es) X.env)) (backToKw pos (keywordEach [] X.env))) := by rfl) :
  PE X (.Call (.Attribute o m apos) (e :: es) [] pos) (JeU P w K mg base n m to t) := by
 subst hP hw hK hmg hbs
 intro pins s σ H Q I h
 refine PySem.W.methodCall_KW (pl := pl) (thn (ho pins s σ H _ I h) fun u s1 ⟨x,H1,I1,rx,a,C,dx,fs,k,ps,sp,ex,ea,l,G,hk,q⟩ => ?_) ht
 have hr := hr.mono hk
 obtain ⟨f,fd,F,c,hm,hb⟩ := G
 subst ex
 obtain rfl : u = Value.ref a := rx
 refine J76 I1 ea c hm l ?_
 refine PySem.W.callWith_K (first := [.ref a]) (h₀ := X.base) I.ok.mod.kin hm.kp (thn (ha pos pins s1 σ H1 _ I1 q) fun us s2 ⟨vs,H2,I2,r,q2⟩ => ⟨I2.kIn,?_⟩) hst hpl
 exact JaJ (us := .ref a :: us) (vs := .ref a :: vs) (E := E0) F hr hb .nil JaV I2 (.cons rfl r) (by rw [List.append_nil]; exact q2)
theorem Jeh {n : Str} {T : String} (hm : X.mg n = none) (hv : bootBuiltins n = some (.type T)) (hg : Gl X n := by rfl) (hn : n ≠ "__name__" := by decide) (hd : (n == ("__debug__" : Str)) = false := by decide) : PE X (.Name n pos) (tC (.ty T)) :=
 Je6 hg hm hv rfl hn hd
end
section
variable {X : Cx} {K : PySem.W.Frag}
theorem Jy (h : X.K = K) : IxR X (rIxL K) := h ▸ Je0
theorem JC (h : X.K = K) : IxR X (rIxT K) := h ▸ JeS
theorem J79 (h : X.K = K) : SlR X (rSlL K) := h ▸ JdJ
theorem JD (h : X.K = K) : J2m X (.builtin "len") (fun xs H Q => ∃ p ys,xs = [.ref p] ∧ (SqL K H p ys ∨ SqT K H p ys) ∧ Q (.int ys.length) H) := h ▸ J8H
theorem Jaj (hc : X.calm = true) (h : X.K = K) : J2m X (.builtin "all") (fun xs H Q => ∃ (D : Addr) (bs : List Bool),xs = [.ref D] ∧ SqL K H D (bs.map V.bl) ∧ Q (.bl (bs.all id)) H) := h ▸ JbY hc
theorem Jt {e : Expr} {f : Str} {ta : TE} {pos : Pos} (h : X.K = K) (he : PE X e ta) (hb : attributeBase e f X.env (eval e X.env) = eval e X.env) : PE X (.Attribute e f pos) (tFld K ta f) := h ▸ Jft he hb
theorem J3O {o e : Expr} {to : TE} {t : TA} {apos cpos : Pos} (h : X.K = K) (ho : PE X o to) (ha : PA X [e] t)
  (hbase : attributeBase o "join" X.env (eval o X.env) = eval o X.env := by rfl)
  (hfew : ((backTo cpos (starEach [e] X.env)).all (fun x => !x.1) && (backToKw cpos (keywordEach [] X.env)).all (fun x => x.1.isSome)
   && decide ([e].length + ([] : List Keyword).length + (if ([] : List Keyword).isEmpty then 0 else 1) < 30)) = true := by rfl)
  (hline : (apos.endLine == cpos.line) = true := by rfl) (hs : starEach [e] X.env = (false,eval e X.env) :: starEach [] X.env := by rfl) (hplain : (backTo cpos (starEach [] X.env)).any (·.1) = false := by rfl) :
  PE X (.Call (.Attribute o "join" apos) [e] [] cpos) (tBM K "str" (Jd8 K) to t) := h ▸ JdL ho ha hbase hfew hline hs hplain
theorem JZ {tg l : Expr} {tl : TE} (h : X.K = K) (hl : PE X l tl) : PI X tg l (Jet K tl) := h ▸ JdH hl
theorem J3S {i j : Nat} {x y : Str} {px py pos : Pos} {k : Nat} (h : X.K = K) (hc : X.calm = true) (hN : X.N.Nodup) (hi : X.N[i]? = some x) (hj : X.N[j]? = some y) (hx : Loc X.env.scope x) (hy : Loc X.env.scope y)
  (hfx : X.fn x = true ∨ X.env.scope.names.lookup x = some .local := by first | exact .inl rfl | exact .inr rfl | assumption) (hfy : X.fn y = true ∨ X.env.scope.names.lookup y = some .local := by first | exact .inl rfl | exact .inr rfl | assumption) :
  PG X (.Tuple [.Name x px,.Name y py] k pos) (gTup K 2 (Ja0 (J4P i) (Ja0 (J4P j) gNil))) := h ▸ J2C hc (JE (Jm hN hi hx hfx) (JE (Jm hN hj hy hfy) J1z))
end
theorem J7i : bootBuiltins "bool" = some (.type "bool") := by decide +kernel
theorem JbK : bootBuiltins "int" = some (.type "int") := by decide +kernel
theorem JT : bootBuiltins "list" = some (.type "list") := by decide +kernel
theorem JaD : bootBuiltins "max" = some (.builtin "max") := by decide +kernel
theorem J8L : bootBuiltins "min" = some (.builtin "min") := by decide +kernel
theorem JeJ : bootBuiltins "all" = some (.builtin "all") := by decide +kernel
theorem J37 : bootBuiltins "isinstance" = some (.builtin "isinstance") := by decide +kernel
end L2
set_option linter.all false
set_option maxRecDepth 100000
set_option maxHeartbeats 4000000
namespace L2
open PySem PySem.Spec PyProof.Rows
theorem Vals.rel {xs : List V} {us : List Value} (r : Vals xs us) : ∀ (j : Nat) (h1 : j < xs.length) (h2 : j < us.length),RelV xs[j] us[j] := by
 induction r with
 | nil => intro j h1; simp at h1
 | cons a t ih =>
  intro j h1 h2
  cases j with
  | zero => exact a
  | succ j => exact ih j (by simpa using h1) (by simpa using h2)
noncomputable def eqVs : List V → List V → Bool
 | [],[] => true
 | x :: xs,y :: ys => eqV x y && eqVs xs ys
 | _,_ => false
theorem J4Z : ∀ {xs ys : List V},xs.length ≠ ys.length → eqVs xs ys = false
 | [],[],h => absurd rfl h
 | [],_ :: _,_ => rfl
 | _ :: _,[],_ => rfl
 | x :: xs,y :: ys,h => by
  have : xs.length ≠ ys.length := fun e => h (by simp [e])
  rw [eqVs,J4Z this,Bool.and_false]
theorem J3q : ∀ {xs ys : List V},xs.length = ys.length → (List.range xs.length).all (fun j => eqV (xs.getD j .non) (ys.getD j .non)) = eqVs xs ys
 | [],[],_ => rfl
 | [],_ :: _,h => by simp at h
 | _ :: _,[],h => by simp at h
 | x :: xs,y :: ys,h => by
  have h' : xs.length = ys.length := by simpa using h
  rw [List.length_cons,List.range_succ_eq_map,List.all_cons,List.all_map,eqVs,← J3q h']
  rfl
section
variable {X : Cx} {K : PySem.W.Frag}
theorem J7a {A : Around} {s : Shared} {xs ys : List V} {ia ib : List Value} (ra : Vals xs ia) (rb : Vals ys ib) (fx : xs.all J15 = true) (fy : ys.all J15 = true) :
  ∀ j (h1 : j < ia.toArray.size) (h2 : j < ib.toArray.size),SeqAt.EqAt A s ia.toArray[j] ib.toArray[j] (eqV (xs.getD j .non) (ys.getD j .non)) := by
 intro j h1 h2
 have la := ra.length
 have lb := rb.length
 have g1 : j < ia.length := by simpa using h1
 have g2 : j < ib.length := by simpa using h2
 have e1 : xs.getD j .non = xs[j]'(by omega) := by rw [List.getD_eq_getElem?_getD,List.getElem?_eq_getElem (by omega)]; rfl
 have e2 : ys.getD j .non = ys[j]'(by omega) := by rw [List.getD_eq_getElem?_getD,List.getElem?_eq_getElem (by omega)]; rfl
 rw [e1,e2]
 have k1 := ra.rel j (by omega) g1
 have k2 := rb.rel j (by omega) g2
 have q := Jcy (A := A) (s := s) k1 k2 (List.all_eq_true.mp fx _ (List.getElem_mem _)) (List.all_eq_true.mp fy _ (List.getElem_mem _))
 simpa using q
noncomputable def rEqL (K : PySem.W.Frag) (neg : Bool) : R2 := fun x y H Q => ∃ p r xs ys,x = .ref p ∧ y = .ref r ∧ SqL K H p xs ∧ SqL K H r ys ∧ xs.all J15 = true ∧ ys.all J15 = true ∧ Q (.bl (if neg then !eqVs xs ys else eqVs xs ys)) H
theorem JeL (h : X.K = K) (hu : X.A.units < cLine) : OpR X (compareOp .Eq) (rEqL K false) := by
 subst h
 intro pins s σ H x y v u Q I rx ry h
 obtain ⟨p,r,xs,ys,rfl,rfl,hp,hr,fx,fy,q⟩ := h
 cases rx; cases ry
 obtain ⟨ia,ra,pa,za⟩ := I.list hp
 obtain ⟨ib,rb,pb,zb⟩ := I.list hr
 have la := ra.length
 have lb := rb.length
 by_cases hsz : xs.length = ys.length
 ·refine SeqAt.eq_listAt (e := fun j => eqV (xs.getD j .non) (ys.getD j .non)) pa.isList pb.isList (by simp; omega) hu (J7a ra rb fx fy) ⟨.bl _,H,I,rfl,?_⟩
  rw [List.size_toArray,← la,J3q hsz]
  exact q
 ·refine SeqAt.eq_list_lengthsAt pa.isList pb.isList (by simp; omega) hu ⟨.bl false,H,I,rfl,?_⟩
  have q' : Q (.bl (eqVs xs ys)) H := q
  rw [J4Z hsz] at q'
  exact q'
theorem JcR (h : X.K = K) (hu : X.A.units < cLine) : OpR X (compareOp .NotEq) (rEqL K true) := by
 subst h
 intro pins s σ H x y v u Q I rx ry h
 obtain ⟨p,r,xs,ys,rfl,rfl,hp,hr,fx,fy,q⟩ := h
 cases rx; cases ry
 obtain ⟨ia,ra,pa,za⟩ := I.list hp
 obtain ⟨ib,rb,pb,zb⟩ := I.list hr
 have la := ra.length
 have lb := rb.length
 have q' : Q (.bl (!eqVs xs ys)) H := q
 by_cases hsz : xs.length = ys.length
 ·refine SeqAt.RcNeAt.lists (e := fun j => eqV (xs.getD j .non) (ys.getD j .non)) pa.isList pb.isList (by simp; omega) hu (J7a ra rb fx fy) _ _ _ _ ⟨.bl _,H,I,rfl,?_⟩
  rw [List.size_toArray,← la,J3q hsz]
  exact q'
 ·refine SeqAt.RcNeAt.lists_lengths pa.isList pb.isList (by simp; omega) hu _ _ _ _ ⟨.bl true,H,I,rfl,?_⟩
  rw [J4Z hsz] at q'
  exact q'
end
end L2
set_option linter.all false
set_option maxRecDepth 100000
set_option maxHeartbeats 4000000
namespace L2
open PySem PySem.Spec PyProof.Rows
structure Jeo (K : PySem.W.Frag) (C : Addr) : Prop where
 cl : Cls K C
 ha : PySem.W.findIn K (.ref C) "__class__" = some (some (.builtin "object.__class__"))
 hn : PySem.W.specialIn K (.builtin "object.__class__") "__get__" = some (some (.builtin "getset_descriptor.__get__"))
 htk : PySem.W.takesIn K (.builtin "object.__class__") = some true
 hm : PySem.W.mroIn K C (.type "object") = some true
section
variable {X : Cx} {K : PySem.W.Frag}
theorem Jaq (h : X.K = K) : J2m X (.builtin "isinstance") (fun xs H Q => ∃ p D C dx fs b,xs = [.ref p,.ref D] ∧ H p = some (.ins C dx fs) ∧ Jeo K C ∧ PySem.W.kitOne K (.ref C) (.ref D) = some b ∧ Q (.bl b) H) := by
 subst h
 intro pins s σ H xs us Q I r h
 obtain ⟨p,D,C,dx,fs,b,rfl,hp,ty,hk,q⟩ := h
 obtain ⟨u,v,rfl,r1,r2⟩ := r.two
 cases r2
 exact Jc0 I r1 (.ins hp ty.cl ty.ha ty.hn ty.htk ty.hm) hk fun tk => ⟨.bl b,H,I.tok _,rfl,q⟩
end
section
variable {prog : Program} {w : World} {A : Around} {E : Value → Shared → Prop} {s : Shared}
end
section
variable {X : Cx} {K : PySem.W.Frag} {pos : Pos}
end
end L2
set_option linter.all false
set_option maxRecDepth 100000
set_option maxHeartbeats 4000000
namespace L2
open PySem PySem.Spec PyProof.Rows
theorem J35 {h : Heap} {a b : Addr} {o p : Obj} (ha : h.get? a = some o) (hb : h.get? b = some p) (hc : o.cls ≠ p.cls) : a ≠ b := by
 rintro rfl
 rw [ha] at hb
 cases hb
 exact hc rfl
theorem J5U {h : Heap} {z TI TO i1 i2 l1 l2 : Addr} {f0 a b : Value} {k1 k2 : Nat} {xs ys : Array Value} (F : J3U z TI TO i1 i2) (hz : IsZip h z TI TO f0) (hTI : IsPair h TI (.ref i1) (.ref i2)) (hTO : IsPair h TO a b)
  (h1 : h.IsListIter i1 l1 k1) (h2 : h.IsListIter i2 l2 k2) (hl1 : h.IsList l1 xs) (hl2 : h.IsList l2 ys) : ZipApart z TI TO i1 i2 l1 l2 := by
 obtain ⟨o1,e1,c1,_⟩ := h1
 obtain ⟨o2,e2,c2,_⟩ := h2
 obtain ⟨p1,q1,d1,_⟩ := hl1
 obtain ⟨p2,q2,d2,_⟩ := hl2
 have n1 : (Value.type "list") ≠ .type "zip" := by intro z; injection z with z; revert z; decide
 have n2 : (Value.type "list") ≠ .type "tuple" := by intro z; injection z with z; revert z; decide
 have n3 : (Value.type "list") ≠ .type "list_iterator" := by intro z; injection z with z; revert z; decide
 exact ⟨F.TIz,F.TOz,F.i1z,F.i2z,F.TITO,F.TIi1,F.TIi2,F.TOi1,F.TOi2,F.i12,
  J35 q1 hz (by rw [d1]; exact n1),J35 q1 hTO (by rw [d1]; exact n2),J35 q1 e1 (by rw [d1,c1]; exact n3),J35 q1 e2 (by rw [d1,c2]; exact n3),
  J35 q2 hz (by rw [d2]; exact n1),J35 q2 hTO (by rw [d2]; exact n2),J35 q2 e1 (by rw [d2,c1]; exact n3),J35 q2 e2 (by rw [d2,c2]; exact n3)⟩
noncomputable def Izl (K : PySem.W.Frag) (a b : Addr) : It :=
  ⟨fun i H => ∃ xs ys x y,SqL K H a xs ∧ SqL K H b ys ∧ xs[i]? = some x ∧ ys[i]? = some y,
   fun i H v H' => ∃ p x y,H p = none ∧ (∀ xs,SqL K H a xs → xs[i]? = some x) ∧ (∀ ys,SqL K H b ys → ys[i]? = some y) ∧ v = .ref p ∧ H' = upd H p (.tup [x,y]),
   fun i H => ∃ xs ys,SqL K H a xs ∧ SqL K H b ys ∧ (xs.length ≤ i ∨ ys.length ≤ i)⟩
theorem JbW {P : Program} {w : World} {K : PySem.W.Frag} {es : List Expr} {k : Nat} {pos : Pos} {z TI TO i1 i2 l1 l2 : Addr} (F : J3U z TI TO i1 i2) :
  Turn P w K (.Tuple es k pos) (Izl K l1 l2) [z,TI,TO,i1,i2] z (fun i h => IsZip h z TI TO .none ∧ IsPair h TI (.ref i1) (.ref i2) ∧ (∃ a b,IsPair h TO a b) ∧ h.IsListIter i1 l1 i ∧ h.IsListIter i2 l2 i) where
 mem := by simp
 obj := fun i h st b hb => by
  obtain ⟨hz,hTI,⟨a,b',hTO⟩,⟨o1,e1,c1,d1⟩,o2,e2,c2,d2⟩ := st
  simp only [List.mem_cons,List.not_mem_nil,or_false] at hb
  rcases hb with rfl | rfl | rfl | rfl | rfl
  ·exact ⟨_,hz,fun v q => by cases q⟩
  ·exact ⟨_,hTI,fun v q => by cases q⟩
  ·exact ⟨_,hTO,fun v q => by cases q⟩
  ·exact ⟨o1,e1,fun v q => by rw [d1] at q; cases q⟩
  ·exact ⟨o2,e2,fun v q => by rw [d2] at q; cases q⟩
 keep := fun i h h' st kk => by
  obtain ⟨hz,hTI,⟨a,b',hTO⟩,⟨o1,e1,r1⟩,o2,e2,r2⟩ := st
  exact ⟨kk z (by simp) _ hz,kk TI (by simp) _ hTI,⟨a,b',kk TO (by simp) _ hTO⟩,⟨o1,kk i1 (by simp) _ e1,r1⟩,o2,kk i2 (by simp) _ e2,r2⟩
 item := by
  intro X hP hw hK hc i pins s σ H E I hf st hg
  subst hP hw hK
  obtain ⟨hz,hTI,⟨a,b,hTO⟩,h1,h2⟩ := st
  obtain ⟨xs,ys,x,y,hq1,hq2,hx,hy⟩ := hg
  obtain ⟨ia,ra,pa,_⟩ := I.list hq1
  obtain ⟨ib,rb,pb,_⟩ := I.list hq2
  obtain ⟨u,hu,ru⟩ := ra.get hx
  obtain ⟨v,hv,rv⟩ := rb.get hy
  have D := J5U F hz hTI hTO h1 h2 pa.isList pb.isList
  obtain ⟨tk,htk⟩ : ∃ tk,tk = s.toks := ⟨_,rfl⟩
  refine wpAny_pyNext_zip_item D hz hTI hTO h1 h2 pa.isList pb.isList (x := u) (y := v) (by simpa using hu) (by simpa using hv) fun h' a1 a2 a3 a4 a5 a6 kp => ?_
  refine ⟨_,rfl,?_⟩
  refine wpAny_letOwnedTupleGo_zip (s := { s with heap := h',toks := s.toks }) a1 fun h2' hz' hs' => ?_
  replace hs' : Heap.SameBut z h' h2' := hs'
  have zlt : z < s.heap.objs.size := Heap.lt_size hz
  have far : ∀ q ∈ [z,TI,TO,i1,i2],q < s.heap.objs.size := by
   intro q hq
   obtain ⟨o1,e1,_⟩ := h1
   obtain ⟨o2,e2,_⟩ := h2
   simp only [List.mem_cons,List.not_mem_nil,or_false] at hq
   rcases hq with rfl | rfl | rfl | rfl | rfl
   ·exact zlt
   ·exact Heap.lt_size hTI
   ·exact Heap.lt_size hTO
   ·exact Heap.lt_size e1
   ·exact Heap.lt_size e2
  have fz := hf z (by simp)
  have fTO := hf TO (by simp)
  have f1 := hf i1 (by simp)
  have f2 := hf i2 (by simp)
  have I1 : Inv X pins σ H { s with heap := s.heap.push { cls := .type "tuple",data := .seq #[u,v] },toks := s.toks } := I.kept fun b o e => Heap.get?_push_of_some _ e
  have keepAll : ∀ b o,b ≠ z → b ≠ TO → b ≠ i1 → b ≠ i2 → s.heap.get? b = some o → h2'.get? b = some o := fun b o b1 b2 b3 b4 e => hs'.extBut _ _ b1 (kp b o b1 b2 b3 b4 e)
  have hnew : H s.heap.objs.size = none := I.hok.fresh (Nat.le_refl _)
  have Tz : s.heap.objs.size ≠ z := Nat.ne_of_gt zlt
  have ht2 : h2'.get? s.heap.objs.size = some { cls := .type "tuple",data := .seq #[u,v] } := hs'.extBut _ _ Tz a5
  have I2 : Inv X pins σ (upd H s.heap.objs.size (.tup [x,y])) { s with heap := h2',toks := s.toks } := by
   have there : ∀ q ∈ [z,TO,i1,i2],∃ o',h2'.get? q = some o' := by
    intro q hq
    obtain ⟨o1,e1,_⟩ := a3
    obtain ⟨o2,e2,_⟩ := a4
    simp only [List.mem_cons,List.not_mem_nil,or_false] at hq
    rcases hq with rfl | rfl | rfl | rfl
    ·exact ⟨_,hz'⟩
    ·exact ⟨_,hs'.extBut _ _ F.TOz a2⟩
    ·exact ⟨_,hs'.extBut _ _ F.i1z e1⟩
    ·exact ⟨_,hs'.extBut _ _ F.i2z e2⟩
   have nch : ∀ b,b ∉ [z,TO,i1,i2] → b ≠ z ∧ b ≠ TO ∧ b ≠ i1 ∧ b ≠ i2 := fun b hb => by
    simp only [List.mem_cons,List.not_mem_nil,or_false,not_or] at hb
    exact hb
   have trk : ∀ b u',H b = some u' → b ≠ z ∧ b ≠ TO ∧ b ≠ i1 ∧ b ≠ i2 := fun b u' e =>
    ⟨fun q => (by rw [q,fz.1] at e; cases e),fun q => (by rw [q,fTO.1] at e; cases e),fun q => (by rw [q,f1.1] at e; cases e),fun q => (by rw [q,f2.1] at e; cases e)⟩
   have okH : HOk X.prog X.w (upd H s.heap.objs.size (.tup [x,y])) h2' := fun b u' e => by
    by_cases hb : b = s.heap.objs.size
    ·subst hb
     rw [Jd] at e
     cases e
     exact ⟨(show 2 ≤ sizeLine by decide),[u,v],.cons ru (.cons rv .nil),⟨_,ht2,rfl,_,rfl⟩⟩
    ·rw [Jj hb] at e
     have hx := I.hok b u' e
     refine hx.stay (fun q o hq e2 => ?_) (fun q e2 => ?_) (fun q xs e2 => ?_)
     ·rcases hq with rfl | hq
      ·obtain ⟨b1,b2,b3,b4⟩ := trk q _ e
       exact keepAll q o b1 b2 b3 b4 e2
      ·obtain ⟨b1,b2,b3,b4⟩ := trk q _ hq
       exact keepAll q o b1 b2 b3 b4 e2
     ·rw [Jj (Je e2 hnew)]; exact e2
     ·rw [Jj (Je e2 hnew)]; exact e2
   refine I.step (g' := s.gens) (d' := s.drawn) (ch := [z,TO,i1,i2]) (fun b hb => ?_) (fun b o _ _ hcb e n => ?_) (fun b o _ _ hcb e n => ?_) (fun b o hcb e n => ?_) (fun b o hcb e => ?_) (fun b xs e => ?_) (fun b o u' e => ?_) (fun b ps e => ?_) (fun m hm => ?_) okH I.bare
   ·simp only [List.mem_cons,List.not_mem_nil,or_false] at hb
    rcases hb with rfl | rfl | rfl | rfl
    ·exact ⟨fz.2.2.2.1,fz.2.1,fz.2.2.2.2.1,fz.2.2.2.2.2⟩
    ·exact ⟨fTO.2.2.2.1,fTO.2.1,fTO.2.2.2.2.1,fTO.2.2.2.2.2⟩
    ·exact ⟨f1.2.2.2.1,f1.2.1,f1.2.2.2.2.1,f1.2.2.2.2.2⟩
    ·exact ⟨f2.2.2.2.1,f2.2.1,f2.2.2.2.2.1,f2.2.2.2.2.2⟩
   ·obtain ⟨b1,b2,b3,b4⟩ := nch b hcb
    exact keepAll b o b1 b2 b3 b4 e
   ·obtain ⟨b1,b2,b3,b4⟩ := nch b hcb
    exact ⟨o.slots,keepAll b o b1 b2 b3 b4 e⟩
   ·rw [Jj (Nat.ne_of_lt (Heap.lt_size e))]; exact n
   ·obtain ⟨b1,b2,b3,b4⟩ := nch b hcb
    exact ⟨o,keepAll b o b1 b2 b3 b4 e⟩
   ·rw [Jj (Je e hnew)]; exact e
   ·rw [Jj (Je e hnew)]; exact e
   ·exact ⟨#[],by rw [Jj (Je e hnew),e]; simp⟩
   ·obtain ⟨o,es',ep,ho,r⟩ := hm
    exact ⟨o,es',ep,keepAll _ o fz.2.1.symm fTO.2.1.symm f1.2.1.symm f2.2.1.symm ho,r⟩
  refine ⟨.ref s.heap.objs.size,_,I2,rfl,⟨_,x,y,hnew,fun zs hz => by rw [I.list_inj hz hq1]; exact hx,fun zs hz => by rw [I.list_inj hz hq2]; exact hy,rfl,rfl⟩,⟨hz',hs'.extBut _ _ F.TIz (kp _ _ F.TIz F.TITO F.TIi1 F.TIi2 hTI),⟨_,_,hs'.extBut _ _ F.TOz a2⟩,?_,?_⟩,fun b hb => ?_⟩
  ·obtain ⟨o,e,r⟩ := a3; exact ⟨o,hs'.extBut _ _ F.i1z e,r⟩
  ·obtain ⟨o,e,r⟩ := a4; exact ⟨o,hs'.extBut _ _ F.i2z e,r⟩
  ·rw [Jj (Nat.ne_of_lt (far b hb))]; exact (hf b hb).1
 done := by
  intro X hP hw hK hc i pins s σ H E I hf st hg
  subst hP hw hK
  obtain ⟨hz,hTI,⟨a,b,hTO⟩,h1,h2⟩ := st
  obtain ⟨xs,ys,hq1,hq2,hg⟩ := hg
  obtain ⟨ia,ra,pa,_⟩ := I.list hq1
  obtain ⟨ib,rb,pb,_⟩ := I.list hq2
  have la := ra.length
  have lb := rb.length
  have D := J5U F hz hTI hTO h1 h2 pa.isList pb.isList
  refine wpAny_pyNext_zip_end (I.ok.hd hc) D hz hTI hTO h1 h2 pa.isList pb.isList (by rcases hg with q | q; exact .inl (by simp; omega); exact .inr (by simp; omega)) fun h' kp => ⟨rfl,?_⟩
  refine I.turnedN (t' := s.toks) (ch := [z,TO,i1,i2]) (fun b o hb q => ?_) fun b hb => hf b ?_
  ·simp only [List.mem_cons,List.not_mem_nil,or_false,not_or] at hb
   exact kp b o hb.1 hb.2.1 hb.2.2.1 hb.2.2.2 q
  ·simp only [List.mem_cons,List.not_mem_nil,or_false] at hb ⊢
   rcases hb with q | q | q | q
   ·exact .inl q
   ·exact .inr (.inr (.inl q))
   ·exact .inr (.inr (.inr (.inl q)))
   ·exact .inr (.inr (.inr (.inr q)))
 self := fun _ _ _ _ _ st h => wpAny_pyIter_zip st.1 h
section
variable {X : Cx} {es : List Expr} {k : Nat} {tpos : Pos}
noncomputable def Jes (K : PySem.W.Frag) (ta : TA) : TI := fun σ H R => ta σ H fun vs H1 => ∃ a b,vs = [.ref a,.ref b] ∧ (∃ xs,SqL K H1 a xs) ∧ (∃ ys,SqL K H1 b ys) ∧ R (Izl K a b) H1
theorem JdR {a b : Expr} {ta : TA} {p pos : Pos} (hg : Gl X "zip") (hm : X.mg "zip" = none) (ha : PA X [a,b] ta) (hv : bootBuiltins "zip" = some (.type "zip") := by decide +kernel) (hs : starEach [a,b] X.env = [(false,eval a X.env),(false,eval b X.env)] := by rfl) (hs2 : starEach [b] X.env = [(false,eval b X.env)] := by rfl) :
  PI X (.Tuple es k tpos) (.Call (.Name "zip" p) [a,b] [] pos) (Jes X.K ta) := by
 intro pins s σ H R I h
 refine Call_ (J3r I hg hm hv (PyProof.Rows.callWith_type1 (thn (ha pos pins s σ H _ I h) fun us s1 ⟨vs,H1,I1,r1,q1⟩ => ?_) (by rw [hs,hs2]) (by rw [hs2]; rfl)))
 obtain ⟨l1,l2,e,⟨xs,hq1⟩,⟨ys,hq2⟩,q⟩ := q1
 subst e
 obtain ⟨u,v,rfl,ru,rv⟩ := r1.two
 cases ru; cases rv
 obtain ⟨ia,ra,pa,_⟩ := I1.list hq1
 obtain ⟨ib,rb,pb,_⟩ := I1.list hq2
 refine call_zip_2 pa.isList pb.isList fun h' a1 a2 a3 a4 a5 a6 kp => ?_
 have far : J3U (s1.heap.objs.size + 4) (s1.heap.objs.size + 2) (s1.heap.objs.size + 3) s1.heap.objs.size (s1.heap.objs.size + 1) := J7c _
 have I2 : Inv X pins σ H1 { s1 with heap := h' } := I1.kept (t' := s1.toks) kp
 refine wpAny_pyIter_zip a1 ⟨s1.heap.objs.size + 4,[s1.heap.objs.size + 4,s1.heap.objs.size + 2,s1.heap.objs.size + 3,s1.heap.objs.size,s1.heap.objs.size + 1],_,_,H1,rfl,I2,JbW far,⟨a1,a2,⟨_,_,a3⟩,a4,a5⟩,fun b hb => ?_,q⟩
 have hb' : s1.heap.objs.size ≤ b := by
  simp only [List.mem_cons,List.not_mem_nil,or_false] at hb
  rcases hb with rfl | rfl | rfl | rfl | rfl
  ·exact Nat.le_add_right _ _
  ·exact Nat.le_add_right _ _
  ·exact Nat.le_add_right _ _
  ·exact Nat.le_refl _
  ·exact Nat.le_add_right _ _
 exact I1.fpOk hb' (I1.hok.fresh hb')
end
theorem J4W {X : Cx} {es : List Expr} {k : Nat} {tpos : Pos} {K : PySem.W.Frag} {a b : Expr} {ta : TA} {p pos : Pos} (h : X.K = K) (hg : Gl X "zip") (hm : X.mg "zip" = none) (ha : PA X [a,b] ta) (hv : bootBuiltins "zip" = some (.type "zip") := by decide +kernel) (hs : starEach [a,b] X.env = [(false,eval a X.env),(false,eval b X.env)] := by rfl) (hs2 : starEach [b] X.env = [(false,eval b X.env)] := by rfl) :
  PI X (.Tuple es k tpos) (.Call (.Name "zip" p) [a,b] [] pos) (Jes K ta) := h ▸ JdR hg hm ha hv hs hs2
theorem J9N {K : PySem.W.Frag} {a b : Addr} {xs ys : List V} {g : TG} {tb : TS} {D : Ends} {σ : St} {H : Hp} (Pv : Nat → St → Hp → Prop) (h0 : Pv 0 σ H) (hl : ∀ i σ H,i ≤ xs.length → i ≤ ys.length → Pv i σ H → SqL K H a xs ∧ SqL K H b ys)
  (hs : ∀ i x y p σ H,xs[i]? = some x → ys[i]? = some y → H p = none → Pv i σ H → g (.ref p) σ (upd H p (.tup [x,y])) fun σ2 H2 => tb { D with nx := Pv (i + 1),ct := Pv (i + 1),bk := D.nx } σ2 H2) (hd : ∀ i σ H,i = xs.length ∨ i = ys.length → Pv i σ H → D.nx σ H) :
  ∃ W : Nat → Nat → St → Hp → Prop,(∃ m,W 0 m σ H) ∧ ∀ i m σ H,W i m σ H →
   ((Izl K a b).stop i H ∧ D.nx σ H) ∨ ((Izl K a b).go i H ∧ ∃ N : St → Hp → Prop,(∀ σ' H',N σ' H' → ∃ m',m' < m ∧ W (i + 1) m' σ' H') ∧ ∀ x H',(Izl K a b).yld i H x H' → g x σ H' fun σ2 H2 => tb { D with nx := N,ct := N,bk := D.nx } σ2 H2) := by
 refine ⟨fun i m σ H => m = xs.length - i ∧ i ≤ xs.length ∧ i ≤ ys.length ∧ Pv i σ H,⟨xs.length,by simp,Nat.zero_le _,Nat.zero_le _,h0⟩,?_⟩
 rintro i m σ H ⟨rfl,hi,hj,p⟩
 obtain ⟨q1,q2⟩ := hl i σ H hi hj p
 by_cases hlt : i < xs.length ∧ i < ys.length
 ·refine .inr ⟨⟨xs,ys,xs[i],ys[i],q1,q2,by simp [hlt.1],by simp [hlt.2]⟩,Pv (i + 1),fun σ' H' p' => ⟨xs.length - (i + 1),by omega,rfl,hlt.1,hlt.2,p'⟩,fun x H' y => ?_⟩
  obtain ⟨r,u,v,hr,e1,e2,rfl,rfl⟩ := y
  exact hs i u v r σ H (e1 xs q1) (e2 ys q2) hr p
 ·have e : i = xs.length ∨ i = ys.length := by omega
  exact .inl ⟨⟨xs,ys,q1,q2,by omega⟩,hd i σ H e p⟩
end L2
set_option linter.all false
set_option maxRecDepth 100000
set_option maxHeartbeats 4000000
namespace L2
open PySem PySem.Spec PyProof.Rows
section
variable {X : Cx} {elt tg iter : Expr} {ifs : List Expr} {scope : Scope} {pos : Pos} {N : List Str} {js : List (Option Nat)} {wi : TI} {g : TG} {tc : TT} {te : TE}
theorem J3o {osc : Scope} {ON : List Str} {k : Nat} {y : Str} {py spos : Pos} (hN : X.N.Nodup) (hk : X.N[k]? = some y) (hky : Loc X.env.scope y) (cs : J40 osc ON scope N js) (ho : X.env.scope = osc) (hON : X.N = ON) (hc : X.calm = true) (hi : PI X tg iter wi)
    (hg : ∀ s₀ H₀ cl C ex,PG (J1x X scope N s₀ H₀ cl C ex) tg g) (hif : ∀ s₀ H₀ cl C ex,PIfs (J1x X scope N s₀ H₀ cl C ex) ifs tc) (he : ∀ s₀ H₀ cl C ex,PE (J1x X scope N s₀ H₀ cl C ex) elt te)
    (hsw : swapsWith (.ListComp elt [⟨tg,iter,ifs,0⟩] scope pos) (some (.Name y py)) spos.line X.env = pure true := by rfl)
    (hs : ∀ x,foldedSetIterable iter X.env x = pure x := by intro _; rfl) (hf : X.fn y = true ∨ X.env.scope.names.lookup y = some .local := by first | exact .inl rfl | exact .inr rfl | assumption) :
    PS X (.Assign [.Name y py] (.ListComp elt [⟨tg,iter,ifs,0⟩] scope pos) spos) (tAsg (JcQ wi (subσ js) g tc te) (J4P k)) := by
  intro pins s σ H Dn I h0
  have h : JcQ wi (subσ js) g tc te σ H (fun v H' => Dn.nx (σ.set k (some v)) H') := h0
  subst ho hON
  obtain ⟨cl,hcl,cl1,cl2⟩ := J4b (scope := scope) (env := X.env) fun y hy hf => I.ok.has y.1 (cs.free y hy hf)
  rw [exec_Assign_Name_used _ _ _ _ hsw]
  refine wpAny_bind (wpAny_standAt (wpAny_bind ?_))
  show wpAny _ X.A (do let _ ← comprehension (.ListComp elt [⟨tg,iter,ifs,0⟩] scope pos) scope X.env _ (newList []) false (eval iter X.env) (some (assign (.Name y py) X.env))) _ _ s
  refine wpAny_bind (wpAny_mono (wpAny_comprehension_free (use := some (assign (.Name y py) X.env)) (Q := fun _ s' => SP X pins Dn .next s') rfl hs hcl cs.kind cs.names ?_) (fun _ s' hq => wpAny_pure (wpAny_pure hq)) fun _ _ e => e)
  refine thn (hi pins s σ H _ I h) fun v s1 h1 => thn h1 fun itv s2 h2 => ?_
  obtain ⟨it,fp,tn,J,H2,e,I2,T,st2,f2,hW⟩ := h2
  subst e
  have hD0 : H2 s2.heap.objs.size = none := I2.hok.fresh (Nat.le_refl _)
  obtain ⟨W,⟨m0,w0⟩,turn⟩ := hW s2.heap.objs.size hD0
  have I3 := I2.lnew (t' := s2.toks) (ys := []) (its := []) .nil (Nat.zero_le _)
  refine wpAny_newObj_type (wpAny_newFunctionEnv cs.cell (by intro y hy; simp at hy) (fun h₁ hns₁ hsb₁ => ?_) cs.kind)
  dsimp only at hns₁ hsb₁ ⊢
  obtain ⟨s3,hs3⟩ : ∃ s3 : Shared,s3 = { s2 with heap := s2.heap.push { cls := .type "list",data := .seq ([] : List Value).toArray },toks := s2.toks } := ⟨_,rfl⟩
  rw [← hs3] at I3
  have e3 : s3.heap = s2.heap.push { cls := .type "list",dict := none,data := .seq ([] : List Value).toArray } := by rw [hs3]
  have e3o : s3.os = s2.os := by rw [hs3]
  have e3g : s3.gens = s2.gens := by rw [hs3]
  rw [← e3] at hns₁ hsb₁ ⊢
  obtain ⟨H3,hH3⟩ : ∃ H3 : Hp,H3 = upd H2 s2.heap.objs.size (.lst []) := ⟨_,rfl⟩
  rw [← hH3] at I3 w0
  have up1 : ∀ b o,s2.heap.get? b = some o → s3.heap.get? b = some o := fun b o q => by rw [e3]; exact Heap.get?_push_of_some _ q
  have up2 : ∀ b o,s3.heap.get? b = some o → h₁.get? b = some o := fun b o q => hsb₁.extBut b o (Nat.ne_of_lt (Heap.lt_size q)) (Heap.get?_push_of_some _ q)
  have fpo : ∀ b ∈ fp,∃ o,s3.heap.get? b = some o := fun b hb => by
    obtain ⟨o,ho,_⟩ := T.obj 0 _ st2 b hb
    exact ⟨o,up1 b o ho⟩
  have fr3 : ∀ b ∈ fp,H3 b = none := fun b hb => by
    obtain ⟨o,ho,_⟩ := T.obj 0 _ st2 b hb
    rw [hH3,Jj (Nat.ne_of_lt (Heap.lt_size ho))]
    exact (f2 b hb).1
  have fpC : ∀ b ∈ fp,b ≠ s3.heap.objs.size := fun b hb => by
    obtain ⟨o,ho⟩ := fpo b hb
    exact Nat.ne_of_lt (Heap.lt_size ho)
  have fpS : ∀ b ∈ fp,b ∉ frs X.stack := fun b hb hs' => by
    rcases List.mem_cons.mp (I2.stkSub b hs') with z | z
    · exact (f2 b hb).2.1 z
    · exact (f2 b hb).2.2.1 z
  have ok' : (J1x X scope N s3 H3 cl s3.heap.objs.size fp).Ok := by
    refine ⟨I.ok.mod,cs.kind,I.ok.glob,I.ok.blt,Nat.le_refl _,fun x y c e1 e2 => I.ok.inj x y c (cl2 x c e1) (cl2 y c e2),fun x hx => ?_,fun x c hf => (nomatch hf),I.ok.hd,I.ok.frames,.inl rfl,fun b hb => ⟨fpC b hb,fun x c e => (f2 b hb).2.2.2.2.1 x c (cl2 x c e)⟩,
      I3.bs,Nat.le_trans I.ok.bsz I3.sz,fun b o e hb => ?_,fun b hb => fpS b hb,I3.stack,I3.stkFree⟩
    · have hm : (x,NameKind.free) ∈ scope.names := J3v cs.cell hx
      obtain ⟨c,hc⟩ := I.ok.has x (cs.free _ hm rfl)
      exact ⟨c,(cl1 _ hm rfl).trans hc⟩
    · rcases (f2 b hb).2.2.2.1 with z | z
      · exact I.ok.noex b o e z
      · exact absurd (Nat.lt_of_lt_of_le (Heap.lt_size e) (Nat.le_trans I.ok.bsz z)) (Nat.lt_irrefl _)
  have cellK : ∀ c v,s3.heap.IsCell c v → h₁.IsCell c v := fun c v ⟨o,ho,hd⟩ => ⟨o,up2 c o ho,hd⟩
  have I4 : ∀ t : Nat,Inv (J1x X scope N s3 H3 cl s3.heap.objs.size fp) [] (subσ js σ) H3 { s2 with heap := h₁,toks := t } := fun t => by
    refine ⟨ok',e3o.symm,I2.bare,Un.kept up2,⟨_,hns₁,fun i x v hi hv hx => ?_⟩,fun x c e => ?_,I3.hok.fresh (Nat.le_refl _),fun x c e => I3.freeC x c (cl2 x c e),fun p hp => (nomatch hp),I3.hok.kept up2,?_⟩
    ·
      have hv' : ∃ j,js[i]? = some (some j) ∧ σ[j]? = some (some v) := by
        unfold subσ at hv
        rw [List.getElem?_map] at hv
        cases hj : js[i]? with
        | none => rw [hj] at hv; cases hv
        | some o =>
          rw [hj] at hv
          cases o with
          | none => cases hv
          | some j =>
            refine ⟨j,rfl,?_⟩
            have hv2 : (σ[j]?).join = some v := Option.some.inj hv
            cases hs2 : σ[j]? with
            | none => rw [hs2] at hv2; cases hv2
            | some u => rw [hs2] at hv2; exact congrArg some hv2
      obtain ⟨j,hj,hσ⟩ := hv'
      obtain ⟨x',h1',h2',h3'⟩ := cs.sub i j hj
      have hxx : x = x' := Option.some.inj (hi.symm.trans h1')
      subst hxx
      have hm : (x,NameKind.free) ∈ scope.names := mem_of_lookup h3'
      have hk := cs.free _ hm rfl
      obtain ⟨m,hn,hl⟩ := id I3.loc
      obtain ⟨u,ru,lk⟩ := hl j x v h2' hσ (by rcases hk with z | z; exact .inr (.inl z); exact .inr (.inr z))
      refine ⟨u,ru,?_⟩
      rcases lk with ⟨k1,_⟩ | ⟨k1,c,e1,z⟩
      · rcases hk with z | z <;> (rw [show X.env.kindOf x = _ from z] at k1; cases k1)
      · exact .inr ⟨J25 h3',c,(cl1 _ hm rfl).trans e1,cellK c _ z⟩
    · obtain ⟨v,z⟩ := I3.cell x c (cl2 x c e)
      exact ⟨v,cellK c v z⟩
    · unfold subσ
      rw [List.length_map]
      exact cs.len
  have hst₁ : tn 0 h₁ := T.keep 0 _ _ st2 fun b hb o q => up2 b o (up1 b o q)
  have stat : ∀ {H' : Hp},(∀ b ∈ fp,H' b = none) → ∀ b ∈ fp,FpOk (J1x X scope N s3 H3 cl s3.heap.objs.size fp) [] H' b := fun hn b hb =>
    ⟨hn b hb,fpC b hb,fpS b hb,.inl hb,fun x c e => (f2 b hb).2.2.2.2.1 x c (cl2 x c e),fun p hp => (nomatch hp)⟩
  have loop : ∀ s4 : Shared,(∃ t,s4 = { s2 with heap := h₁,toks := t }) →
      codeAny (model X.prog X.w) X.A (.compLoop (.ListComp elt [⟨tg,iter,ifs,0⟩] scope pos) 0 (.ref it) (.ref s2.heap.objs.size) (compEnvC scope cl s3.heap.objs.size X.env))
        (compPost (model X.prog X.w) X.A X.xe (some (assign (.Name y py) X.env)) (fun _ s' => SP X pins Dn .next s') (.ref s2.heap.objs.size) s3.heap.objs.size) s4 := by
    rintro s4 ⟨t,rfl⟩
    refine J4Y (fun n s' => ∃ i σ' ys H',Inv (J1x X scope N s3 H3 cl s3.heap.objs.size fp) [] σ' H' s' ∧ tn i s'.heap ∧ (∀ b ∈ fp,H' b = none) ∧ W i n σ' ys H') ?_ m0 ⟨0,_,[],H3,I4 t,hst₁,fr3,w0⟩
    rintro n s5 ⟨i,σ5,ys,H5,I5,st5,fr5,w5⟩
    rcases turn i n σ5 ys H5 w5 with ⟨stop,qn⟩ | ⟨go,step⟩
    · refine thn (T.done (J1x X scope N s3 H3 cl s3.heap.objs.size fp) rfl rfl rfl hc i [] s5 σ5 H5 _ I5 (stat fr5) st5 stop) fun r s6 ⟨hr,I6⟩ => ?_
      subst hr
      obtain ⟨m,hn,_⟩ := id I6.loc
      have IX : ∀ h',Heap.SameBut s3.heap.objs.size s6.heap h' → Inv X pins σ H5 { s6 with heap := h' } := fun h' hs' => by
        have neC : ∀ b o,s3.heap.get? b = some o → b ≠ s3.heap.objs.size := fun b o q => Nat.ne_of_lt (Heap.lt_size q)
        have un : Un (frs X.stack) fp H3 H5 s3.heap h' :=
          ⟨fun b o q n1 hb hx => (hs'.2 b (neC b o q)).trans (I6.base.keep b o q n1 hb hx),
           fun b o q n1 hb hx => by
             obtain ⟨sl,e⟩ := I6.base.slot b o q n1 hb hx
             exact ⟨sl,(hs'.2 b (neC b o q)).trans e⟩,
           fun b o q n1 hx => I6.base.free b o q n1 hx,
           fun b o q hx => by
             obtain ⟨o',e⟩ := I6.base.there b o q hx
             exact ⟨o',(hs'.2 b (neC b o q)).trans e⟩,
           I6.base.tups,I6.base.frzs,I6.base.tbls⟩
        refine I3.call' (ch := fp) (s' := { s6 with heap := h' }) I6.os un (fun b ob e => ?_) I6.bare (fun b hb => ⟨(f2 b hb).2.2.2.1,(f2 b hb).2.1,(f2 b hb).2.2.2.2.1,(f2 b hb).2.2.2.2.2⟩)
        refine (I6.hok b ob e).stay (fun c w' hc' q => (hs'.2 c ?_).trans q) (fun _ q => q) fun _ _ q => q
        rintro rfl
        have fC : H5 s3.heap.objs.size = none := I6.free
        rcases hc' with z | z
        · rw [← z,fC] at e; cases e
        · rw [fC] at z; cases z
      have fC : H5 s3.heap.objs.size = none := I6.free
      have IY : Inv X pins σ H5 s6 := IX s6.heap (Heap.SameBut.refl ..)
      have fo : FpOk X pins H5 s3.heap.objs.size := I3.fpOk (Nat.le_refl _) fC
      obtain ⟨oC,es,ep,ho1,hd1,hrest⟩ := id hn
      have IZ := IY.pinned (fp := [s3.heap.objs.size]) (fun b hb => by obtain rfl : b = _ := (by simpa using hb); exact fo) (fun b hb => by obtain rfl : b = _ := (by simpa using hb); exact ⟨oC,ho1,fun v z => by rw [hd1] at z; cases z⟩)
      show wpAny _ X.A (assign (.Name y py) X.env (.ref s2.heap.objs.size)) _ _ s6
      refine wpAny_assign_Name (J4T IZ hN hk hky (show RelV (.ref s2.heap.objs.size) (.ref s2.heap.objs.size) from rfl) (fun s7 I7 => ?_) hf)
      have hC7 : s7.heap.get? s3.heap.objs.size = some oC := (I7.pin (s3.heap.objs.size,oC) (List.mem_append_right _ (List.mem_append_right _ (J2d (by simp) ho1)))).1
      refine ⟨m,hn.at' fun o e => ?_,fun h' hs' => ⟨_,H5,?_,qn⟩⟩
      · rw [ho1] at e; cases e; exact hC7
      · have I8 := I7.unpinned
        exact I8.turned (t' := s7.toks) (fun b o hb e => (hs'.2 b hb).trans e) fo.1 fo.2.1 fo.2.2.2.1 fo.2.2.2.2.1 fo.2.2.2.2.2
    · refine thn (T.item (J1x X scope N s3 H3 cl s3.heap.objs.size fp) rfl rfl rfl hc i [] s5 σ5 H5 _ I5 (stat fr5) st5 go) fun r s6 ⟨u,hr,h6⟩ => ?_
      subst hr
      refine thn h6 fun _ s7 ⟨x,H7,I7,r7,y7,st7,fr7⟩ => ?_
      have I7' := I7.pinned (stat fr7) (T.obj _ _ st7)
      refine thn (hg _ _ _ _ _ _ s7 σ5 H7 x u _ I7' r7 (step x H7 y7)) fun _ s8 ⟨σ8,H8,I8,q8⟩ => ?_
      refine thn (hif _ _ _ _ _ _ s8 σ8 H8 _ I8 q8) fun ok s9 ⟨H9,I9,q9⟩ => ?_
      have again : ∀ {σ' : St} {H' : Hp} {s' : Shared},Inv (J1x X scope N s3 H3 cl s3.heap.objs.size fp) ([] ++ J5A fp s7.heap) σ' H' s' →
          Inv (J1x X scope N s3 H3 cl s3.heap.objs.size fp) [] σ' H' s' ∧ tn (i + 1) s'.heap ∧ ∀ b ∈ fp,H' b = none := fun {σ' H' s'} I' => by
        refine ⟨I'.unpinned,T.keep _ _ _ st7 fun b hb o e => (I'.pin (b,o) (List.mem_append_right _ (List.mem_append_right _ (J2d hb e)))).1,fun b hb => ?_⟩
        obtain ⟨o,e,d⟩ := T.obj _ _ st7 b hb
        exact (I'.pin (b,o) (List.mem_append_right _ (List.mem_append_right _ (J2d hb e)))).2.1
      cases ok with
      | false =>
        rw [if_neg Bool.false_ne_true] at q9 ⊢
        obtain ⟨m',hm,w9⟩ := q9
        obtain ⟨a1,a2,a3⟩ := again I9
        exact ⟨m',hm,i + 1,σ8,ys,H9,a1,a2,a3,w9⟩
      | true =>
        rw [if_pos rfl] at q9 ⊢
        refine thn (he _ _ _ _ _ _ s9 σ8 H9 _ I9 q9) fun yv s10 ⟨y,H10,I10,r10,q10⟩ => ?_
        obtain ⟨hD,hz,m',hm,w10⟩ := q10
        refine thn (J1w (X := J1x X scope N s3 H3 cl s3.heap.objs.size fp) _ s10 σ8 H10 (.ref s2.heap.objs.size) [y] (.ref s2.heap.objs.size) [yv] (fun v H' => H' = upd H10 s2.heap.objs.size (.lst (ys ++ [y]))) I10 rfl (.cons r10 .nil)
          ⟨s2.heap.objs.size,ys,y,rfl,rfl,hD,hz,rfl⟩) fun _ s11 ⟨v11,H11,I11,_,e11⟩ => ?_
        have e11' : H11 = upd H10 s2.heap.objs.size (.lst (ys ++ [y])) := e11
        subst e11'
        obtain ⟨a1,a2,a3⟩ := again I11
        exact ⟨m',hm,i + 1,σ8,ys ++ [y],_,a1,a2,a3,w10⟩
  exact codeAny_compStart_list (loop _ ⟨_,rfl⟩) (T.self X.A 0 _ _ _ hst₁ (loop _ ⟨_,rfl⟩))
end
end L2
set_option linter.all false
namespace L2
open PySem PySem.StrLaws Builtin Builtin.Str
end L2
set_option linter.all false
set_option maxRecDepth 100000
set_option maxHeartbeats 4000000
namespace L2
open PySem PySem.Spec PyProof.Rows
section
variable {X : Cx} {e : Expr} {es : List Expr} {te : TE} {tr : TF} {pos : Pos}
end
end L2
set_option linter.all false
set_option maxRecDepth 100000
set_option maxHeartbeats 4000000
namespace L2
open PySem PySem.Spec PyProof.Rows
section
variable {X : Cx} {x m : Str} {k : Nat} {ps : List Str} {sp : Sp} {C : Addr} {p pos apos : Pos} {e o : Expr} {es : List Expr} {t : TA} {to : TE}
theorem J3t {r : List V → Hp → VK → Prop} (G : MkG X.prog X.w X.K X.mg X.base C x k ps sp) (hr : Room (k + 1) X.A)
  (imp : ∀ vs H Q,r vs H Q → ∀ x dx,H x = none → H dx = none → dx ≠ x → sp (.ref x :: (vs ++ [])) (upd (upd H dx (.own x)) x (.ins C dx [])) (fun v H2 => v = .non ∧ Q (.ref x) H2) E0)
  (ha : PA X (e :: es) t) (hg : Gl X x := by rfl) (hdb : (x == ("__debug__" : Str)) = false := by decide)
  (he : starEach (e :: es) X.env = (false,eval e X.env) :: starEach es X.env := by rfl) (hpl : (backTo pos (starEach es X.env)).any (·.1) = false := by rfl) : PE X (.Call (.Name x p) (e :: es) [] pos) (tCB r t) := by
 obtain ⟨f,fd,a,M,hm,hb⟩ := G
 intro pins s σ H Q I h
 refine wpAny_Call_Name_kw (J68 I hg hm ?_ hdb)
 refine PySem.W.callWith_K (h₀ := X.base) I.ok.mod.kin M.kp (thn (ha pos pins s σ H _ I h) fun us s1 ⟨vs,H1,I1,rv,q⟩ => ⟨I1.kIn,?_⟩) he hpl
 exact Jdc M a hr hb .nil JaV I1 rv (imp vs H1 Q q)
end
end L2
set_option linter.all false
set_option maxRecDepth 100000
set_option maxHeartbeats 4000000
namespace L2
open PySem PySem.Spec PyProof.Rows
noncomputable def All2 {α : Type} (P : α → V → Hp → Prop) (H : Hp) : List α → List V → Prop
 | [],[] => True
 | a :: as,y :: ys => P a y H ∧ All2 P H as ys
 | _,_ => False
section
variable {α : Type} {P : α → V → Hp → Prop} {H H' : Hp}
theorem All2.len : ∀ {as : List α} {ys : List V},All2 P H as ys → ys.length = as.length
 | [],[],_ => rfl
 | _ :: _,_ :: _,h => by rw [List.length_cons,List.length_cons,All2.len h.2]
 | [],_ :: _,h => h.elim
 | _ :: _,[],h => h.elim
theorem All2.snoc : ∀ {as : List α} {ys : List V} {a : α} {y : V},All2 P H as ys → P a y H → All2 P H (as ++ [a]) (ys ++ [y])
 | [],[],_,_,_,p => ⟨p,trivial⟩
 | _ :: _,_ :: _,_,_,h,p => ⟨h.1,All2.snoc h.2 p⟩
 | [],_ :: _,_,_,h,_ => h.elim
 | _ :: _,[],_,_,h,_ => h.elim
theorem All2.imp {P' : α → V → Hp → Prop} : ∀ {as : List α} {ys : List V},All2 P H as ys → (∀ a y,P a y H → P' a y H') → All2 P' H' as ys
 | [],[],_,_ => trivial
 | _ :: _,_ :: _,h,f => ⟨f _ _ h.1,All2.imp h.2 f⟩
 | [],_ :: _,h,_ => h.elim
 | _ :: _,[],h,_ => h.elim
theorem All2.get : ∀ {as : List α} {ys : List V} {i : Nat} {a : α},All2 P H as ys → as[i]? = some a → ∃ y,ys[i]? = some y ∧ P a y H
 | [],[],_,_,_,e => by simp at e
 | b :: _,y :: _,0,a,h,e => ⟨y,rfl,by rw [← (Option.some.inj e : b = a)]; exact h.1⟩
 | _ :: as,_ :: ys,i + 1,a,h,e => All2.get (as := as) (ys := ys) (i := i) h.2 (by simpa using e)
 | [],_ :: _,_,_,h,_ => h.elim
 | _ :: _,[],_,_,h,_ => h.elim
theorem All2.back : ∀ {as : List α} {ys : List V} {i : Nat} {y : V},All2 P H as ys → ys[i]? = some y → ∃ a,as[i]? = some a ∧ P a y H
 | [],[],_,_,_,e => by simp at e
 | b :: _,z :: _,0,y,h,e => ⟨b,rfl,by rw [← (Option.some.inj e : z = y)]; exact h.1⟩
 | _ :: as,_ :: ys,i + 1,y,h,e => All2.back (as := as) (ys := ys) (i := i) h.2 (by simpa using e)
 | [],_ :: _,_,_,h,_ => h.elim
 | _ :: _,[],_,_,h,_ => h.elim
theorem All2.eqmap {f : α → V} : ∀ {as : List α} {ys : List V},All2 P H as ys → (∀ a y,P a y H → y = f a) → ys = as.map f
 | [],[],_,_ => rfl
 | _ :: _,_ :: _,h,g => by rw [List.map_cons,← g _ _ h.1,← All2.eqmap h.2 g]
 | [],_ :: _,h,_ => h.elim
 | _ :: _,[],h,_ => h.elim
end
noncomputable def JY (Ha Hb : Hp) : Prop := ∀ a ob,Ha a = some ob → (∀ zs,ob ≠ .lst zs) → Hb a = some ob
theorem Same.keeps {Ha Hb : Hp} (h : Same Ha Hb) : JY Ha Hb := fun a ob e _ => h a ob e
theorem JY.trans {Ha Hb Hc : Hp} (h : JY Ha Hb) (h' : JY Hb Hc) : JY Ha Hc := fun a ob e n => h' a ob (h a ob e n) n
theorem J0z {Ha : Hp} {D : Addr} {zs ys : List V} (h : Ha D = some (.lst zs)) : JY Ha (upd Ha D (.lst ys)) := fun a ob e hn => by
 by_cases c : a = D
 ·subst c; rw [h] at e; cases e; exact absurd rfl (hn zs)
 ·rw [Jj c]; exact e
theorem J4U {α : Type} {J : It} {H : Hp} {σ0 : St} {g : TG} {tc : TT} {te : TE} {Q : VK} (xs : List α) (p : α → Bool) (P : α → V → Hp → Prop) (sh : St → Prop) (hx : xs.length ≤ 1000000) (h0 : sh σ0)
  (hgo : ∀ i H',Same H H' → i < xs.length → J.go i H') (hstop : ∀ H',Same H H' → J.stop xs.length H')
  (hk : ∀ a y Ha Hb,JY Ha Hb → P a y Ha → P a y Hb)
  (step : ∀ (i : Nat) a σ x H' H'',xs[i]? = some a → sh σ → Same H H' → J.yld i H' x H'' → ∀ (Rf : St → Hp → Prop) (Rt : St → V → Hp → Prop),
   (∀ σ2 H3,p a = false → sh σ2 → Same H' H3 → Rf σ2 H3) → (∀ σ2 y H4,p a = true → sh σ2 → Same H' H4 → P a y H4 → Rt σ2 y H4) →
   g x σ H'' fun σ2 H2 => tc σ2 H2 fun b H3 => if b = true then te σ2 H3 (fun y H4 => Rt σ2 y H4) else Rf σ2 H3)
  (hQ : ∀ D H' ys,H D = none → Same H H' → All2 P H' (xs.filter p) ys → H' D = some (.lst ys) → Q (.ref D) H') : J5W J H σ0 g tc te Q := by
 intro D hD
 refine ⟨fun i m σ1 ys H' => m = xs.length - i ∧ i ≤ xs.length ∧ sh σ1 ∧ All2 P H' ((xs.take i).filter p) ys ∧ H' D = some (.lst ys) ∧ Same H H',⟨xs.length,by simp,Nat.zero_le _,h0,trivial,Jd,JB hD _⟩,?_⟩
 rintro i m σ1 ys H' ⟨rfl,hi,hσ,hP,hDD,hs⟩
 by_cases hlt : i < xs.length
 ·refine .inr ⟨hgo i H' hs hlt,fun x H'' hy => ?_⟩
  have ha : xs[i]? = some xs[i] := List.getElem?_eq_getElem hlt
  have ht : xs.take (i + 1) = xs.take i ++ [xs[i]] := by rw [List.take_add_one,ha]; rfl
  refine step i xs[i] σ1 x H' H'' ha hσ hs hy _ _ (fun σ2 H3 hf sh2 s3 => ?_) (fun σ2 y H4 hf sh2 s4 py => ?_)
  ·refine ⟨xs.length - (i + 1),by omega,rfl,hlt,sh2,?_,s3 _ _ hDD,hs.trans s3⟩
   rw [ht,List.filter_append,List.filter_cons,hf]
   show All2 P H3 (List.filter p (xs.take i) ++ []) ys
   rw [List.append_nil]
   exact hP.imp fun a y => hk a y _ _ s3.keeps
  ·have hl := hP.len
   refine ⟨s4 _ _ hDD,?_,xs.length - (i + 1),by omega,rfl,hlt,sh2,?_,Jd,(hs.trans s4).upd hD⟩
   ·have h1 := List.length_filter_le p (xs.take i)
    rw [List.length_take] at h1
    have : (1000001 : Nat) ≤ sizeLine := by decide
    omega
   ·rw [ht,List.filter_append,List.filter_cons,hf]
    have kk : JY H4 (upd H4 D (.lst (ys ++ [y]))) := J0z (s4 _ _ hDD)
    exact All2.snoc (hP.imp fun a y => hk a y _ _ (s4.keeps.trans kk)) (hk _ _ _ _ kk py)
 ·have e : i = xs.length := by omega
  subst e
  refine .inl ⟨hstop H' hs,hQ D H' ys hD hs ?_ hDD⟩
  rw [List.take_of_length_le (Nat.le_refl _)] at hP
  exact hP
theorem JF {α : Type} {J : It} {H : Hp} {σ0 : St} {g : TG} {tc : TT} {te : TE} {Q : VK} {vs : List V} (xs : List α) (p : α → Bool) (P : α → V → Hp → Prop) (sh : St → Prop) (hJ : J9A J H vs) (hv : vs.length = xs.length) (hx : xs.length ≤ 1000000) (h0 : sh σ0)
  (hk : ∀ a y Ha Hb,JY Ha Hb → P a y Ha → P a y Hb)
  (step : ∀ (i : Nat) a v σ H',xs[i]? = some a → vs[i]? = some v → sh σ → Same H H' → ∀ (Rf : St → Hp → Prop) (Rt : St → V → Hp → Prop),
   (∀ σ2 H3,p a = false → sh σ2 → Same H' H3 → Rf σ2 H3) → (∀ σ2 y H4,p a = true → sh σ2 → Same H' H4 → P a y H4 → Rt σ2 y H4) →
   g v σ H' fun σ2 H2 => tc σ2 H2 fun b H3 => if b = true then te σ2 H3 (fun y H4 => Rt σ2 y H4) else Rf σ2 H3)
  (hQ : ∀ D H' ys,H D = none → Same H H' → All2 P H' (xs.filter p) ys → H' D = some (.lst ys) → Q (.ref D) H') : J5W J H σ0 g tc te Q := by
 refine J4U xs p P sh hx h0 (fun i H' s hi => hJ.go i H' s (by omega)) (fun H' s => by rw [← hv]; exact hJ.stop H' s) hk (fun i a σ x H' H'' ha hσ s hy => ?_) hQ
 have hi : i < xs.length := (List.getElem?_eq_some_iff.mp ha).1
 obtain ⟨e,hx⟩ := hJ.yld i H' x H'' s (by omega) hy
 subst e
 exact step i a x σ H'' ha hx hσ s
theorem J72 {α : Type} {K : PySem.W.Frag} {l1 l2 : Addr} {H : Hp} {σ0 : St} {g : TG} {tc : TT} {te : TE} {Q : VK} {us vs : List V} (xs : List α) (p : α → Bool) (P : α → V → Hp → Prop) (sh : St → Prop) (hu : SqL K H l1 us) (hv : SqL K H l2 vs) (lu : us.length = xs.length) (lv : vs.length = xs.length) (hx : xs.length ≤ 1000000) (h0 : sh σ0)
  (hk : ∀ a y Ha Hb,JY Ha Hb → P a y Ha → P a y Hb)
  (step : ∀ (i : Nat) a u v q σ H',xs[i]? = some a → us[i]? = some u → vs[i]? = some v → sh σ → Same H H' → H' q = none → ∀ (Rf : St → Hp → Prop) (Rt : St → V → Hp → Prop),
   (∀ σ2 H3,p a = false → sh σ2 → Same H' H3 → Rf σ2 H3) → (∀ σ2 y H4,p a = true → sh σ2 → Same H' H4 → P a y H4 → Rt σ2 y H4) →
   g (.ref q) σ (upd H' q (.tup [u,v])) fun σ2 H2 => tc σ2 H2 fun b H3 => if b = true then te σ2 H3 (fun y H4 => Rt σ2 y H4) else Rf σ2 H3)
  (hQ : ∀ D H' ys,H D = none → Same H H' → All2 P H' (xs.filter p) ys → H' D = some (.lst ys) → Q (.ref D) H') : J5W (Izl K l1 l2) H σ0 g tc te Q := by
 refine J4U xs p P sh hx h0 (fun i H' s hi => ⟨us,vs,us[i],vs[i],s.seq hu,s.seq hv,by simp [lu,hi],by simp [lv,hi]⟩) (fun H' s => ⟨us,vs,s.seq hu,s.seq hv,.inl (by omega)⟩) hk (fun i a σ x H' H'' ha hσ s hy => ?_) hQ
 obtain ⟨q,u,v,hq,e1,e2,rfl,rfl⟩ := hy
 exact step i a u v q σ H' ha (e1 us (s.seq hu)) (e2 vs (s.seq hv)) hσ s hq
theorem J4o : ∀ {ns : List Int} {its : List Value},Vals (ns.map V.int) its → ∃ xs : List (Int × Tok),its = xs.map (fun p => Value.int p.1 p.2) ∧ xs.map (·.1) = ns
 | [],_,.nil => ⟨[],rfl,rfl⟩
 | n :: ns,_,.cons r t => by
  obtain ⟨k,rfl⟩ := r
  obtain ⟨xs,e,h⟩ := J4o t
  exact ⟨(n,k) :: xs,by rw [e]; rfl,by rw [List.map_cons,h]⟩
section
variable {X : Cx} {K : PySem.W.Frag}
theorem J3e (hc : X.calm = true) (h : X.K = K) : J2m X (.builtin "sum") (fun xs H Q => ∃ (D : Addr) (ns : List Int),xs = [.ref D] ∧ SqL K H D (ns.map V.int) ∧ Q (.int ns.sum) H) := by
 subst h
 intro pins s σ H xs us Q I r h
 obtain ⟨D,ns,rfl,hq,q⟩ := h
 obtain ⟨u,rfl,ru⟩ := r.one
 cases ru
 obtain ⟨its,rv,pl,_⟩ := I.list hq
 obtain ⟨xs,rfl,rfl⟩ := J4o rv
 have e : (xs.map fun p => Value.int p.1 p.2).toArray = intItems xs.toArray := by simp [intItems]
 refine sum_intListG (xs := xs.toArray) (I.ok.hd hc) (by rw [← e]; exact pl.isList) fun h' tk t' hk => ?_
 rw [preSum_eq,List.take_of_length_le (by simp)]
 exact ⟨.int (xs.map (·.1)).sum,H,I.kept (fun b o e => hk b o e),⟨t',rfl⟩,q⟩
theorem J8N {es : List Expr} {k : Nat} {t : TGs} {n : Nat} {pos : Pos} (hK : X.K = K) (hc : X.calm = true) (h : PGs X es t)
  (hn : (assignEach es X.env).length = n := by rfl) (hst : (assignEach es X.env).findIdx? (·.1) = none := by rfl) : PG X (.Tuple es k pos) (gTup K n t) := hK ▸ J2C hc h hn hst
end
theorem J7b : bootBuiltins "sum" = some (.builtin "sum") := by decide +kernel
end L2
set_option linter.all false
set_option maxRecDepth 100000
set_option maxHeartbeats 4000000
namespace L2
open PySem PySem.Spec PyProof.Rows
noncomputable def Iel (K : PySem.W.Frag) (l : Addr) : It :=
  ⟨fun i H => ∃ xs x,SqL K H l xs ∧ xs[i]? = some x,
   fun i H v H' => ∃ p x,H p = none ∧ (∀ xs,SqL K H l xs → xs[i]? = some x) ∧ v = .ref p ∧ H' = upd H p (.tup [.int i,x]),
   fun i H => ∃ xs,SqL K H l xs ∧ xs.length ≤ i⟩
theorem Jay {P : Program} {w : World} {K : PySem.W.Frag} {es : List Expr} {k : Nat} {pos : Pos} {z it l : Addr} (zi : z ≠ it) :
  Turn P w K (.Tuple es k pos) (Iel K l) [z,it] z (fun i h => (∃ old,IsEnum h z it (i : Int) old) ∧ h.IsListIter it l i) where
 mem := by simp
 obj := fun i h st b hb => by
  obtain ⟨⟨old,hz⟩,o1,e1,c1,d1⟩ := st
  simp only [List.mem_cons,List.not_mem_nil,or_false] at hb
  rcases hb with rfl | rfl
  ·exact ⟨_,hz,fun v q => by cases q⟩
  ·exact ⟨o1,e1,fun v q => by rw [d1] at q; cases q⟩
 keep := fun i h h' st kk => by
  obtain ⟨⟨old,hz⟩,o1,e1,r1⟩ := st
  exact ⟨⟨old,kk z (by simp) _ hz⟩,⟨o1,kk it (by simp) _ e1,r1⟩⟩
 item := by
  intro X hP hw hK hc i pins s σ H E I hf st hg
  subst hP hw hK
  obtain ⟨⟨old,hz⟩,h1⟩ := st
  obtain ⟨xs,x,hq1,hx⟩ := hg
  obtain ⟨ia,ra,pa,_⟩ := I.list hq1
  obtain ⟨u,hu,ru⟩ := ra.get hx
  refine wpAny_pyNext_enum_item hz h1 pa.isList (x := u) (by simpa using hu) zi fun h' a1 a2 a3 a4 kp => ?_
  refine ⟨_,rfl,?_⟩
  refine wpAny_letOwnedTupleGo_enum (s := { s with heap := h',toks := s.toks + 1 }) a1 fun h2' hz' hs' => ?_
  replace hs' : Heap.SameBut z h' h2' := hs'
  have zlt : z < s.heap.objs.size := Heap.lt_size hz
  have far : ∀ q ∈ [z,it],q < s.heap.objs.size := by
   intro q hq
   obtain ⟨o1,e1,_⟩ := h1
   simp only [List.mem_cons,List.not_mem_nil,or_false] at hq
   rcases hq with rfl | rfl
   ·exact zlt
   ·exact Heap.lt_size e1
  have fz := hf z (by simp)
  have f1 := hf it (by simp)
  have keepAll : ∀ b o,b ≠ z → b ≠ it → s.heap.get? b = some o → h2'.get? b = some o := fun b o b1 b2 e => hs'.extBut _ _ b1 (kp b o b1 b2 e)
  have hnew : H s.heap.objs.size = none := I.hok.fresh (Nat.le_refl _)
  have Tz : s.heap.objs.size ≠ z := Nat.ne_of_gt zlt
  have ht2 : h2'.get? s.heap.objs.size = some { cls := .type "tuple",data := .seq #[.int i s.toks,u] } := hs'.extBut _ _ Tz a3
  have I2 : Inv X pins σ (upd H s.heap.objs.size (.tup [.int i,x])) { s with heap := h2',toks := s.toks + 1 } := by
   have there : ∀ q ∈ [z,it],∃ o',h2'.get? q = some o' := by
    intro q hq
    obtain ⟨o1,e1,_⟩ := a2
    simp only [List.mem_cons,List.not_mem_nil,or_false] at hq
    rcases hq with rfl | rfl
    ·exact ⟨_,hz'⟩
    ·exact ⟨_,hs'.extBut _ _ zi.symm e1⟩
   have nch : ∀ b,b ∉ [z,it] → b ≠ z ∧ b ≠ it := fun b hb => by
    simp only [List.mem_cons,List.not_mem_nil,or_false,not_or] at hb
    exact hb
   have trk : ∀ b u',H b = some u' → b ≠ z ∧ b ≠ it := fun b u' e =>
    ⟨fun q => (by rw [q,fz.1] at e; cases e),fun q => (by rw [q,f1.1] at e; cases e)⟩
   have okH : HOk X.prog X.w (upd H s.heap.objs.size (.tup [.int i,x])) h2' := fun b u' e => by
    by_cases hb : b = s.heap.objs.size
    ·subst hb
     rw [Jd] at e
     cases e
     exact ⟨(show 2 ≤ sizeLine by decide),[.int i s.toks,u],.cons ⟨_,rfl⟩ (.cons ru .nil),⟨_,ht2,rfl,_,rfl⟩⟩
    ·rw [Jj hb] at e
     have hx := I.hok b u' e
     refine hx.stay (fun q o hq e2 => ?_) (fun q e2 => ?_) (fun q xs e2 => ?_)
     ·rcases hq with rfl | hq
      ·obtain ⟨b1,b2⟩ := trk q _ e
       exact keepAll q o b1 b2 e2
      ·obtain ⟨b1,b2⟩ := trk q _ hq
       exact keepAll q o b1 b2 e2
     ·rw [Jj (Je e2 hnew)]; exact e2
     ·rw [Jj (Je e2 hnew)]; exact e2
   refine I.step (g' := s.gens) (d' := s.drawn) (ch := [z,it]) (fun b hb => ?_) (fun b o _ _ hcb e n => ?_) (fun b o _ _ hcb e n => ?_) (fun b o hcb e n => ?_) (fun b o hcb e => ?_) (fun b xs e => ?_) (fun b o u' e => ?_) (fun b ps e => ?_) (fun m hm => ?_) okH I.bare
   ·simp only [List.mem_cons,List.not_mem_nil,or_false] at hb
    rcases hb with rfl | rfl
    ·exact ⟨fz.2.2.2.1,fz.2.1,fz.2.2.2.2.1,fz.2.2.2.2.2⟩
    ·exact ⟨f1.2.2.2.1,f1.2.1,f1.2.2.2.2.1,f1.2.2.2.2.2⟩
   ·obtain ⟨b1,b2⟩ := nch b hcb
    exact keepAll b o b1 b2 e
   ·obtain ⟨b1,b2⟩ := nch b hcb
    exact ⟨o.slots,keepAll b o b1 b2 e⟩
   ·rw [Jj (Nat.ne_of_lt (Heap.lt_size e))]; exact n
   ·obtain ⟨b1,b2⟩ := nch b hcb
    exact ⟨o,keepAll b o b1 b2 e⟩
   ·rw [Jj (Je e hnew)]; exact e
   ·rw [Jj (Je e hnew)]; exact e
   ·exact ⟨#[],by rw [Jj (Je e hnew),e]; simp⟩
   ·obtain ⟨o,es',ep,ho,r⟩ := hm
    exact ⟨o,es',ep,keepAll _ o fz.2.1.symm f1.2.1.symm ho,r⟩
  refine ⟨.ref s.heap.objs.size,_,I2,rfl,⟨_,x,hnew,fun zs hz => by rw [I.list_inj hz hq1]; exact hx,rfl,rfl⟩,⟨⟨_,by rw [Int.natCast_add]; exact hz'⟩,?_⟩,fun b hb => ?_⟩
  ·obtain ⟨o,e,r⟩ := a2; exact ⟨o,hs'.extBut _ _ zi.symm e,r⟩
  ·rw [Jj (Nat.ne_of_lt (far b hb))]; exact (hf b hb).1
 done := by
  intro X hP hw hK hc i pins s σ H E I hf st hg
  subst hP hw hK
  obtain ⟨⟨old,hz⟩,h1⟩ := st
  obtain ⟨xs,hq1,hg⟩ := hg
  obtain ⟨ia,ra,pa,_⟩ := I.list hq1
  have la := ra.length
  obtain ⟨f0,f1,f2,f3,f4,f5⟩ := hf it (by simp)
  refine wpAny_pyNext_enum_end (I.ok.hd hc) hz h1 pa.isList (by simp; omega) fun h' eb => ⟨rfl,I.turned (t' := s.toks) (fun b o hb e => eb b o hb e) f0 f1 f3 f4 f5⟩
 self := fun _ _ _ _ _ st h => by
  obtain ⟨⟨old,hz⟩,_⟩ := st
  exact wpAny_pyIter_enum hz h
section
variable {X : Cx} {es : List Expr} {k : Nat} {tpos : Pos}
noncomputable def Jdi (K : PySem.W.Frag) (ta : TA) : TI := fun σ H R => ta σ H fun vs H1 => ∃ a,vs = [.ref a] ∧ (∃ xs,SqL K H1 a xs) ∧ R (Iel K a) H1
theorem JcT {a : Expr} {ta : TA} {p pos : Pos} (hg : Gl X "enumerate") (hm : X.mg "enumerate" = none) (ha : PA X [a] ta) (hv : bootBuiltins "enumerate" = some (.type "enumerate") := by decide +kernel) (hs : starEach [a] X.env = [(false,eval a X.env)] := by rfl) :
  PI X (.Tuple es k tpos) (.Call (.Name "enumerate" p) [a] [] pos) (Jdi X.K ta) := by
 intro pins s σ H R I h
 refine Call_ (J3r I hg hm hv (PyProof.Rows.callWith_type1 (thn (ha pos pins s σ H _ I h) fun us s1 ⟨vs,H1,I1,r1,q1⟩ => ?_) (by rw [hs]; rfl) (by rfl)))
 obtain ⟨l1,e,⟨xs,hq1⟩,q⟩ := q1
 subst e
 obtain ⟨u,rfl,ru⟩ := r1.one
 cases ru
 obtain ⟨ia,ra,pa,_⟩ := I1.list hq1
 refine call_enumerate_list pa.isList fun h' a1 a2 a3 kp => ?_
 have I2 : Inv X pins σ H1 { s1 with heap := h' } := I1.kept (t' := s1.toks) kp
 refine wpAny_pyIter_enum a1 ⟨s1.heap.objs.size + 1,[s1.heap.objs.size + 1,s1.heap.objs.size],_,_,H1,rfl,I2,Jay (Nat.ne_of_gt (Nat.lt_succ_self _)),⟨⟨_,a1⟩,a2⟩,fun b hb => ?_,q⟩
 have hb' : s1.heap.objs.size ≤ b := by
  simp only [List.mem_cons,List.not_mem_nil,or_false] at hb
  rcases hb with rfl | rfl
  ·exact Nat.le_add_right _ _
  ·exact Nat.le_refl _
 exact I1.fpOk hb' (I1.hok.fresh hb')
theorem J2F {K : PySem.W.Frag} {a : Expr} {ta : TA} {p pos : Pos} (h : X.K = K) (hg : Gl X "enumerate") (hm : X.mg "enumerate" = none) (ha : PA X [a] ta) (hv : bootBuiltins "enumerate" = some (.type "enumerate") := by decide +kernel) (hs : starEach [a] X.env = [(false,eval a X.env)] := by rfl) :
  PI X (.Tuple es k tpos) (.Call (.Name "enumerate" p) [a] [] pos) (Jdi K ta) := h ▸ JcT hg hm ha hv hs
end
theorem J3f {K : PySem.W.Frag} {a : Addr} {xs : List V} {g : TG} {tb : TS} {D : Ends} {σ : St} {H : Hp} (Pv : Nat → St → Hp → Prop) (h0 : Pv 0 σ H) (hl : ∀ i σ H,i ≤ xs.length → Pv i σ H → SqL K H a xs)
  (hs : ∀ i x p σ H,xs[i]? = some x → H p = none → Pv i σ H → g (.ref p) σ (upd H p (.tup [.int i,x])) fun σ2 H2 => tb { D with nx := Pv (i + 1),ct := Pv (i + 1),bk := D.nx } σ2 H2) (hd : ∀ σ H,Pv xs.length σ H → D.nx σ H) :
  ∃ W : Nat → Nat → St → Hp → Prop,(∃ m,W 0 m σ H) ∧ ∀ i m σ H,W i m σ H →
   ((Iel K a).stop i H ∧ D.nx σ H) ∨ ((Iel K a).go i H ∧ ∃ N : St → Hp → Prop,(∀ σ' H',N σ' H' → ∃ m',m' < m ∧ W (i + 1) m' σ' H') ∧ ∀ x H',(Iel K a).yld i H x H' → g x σ H' fun σ2 H2 => tb { D with nx := N,ct := N,bk := D.nx } σ2 H2) := by
 refine ⟨fun i m σ H => m = xs.length - i ∧ i ≤ xs.length ∧ Pv i σ H,⟨xs.length,by simp,Nat.zero_le _,h0⟩,?_⟩
 rintro i m σ H ⟨rfl,hi,p⟩
 have q := hl i σ H hi p
 by_cases hlt : i < xs.length
 ·refine .inr ⟨⟨xs,xs[i],q,by simp [hlt]⟩,Pv (i + 1),fun σ' H' p' => ⟨xs.length - (i + 1),by omega,rfl,hlt,p'⟩,fun x H' y => ?_⟩
  obtain ⟨r,u,hr,e1,rfl,rfl⟩ := y
  exact hs i u r σ H (e1 xs q) hr p
 ·have e : i = xs.length := by omega
  subst e
  exact .inl ⟨⟨xs,q,Nat.le_refl _⟩,hd σ H p⟩
theorem Jak {α : Type} {K : PySem.W.Frag} {l : Addr} {H : Hp} {σ0 : St} {g : TG} {tc : TT} {te : TE} {Q : VK} {vs : List V} (xs : List α) (p : α → Bool) (P : α → V → Hp → Prop) (sh : St → Prop) (hv : SqL K H l vs) (lv : vs.length = xs.length) (hx : xs.length ≤ 1000000) (h0 : sh σ0)
  (hk : ∀ a y Ha Hb,JY Ha Hb → P a y Ha → P a y Hb)
  (step : ∀ (i : Nat) a v q σ H',xs[i]? = some a → vs[i]? = some v → sh σ → Same H H' → H' q = none → ∀ (Rf : St → Hp → Prop) (Rt : St → V → Hp → Prop),
   (∀ σ2 H3,p a = false → sh σ2 → Same H' H3 → Rf σ2 H3) → (∀ σ2 y H4,p a = true → sh σ2 → Same H' H4 → P a y H4 → Rt σ2 y H4) →
   g (.ref q) σ (upd H' q (.tup [.int i,v])) fun σ2 H2 => tc σ2 H2 fun b H3 => if b = true then te σ2 H3 (fun y H4 => Rt σ2 y H4) else Rf σ2 H3)
  (hQ : ∀ D H' ys,H D = none → Same H H' → All2 P H' (xs.filter p) ys → H' D = some (.lst ys) → Q (.ref D) H') : J5W (Iel K l) H σ0 g tc te Q := by
 refine J4U xs p P sh hx h0 (fun i H' s hi => ⟨vs,vs[i],s.seq hv,by simp [lv,hi]⟩) (fun H' s => ⟨vs,s.seq hv,by omega⟩) hk (fun i a σ x H' H'' ha hσ s hy => ?_) hQ
 obtain ⟨q,v,hq,e1,rfl,rfl⟩ := hy
 exact step i a v q σ H' ha (e1 vs (s.seq hv)) hσ s hq
end L2
set_option linter.all false
set_option maxRecDepth 100000
set_option maxHeartbeats 4000000
namespace L2
open PySem PySem.Spec PyProof.Rows
theorem J5D : ∀ {xs : List V},xs.all J15 = true → eqVs xs xs = true
 | [],_ => rfl
 | x :: xs,h => by
  rw [List.all_cons,Bool.and_eq_true] at h
  rw [eqVs,J5D h.2,Bool.and_true]
  cases x <;> first | rfl | exact beq_self_eq_true _ | exact absurd h.1 Bool.false_ne_true
theorem Jcp (xs ys : List V) : ((List.range (min xs.length ys.length)).all (fun j => eqV (xs.getD j .non) (ys.getD j .non)) && xs.length == ys.length) = eqVs xs ys := by
 by_cases h : xs.length = ys.length
 ·rw [beq_iff_eq.mpr h,Bool.and_true,h,Nat.min_self,← h,J3q h]
 ·rw [beq_eq_false_iff_ne.mpr h,Bool.and_false,J4Z h]
noncomputable def TpAt (K : PySem.W.Frag) : List V → V → Hp → Prop := fun xs v H => ∃ p,v = .ref p ∧ SqT K H p xs ∧ xs.all J15 = true
section
variable {X : Cx} {K : PySem.W.Frag} {pins : List (Addr × Obj)} {s : Shared} {σ : St} {H : Hp} {A : Around}
theorem Jd0 {p r : Addr} {xs ys : List V} (I : Inv X pins σ H s) (hp : SqT X.K H p xs) (hr : SqT X.K H r ys) (fx : xs.all J15 = true) (fy : ys.all J15 = true) (hu : A.units < cLine) : SeqAt.RcAt A s (.ref p) (.ref r) (eqVs xs ys) := by
 obtain ⟨ia,ra,pa,za⟩ := I.tuple hp
 obtain ⟨ib,rb,pb,zb⟩ := I.tuple hr
 have h := SeqAt.RcAt.tuples (A := A) (e := fun j => eqV (xs.getD j .non) (ys.getD j .non)) (show s.heap.IsTuple p ia.toArray from pa) (show s.heap.IsTuple r ib.toArray from pb) hu (J7a ra rb fx fy)
 rw [List.size_toArray,List.size_toArray,← ra.length,← rb.length,Jcp] at h
 exact h
theorem Jcq {p r : Addr} {xs ys : List V} (I : Inv X pins σ H s) (hp : SqT X.K H p xs) (hr : SqT X.K H r ys) (fx : xs.all J15 = true) (fy : ys.all J15 = true) (hu : A.units < cLine) : SeqAt.EqAt A s (.ref p) (.ref r) (eqVs xs ys) := by
 by_cases h : p = r
 ·subst h
  rw [I.tuple_inj hr hp,J5D fx]
  exact SeqAt.EqAt.same _
 ·exact SeqAt.EqAt.of_refs h (Jd0 I hp hr fx fy hu)
noncomputable def rInT (K : PySem.W.Frag) (neg : Bool) : R2 := fun x y H Q => ∃ p l xs yss vs,x = .ref p ∧ y = .ref l ∧ SqT K H p xs ∧ xs.all J15 = true ∧ SqL K H l vs ∧ All2 (TpAt K) H yss vs ∧ Q (.bl (if neg then !(yss.any fun ys => eqVs ys xs) else yss.any fun ys => eqVs ys xs)) H
open Classical in
noncomputable def inE (K : PySem.W.Frag) (H : Hp) (xs : List V) (u : Value) : Bool := decide (∃ p ys,u = Value.ref p ∧ SqT K H p ys ∧ eqVs ys xs = true)
open Classical in
theorem JcL {p : Addr} {xs ys : List V} (I : Inv X pins σ H s) (hp : SqT X.K H p ys) : inE X.K H xs (.ref p) = eqVs ys xs := by
 unfold inE
 cases e : eqVs ys xs with
 | true => exact decide_eq_true ⟨p,ys,rfl,hp,e⟩
 | false =>
  refine decide_eq_false ?_
  rintro ⟨r,zs,h1,h2,h3⟩
  cases h1
  rw [I.tuple_inj h2 hp,e] at h3
  cases h3
theorem Jba {xs : List V} (I : Inv X pins σ H s) : ∀ {yss : List (List V)} {vs : List V} {us : List Value},All2 (TpAt X.K) H yss vs → Vals vs us → us.any (inE X.K H xs) = yss.any fun ys => eqVs ys xs
 | [],[],_,_,.nil => rfl
 | ys :: yss,v :: vs,_,h,.cons r t => by
  obtain ⟨⟨p,rfl,hp,_⟩,h2⟩ := h
  cases r
  rw [List.any_cons,List.any_cons,Jba I h2 t,JcL I hp]
 | [],_ :: _,_,h,_ => h.elim
 | _ :: _,[],_,h,_ => h.elim
theorem Jbd {q : Addr} {xs : List V} (I : Inv X pins σ H s) (hq : SqT X.K H q xs) (fx : xs.all J15 = true) (hu : A.units < cLine) : ∀ {yss : List (List V)} {vs : List V} {us : List Value},All2 (TpAt X.K) H yss vs → Vals vs us → ∀ u ∈ us,SeqAt.EqAt A s u (.ref q) (inE X.K H xs u)
 | [],[],_,_,.nil => fun u hu => by cases hu
 | ys :: yss,v :: vs,_,h,.cons r t => fun u hm => by
  obtain ⟨⟨p,rfl,hp,fy⟩,h2⟩ := h
  cases r
  rcases List.mem_cons.mp hm with rfl | hm
  ·rw [JcL I hp]
   exact Jcq I hp hq fy fx hu
  ·exact Jbd I hq fx hu h2 t u hm
 | [],_ :: _,_,h,_ => h.elim
 | _ :: _,[],_,h,_ => h.elim
theorem J8M (h : X.K = K) (hu : X.A.units + 1 < cLine) : OpR X (compareOp .In) (rInT K false) := by
 subst h
 intro pins s σ H x y v u Q I rx ry h
 obtain ⟨p,l,xs,yss,vs,rfl,rfl,hp,fx,hl,ha,q⟩ := h
 cases rx; cases ry
 obtain ⟨its,r,pl,hz⟩ := I.list hl
 refine SeqAt.in_listAt (inE X.K H xs) pl.isList (fun w hw => Jbd (A := X.A.in1) I hp fx hu ha r w (by simpa using hw)) ⟨.bl _,H,I,rfl,?_⟩
 rw [show its.toArray.any (inE X.K H xs) = its.any (inE X.K H xs) by simp,Jba I ha r]
 exact q
noncomputable def rEqE (K : PySem.W.Frag) (neg : Bool) : R2 := fun x y H Q => ∃ p r xs,x = .ref p ∧ y = .ref r ∧ SqL K H p xs ∧ SqL K H r [] ∧ Q (.bl (if neg then !xs.isEmpty else xs.isEmpty)) H
theorem Jf7 (h : X.K = K) (hu : X.A.units < cLine) : OpR X (compareOp .Eq) (rEqE K false) := by
 subst h
 intro pins s σ H x y v u Q I rx ry h
 obtain ⟨p,r,xs,rfl,rfl,hp,hr,q⟩ := h
 cases xs with
 | nil => exact JeL rfl hu pins s σ H _ _ v u Q I rx ry ⟨p,r,[],[],rfl,rfl,hp,hr,rfl,rfl,q⟩
 | cons a t =>
  cases rx; cases ry
  obtain ⟨ia,ra,pa,za⟩ := I.list hp
  obtain ⟨ib,rb,pb,zb⟩ := I.list hr
  have la := ra.length
  have lb := rb.length
  rw [List.length_cons] at la
  rw [List.length_nil] at lb
  exact SeqAt.eq_list_lengthsAt pa.isList pb.isList (by simp; omega) hu ⟨.bl false,H,I,rfl,q⟩
theorem Jd2 (h : X.K = K) (hu : X.A.units < cLine) : OpR X (compareOp .NotEq) (rEqE K true) := by
 subst h
 intro pins s σ H x y v u Q I rx ry h
 obtain ⟨p,r,xs,rfl,rfl,hp,hr,q⟩ := h
 cases xs with
 | nil => exact JcR rfl hu pins s σ H _ _ v u Q I rx ry ⟨p,r,[],[],rfl,rfl,hp,hr,rfl,rfl,q⟩
 | cons a t =>
  cases rx; cases ry
  obtain ⟨ia,ra,pa,za⟩ := I.list hp
  obtain ⟨ib,rb,pb,zb⟩ := I.list hr
  have la := ra.length
  have lb := rb.length
  rw [List.length_cons] at la
  rw [List.length_nil] at lb
  exact SeqAt.RcNeAt.lists_lengths pa.isList pb.isList (by simp; omega) hu _ _ _ _ ⟨.bl true,H,I,rfl,q⟩
end
end L2
set_option linter.all false
set_option maxRecDepth 100000
set_option maxHeartbeats 4000000
namespace L2
open PySem PySem.Spec PyProof.Rows
@[irreducible] def tCut (t : TS) : TS := fun D σ H => ∃ R : St → Hp → Prop,t { D with nx := R } σ H ∧ ∀ σ' H',R σ' H' → D.nx σ' H'
theorem tCut.mk {t : TS} {D : Ends} {σ : St} {H : Hp} (R : St → Hp → Prop) (h : t { D with nx := R } σ H) (h' : ∀ σ' H',R σ' H' → D.nx σ' H') : tCut t D σ H := by unfold tCut; exact ⟨R,h,h'⟩
section
variable {X : Cx} {K : PySem.W.Frag}
theorem J3N {st : Stmt} {t : TS} (h : PS X st t) : PS X st (tCut t) := by
 intro pins s σ H D I q
 unfold tCut at q
 obtain ⟨R,h1,h2⟩ := q
 refine thn (h pins s σ H _ I h1) fun f s' z => ?_
 cases f with
 | next => obtain ⟨σ',H',I',r⟩ := z; exact ⟨σ',H',I',h2 σ' H' r⟩
 | brk => exact z
 | cont => exact z
 | ret u => exact z
theorem J8S {M : Model} {A : Around} {E : Value → Shared → Prop} {s : Shared} {a b : Value} {Q : Value → Shared → Prop} (ha : s.TypeIs a "list") (hb : s.TypeIs b "list") (hc : wpAny M A (call (.builtin "list.__iadd__") [a,b]) Q E s) : wpAny M A (inplaceOp .Add a b) Q E s := by
 unfold inplaceOp
 refine wpAny_holding ?_
 have hl : typeLookup (.type "list") (dunderI "add") = pure (some (.builtin "list.__iadd__")) := F.slot_list_iadd.lookup
 have hfi : fillsInplaceSlot (.type "list") "add" (Operator.Add == .Add) = pure false := by
  unfold fillsInplaceSlot
  show (typeLookup (.type "list") (dunderI "add") >>= fun fi => pure (fi.isSome && !isSeqSlot fi)) = pure false
  rw [hl]; rfl
 have hsi : seqSlot? (.type "list") (dunderI "add") = pure (some (.builtin "list.__iadd__")) := by
  unfold seqSlot?
  rw [hl]; rfl
 refine wpAny_bind (wpAny_typeOf ha (wpAny_bind (wpAny_of_eq hfi ?_)))
 show wpAny M A (if false = true then _ else _) Q E s
 rw [if_neg Bool.false_ne_true]
 refine wpAny_bind (binaryOp1_none (nm := "add") ha hb noFill_list_add ?_)
 refine wpAny_bind (wpAny_of_eq hsi ?_)
 exact wpAny_bind (wpAny_rule hc)
noncomputable def ipL : TIp := fun x y H Q => ∃ l b xs zs,x = .ref l ∧ y = .ref b ∧ H l = some (.lst xs) ∧ H b = some (.lst zs) ∧ xs.length + zs.length ≤ sizeLine ∧ Q (.ref l) (upd H l (.lst (xs ++ zs)))
theorem J3s : PIp X .Add ipL := by
 intro pins s σ H x y v u Q I rx ry h
 obtain ⟨l,b,xs,zs,rfl,rfl,hH,hB,hz,q⟩ := h
 cases rx
 cases ry
 obtain ⟨z,its,n,r,hl,e⟩ := I.lstM hH
 obtain ⟨z2,its2,n2,r2,hl2,e2⟩ := I.lstM hB
 have hsz : its.toArray.size + its2.toArray.size ≤ sizeLine := by rw [List.size_toArray,List.size_toArray]; omega
 have hlong : ¬ (!its.toArray.isEmpty && Builtin.List.listTooLong (its.toArray.size + its2.toArray.size)) = true := by
  rw [Jd7 hsz,Bool.and_false]
  exact Bool.false_ne_true
 refine J8S ⟨_,e,rfl⟩ ⟨_,e2,rfl⟩ ?_
 refine call_meets F.slot_list_iadd ⟨_,e,rfl⟩ F.entry_list_iadd (F.args_list_iadd_2 _ _)
  (AutoSeq1.list___iadd___list_list_0 l its.toArray n b its2.toArray n2 hlong (by rw [List.size_toArray]; omega) (by omega)) ⟨e,e2,?_⟩
 refine ⟨.ref l,_,I.lset (its' := its ++ its2) hH e (by simp) (r.append r2) ?_,rfl,q⟩
 rw [List.length_append]
 omega
end
end L2
namespace L2
open PySem PySem.Spec PyProof.Rows
section
variable {α β : Type} {H : Hp}
theorem All2.mapL {P : β → V → Hp → Prop} {f : α → β} : ∀ {as : List α} {ys : List V},All2 (fun a y H => P (f a) y H) H as ys → All2 P H (as.map f) ys
 | [],[],_ => trivial
 | _ :: _,_ :: _,h => ⟨h.1,All2.mapL h.2⟩
 | [],_ :: _,h => h.elim
 | _ :: _,[],h => h.elim
theorem All2.app {P : α → V → Hp → Prop} : ∀ {as bs : List α} {ys zs : List V},All2 P H as ys → All2 P H bs zs → All2 P H (as ++ bs) (ys ++ zs)
 | [],_,[],_,_,h => h
 | _ :: _,_,_ :: _,_,h,g => ⟨h.1,All2.app h.2 g⟩
 | [],_,_ :: _,_,h,_ => h.elim
 | _ :: _,_,[],_,h,_ => h.elim
end
end L2
set_option linter.all false
set_option maxRecDepth 100000
set_option maxHeartbeats 4000000
namespace L2
open PySem PySem.Spec PyProof.Rows
section
variable {X : Cx} {pins : List (Addr × Obj)} {σ : St} {H : Hp} {s : Shared} {E : XK} {Ex : Value → Shared → Prop}
end
end L2
set_option linter.all false
set_option maxRecDepth 100000
set_option maxHeartbeats 4000000
namespace L2
open PySem PySem.Spec PyProof.Rows
section
variable {P : Program} {w : World} {K : PySem.W.Frag} {mg : Str → Option Value} {base : Heap}
end
section
variable {X : Cx} {x m : Str} {k : Nat} {ps : List Str} {sp : Sp} {C : Addr} {p pos apos : Pos} {e o : Expr} {es : List Expr} {t : TA} {to : TE} {E : XK}
end
end L2
set_option linter.all false
set_option maxRecDepth 100000
set_option maxHeartbeats 4000000
namespace L2
open PySem PySem.Spec PyProof.Rows
section
variable {prog : Program} {w : World} {A : Around} {E : Value → Shared → Prop} {K : PySem.W.Frag} {x C : Addr} {h : Heap} {g : Array GenState} {d : Drawn} {t : Nat} {os : OsState} {o : Obj}
end
end L2
set_option linter.all false
set_option maxRecDepth 100000
set_option maxHeartbeats 4000000
namespace L2
open PySem PySem.Spec PyProof.Rows
section
variable {X : Cx} {pins : List (Addr × Obj)} {σ : St} {H : Hp} {s : Shared}
end
section
variable {X : Cx} {x m : Str} {k : Nat} {ps : List Str} {sp : Sp} {C : Addr} {p pos apos : Pos} {e o : Expr} {es : List Expr} {t : TA} {to : TE}
end
section
variable {X : Cx}
end
end L2
set_option linter.all false
set_option maxRecDepth 100000
set_option maxHeartbeats 4000000
namespace L2
open PySem PySem.Spec PyProof.Rows
section
variable {X : Cx} {K : PySem.W.Frag}
end
end L2
set_option linter.all false
set_option maxRecDepth 100000
set_option maxHeartbeats 4000000
namespace L2
open PySem PySem.Spec PyProof.Rows
section
variable {X : Cx} {K : PySem.W.Frag} {pins : List (Addr × Obj)} {σ : St} {H : Hp} {s : Shared} {A : Around}
end
end L2
set_option linter.all false
set_option maxRecDepth 100000
set_option maxHeartbeats 4000000
namespace L2
open PySem PySem.Spec PyProof.Rows
section
variable {X : Cx} {K : PySem.W.Frag} {pins : List (Addr × Obj)} {σ : St} {H : Hp} {s : Shared} {A : Around}
theorem Jfd : OpR X (compareOp .Is) (fun x y H Q => ∃ a b,x = .bl a ∧ y = .bl b ∧ Q (.bl (a == b)) H) := by
 intro pins s σ H x y v u Q I rx ry h
 obtain ⟨a,b,rfl,rfl,q⟩ := h
 cases rx; cases ry
 exact is_bool (JS I q rfl)
theorem JeV (h : X.K = K) : OpR X (compareOp .In) (rIn K false) := h ▸ JbZ
end
end L2
set_option linter.all false
set_option maxRecDepth 100000
set_option maxHeartbeats 4000000
namespace L2
open PySem PySem.Spec PyProof.Rows
section
variable {X : Cx} {K : PySem.W.Frag}
noncomputable def JcH (ns : List Int) : Nat := (ns.foldl step_dedup []).length
theorem Jby (ns : List Int) : firstMet (fun i => ns.getD i 0) ns.length = ns.foldl step_dedup [] := by
 unfold firstMet
 have e : (List.range ns.length).map (fun i => ns.getD i 0) = ns := by
  refine List.ext_getElem (by simp) fun i h1 h2 => ?_
  simp [List.getD_eq_getElem?_getD,h2]
 rw [e]
theorem Ja3 : ∀ {ns : List Int} {its : List Value},Vals (ns.map V.int) its → IntsAre its ns
 | [],_,.nil => by constructor
 | n :: ns,_,.cons r t => by
  obtain ⟨k,rfl⟩ := r
  exact .cons n k (Ja3 t)
theorem Jbw (hc : X.calm = true) (h : X.K = K) : J2m X (.type "set") (fun xs H Q => ∃ (D : Addr) (ns : List Int),xs = [.ref D] ∧ SqL K H D (ns.map V.int) ∧ ns.length ≤ 1000 ∧ ∀ p S,H p = none → Q (.ref p) (upd H p (.set S (JcH ns)))) := by
 subst h
 intro pins s σ H xs us Q I r h
 obtain ⟨D,ns,rfl,hq,hl,q⟩ := h
 obtain ⟨u,rfl,ru⟩ := r.one
 cases ru
 obtain ⟨its,rv,pl,_⟩ := I.list hq
 have hlen := rv.length
 rw [List.length_map] at hlen
 have hb : its.toArray.size + 1 < scanBound := by
  rw [List.size_toArray]
  show its.length + 1 < 4096
  omega
 refine call_set_list (items := its.toArray) (ns := ns) (I.ok.hd hc) pl.isList (by simpa using Ja3 rv) hb fun h' tk hS hk => ?_
 have hz : its.toArray.size = ns.length := by rw [List.size_toArray,hlen]
 rw [hz,Jby] at hS
 exact ⟨.ref s.heap.objs.size,_,I.laid (o := .set (fun k' => (ns.foldl step_dedup []).any fun x => x == k') (JcH ns)) (t' := tk) (fun b o e => hk b o (Heap.lt_size e) e) (Nat.le_refl _) hS,rfl,q _ _ I.fresh⟩
theorem J9G : J2m X (.builtin "len") (fun xs H Q => ∃ (p : Addr) (S : Int → Bool) (n : Nat),xs = [.ref p] ∧ H p = some (.set S n) ∧ Q (.int n) H) := by
 intro pins s σ H xs us Q I r h
 obtain ⟨p,S,n,rfl,hp,q⟩ := h
 obtain ⟨u,rfl,ru⟩ := r.one
 cases ru
 obtain ⟨o,es,ep,t,ho,hex,hd,hel,hmem,hb,hf,rfl⟩ := I.hok p _ hp
 refine call_len_set ho hex hd hf ?_ ⟨.int es.size,H,I.tok _,⟨_,rfl⟩,q⟩
 have : es.size < 4096 := hb
 omega
theorem Jc2 : bootBuiltins "set" = some (.type "set") := by decide +kernel
end
end L2
set_option linter.all false
set_option maxRecDepth 100000
namespace L2
open PySem PySem.Spec PyProof.Rows
end L2
namespace L2
open PySem PySem.Spec PyProof.Rows
section
variable (P : Program) (w : World)
end
section
variable {P : Program} {w : World} {H H' : Hp} {h h' : Heap} {a : Addr} {o : HO}
end
section
variable {P : Program} {w : World} {H : Hp} {h h' : Heap} {x e : Addr} {o' : HO}
end
section
variable {fs fs' ex ex' : List Addr} {H H1 H2 : Hp} {h h1 h2 h' : Heap} {a x e : Addr} {o : HO}
end
end L2
namespace L2
open PySem PySem.Spec PyProof.Rows
section
variable {X : Cx} {pins : List (Addr × Obj)} {σ : List (Option V)} {H H' : Hp} {s : Shared} {h' : Heap}
end
end L2
namespace L2
open PySem PySem.Spec PyProof.Rows
section
variable {X : Cx}
variable {a b : Expr} {ta tb : TE} {pos : Pos}
variable {tA tB' : TT} {rest : List Expr}
end
end L2
namespace L2
open PySem PySem.Spec PyProof.Rows
section
variable {X : Cx} {pins : List (Addr × Obj)} {σ : St} {H : Hp} {s : Shared} {a : Addr} {xs ys : List V}
end
section
variable {X : Cx} {pins : List (Addr × Obj)} {σ : St} {H : Hp} {s : Shared} {E : Value → Shared → Prop}
end
section
variable {X : Cx} {st : Stmt} {rest : List Stmt} {t u : TS} {e : Expr} {te : TE} {pos : Pos}
end
section
variable {X : Cx} {pos : Pos}
end
section
variable {X : Cx} {pos : Pos}
end
end L2
namespace L2
open PySem PySem.Spec PyProof.Rows
section
variable {X : Cx} {tg : Expr}
end
end L2
namespace L2
open PySem PySem.Spec PyProof.Rows
section
variable {X : Cx} {a b c : Expr} {ta tb tc : TE} {pos : Pos}
end
section
variable {X : Cx} {a b c : Expr} {ta tb tc : TE} {pos : Pos}
end
end L2
namespace L2
open PySem PySem.Spec PyProof.Rows
section
variable {prog : Program} {w : World} {A : Around} {E : Value → Shared → Prop} {s : Shared} {K : PySem.W.Frag} {x dx C f : Addr} {mA : Str → Option Value} {name : Str} {v : Value}
end
section
variable {P : Program} {w : World} {H H' : Hp} {h h' : Heap} {a C dx : Addr} {fs fs' : List (Str × V)}
end
section
variable {X : Cx} {pins : List (Addr × Obj)} {σ : St} {H : Hp} {s : Shared} {a C dx : Addr} {fs : List (Str × V)} {f : Str} {v : V} {A : Around} {E : Value → Shared → Prop}
end
section
variable {X : Cx} {o e value : Expr} {f : Str} {pos pos' tpos : Pos} {ta tv : TE}
end
section
variable {X : Cx} {pins : List (Addr × Obj)} {σ : St} {H : Hp} {s : Shared} {A : Around} {E : Value → Shared → Prop} {Q : Value → Shared → Prop} {c : Value} {b : Bool}
end
end L2
namespace L2
open PySem PySem.Spec PyProof.Rows
section
variable {X : Cx} {e : Expr} {es : List Expr} {te : TE} {t : TA} {pos : Pos}
end
section
variable {X : Cx} {pins : List (Addr × Obj)} {σ : St} {H : Hp} {s s' : Shared}
end
section
variable {X : Cx} {CX : CXT} {k : Nat} {f C : Addr} {fd : FuncData} {ps : List Str} {sp : Sp} {dvs : List V} {ds : List Value} {E : XK} {x m : Str} {p pos apos : Pos} {e o : Expr} {es : List Expr} {ta : TE} {t : TA}
end
section
variable {X : Cx} {CX : CXT} {k : Nat} {f C : Addr} {fd : FuncData} {ps ks : List Str} {sp : Sp} {E : XK} {x m : Str} {p pos apos kpos : Pos} {e o : Expr} {es : List Expr} {kws : List Keyword} {te ta : TE} {t tk : TA} {nm : Option Str}
variable {g : List Value → List Value → List Value} {gV : List V → List V → List V}
end
end L2
namespace L2
open PySem PySem.Spec PyProof.Rows
section
variable {X : Cx} {x : Str} {p pos : Pos} {e : Expr} {es : List Expr} {t : TA} {id T : String} {r : List V → Hp → VK → Prop}
end
end L2
namespace L2
open PySem PySem.Spec PyProof.Rows
section
variable {κ : Type} [DecidableEq κ]
noncomputable def valV (kvs : List (κ × V)) (k : κ) : Option V := (kvs.find? fun kv => decide (kv.1 = k)).map (·.2)
noncomputable def putK (kvs : List (κ × V)) (k : κ) (v : V) : List (κ × V) :=
 if (kvs.any fun kv => decide (kv.1 = k)) = true then kvs.map (fun kv => if kv.1 = k then (kv.1,v) else kv) else kvs ++ [(k,v)]
theorem J1R {p : κ × V} {r : List (κ × V)} {k : κ} (e : p.1 = k) : valV (p :: r) k = some p.2 := by simp [valV,List.find?_cons,e]
theorem J1N {p : κ × V} {r : List (κ × V)} {k : κ} (e : ¬ p.1 = k) : valV (p :: r) k = valV r k := by simp [valV,List.find?_cons,e]
theorem J4V (k : κ) : ∀ kvs : List (κ × V),(kvs.any fun kv => decide (kv.1 = k)) = (valV kvs k).isSome
 | [] => rfl
 | p :: r => by
  rw [List.any_cons]
  by_cases e : p.1 = k
  ·simp only [J1R e,decide_eq_true e,Bool.true_or,Option.isSome_some]
  ·rw [J1N e,decide_eq_false e,Bool.false_or]; exact J4V k r
theorem J9T (k j : κ) (y : V) : ∀ kvs : List (κ × V),valV (kvs.map fun kv => if kv.1 = k then (kv.1,y) else kv) j = (valV kvs j).map fun x => if j = k then y else x
 | [] => rfl
 | p :: r => by
  have ih := J9T k j y r
  rw [List.map_cons]
  by_cases h : p.1 = k
  ·rw [if_pos h]
   by_cases e : p.1 = j
   ·rw [J1R (p := (p.1,y)) e,J1R e,Option.map_some,if_pos (e.symm.trans h)]
   ·rw [J1N (p := (p.1,y)) e,J1N e,ih]
  ·rw [if_neg h]
   by_cases e : p.1 = j
   ·rw [J1R (p := p) e,J1R e,Option.map_some,if_neg (fun z => h (e.trans z))]
   ·rw [J1N (p := p) e,J1N e,ih]
theorem J7Z (k j : κ) (y : V) : ∀ kvs : List (κ × V),valV kvs k = none → valV (kvs ++ [(k,y)]) j = if j = k then some y else valV kvs j
 | [],_ => by
  by_cases e : k = j
  ·rw [if_pos e.symm]; exact J1R (p := (k,y)) e
  ·rw [if_neg (fun z => e z.symm)]; exact J1N (p := (k,y)) e
 | p :: r,hn => by
  rw [List.cons_append]
  have hk : ¬ p.1 = k := fun z => by rw [J1R z] at hn; cases hn
  rw [J1N hk] at hn
  have ih := J7Z k j y r hn
  by_cases e : p.1 = j
  ·rw [J1R e,J1R e,if_neg (fun z => hk (e.trans z))]
  ·rw [J1N e,J1N e,ih]
theorem JcD (kvs : List (κ × V)) (k j : κ) (y : V) : valV (putK kvs k y) j = if j = k then some y else valV kvs j := by
 unfold putK
 by_cases a : (kvs.any fun kv => decide (kv.1 = k)) = true
 ·rw [if_pos a,J9T]
  rw [J4V] at a
  by_cases e : j = k
  ·obtain ⟨x,hx⟩ := Option.isSome_iff_exists.mp a
   rw [if_pos e,e,hx,Option.map_some,if_pos rfl]
  ·rw [if_neg e]
   cases valV kvs j with
   | none => rfl
   | some x => rw [Option.map_some,if_neg e]
 ·rw [if_neg a]
  refine J7Z k j y kvs ?_
  rw [J4V] at a
  cases q : valV kvs k with
  | none => rfl
  | some x => rw [q] at a; exact (a rfl).elim
theorem J3P (kvs : List (κ × V)) (k : κ) (v : V) : (putK kvs k v).length ≤ kvs.length + 1 := by
 unfold putK
 split
 ·rw [List.length_map]; omega
 ·rw [List.length_append,List.length_cons,List.length_nil]; omega
theorem RelO.isSome_eq {o : Option V} {u : Option Value} (r : RelO o u) : o.isSome = u.isSome := by
 cases o with
 | none => cases u with
  | none => rfl
  | some _ => exact (show False from r).elim
 | some _ => cases u with
  | none => exact (show False from r).elim
  | some _ => rfl
theorem KV.val {kvs : List (κ × V)} {vs : List (κ × Value)} (r : KV kvs vs) (k : κ) : RelO (valV kvs k) (valueAt vs k) := by
 unfold KV at r
 induction r with
 | nil => exact True.intro
 | @cons p q ps qs h t ih =>
  obtain ⟨h1,h2⟩ := h
  by_cases e : p.1 = k
  ·have e' : q.1 = k := h1.symm.trans e
   have b : valueAt (q :: qs) k = some q.2 := by simp [valueAt,List.find?_cons,e']
   rw [J1R e,b]; exact h2
  ·have e' : ¬ q.1 = k := fun z => e (h1.trans z)
   have b : valueAt (q :: qs) k = valueAt qs k := by simp [valueAt,List.find?_cons,e']
   rw [J1N e,b]; exact ih
theorem KV.any {kvs : List (κ × V)} {vs : List (κ × Value)} (r : KV kvs vs) (k : κ) : (kvs.any fun kv => decide (kv.1 = k)) = vs.any fun kv => decide (kv.1 = k) := by
 unfold KV at r
 induction r with
 | nil => rfl
 | cons h t ih => rw [List.any_cons,List.any_cons,ih,h.1]
theorem KV.repl {kvs : List (κ × V)} {vs : List (κ × Value)} (r : KV kvs vs) (k : κ) {y : V} {u : Value} (ry : RelV y u) :
  KV (kvs.map fun kv => if kv.1 = k then (kv.1,y) else kv) (vs.map fun kv => if kv.1 = k then (kv.1,u) else kv) := by
 unfold KV at r ⊢
 induction r with
 | nil => exact .nil
 | @cons p q ps qs h t ih =>
  rw [List.map_cons,List.map_cons]
  refine .cons ?_ ih
  obtain ⟨h1,h2⟩ := h
  by_cases e : p.1 = k
  ·rw [if_pos e,if_pos (h1.symm.trans e)]; exact ⟨h1,ry⟩
  ·rw [if_neg e,if_neg (fun z => e (h1.trans z))]; exact ⟨h1,h2⟩
theorem KV.put {kvs : List (κ × V)} {vs : List (κ × Value)} (r : KV kvs vs) (k : κ) {y : V} {u : Value} (ry : RelV y u) : KV (putK kvs k y) (stored vs k u) := by
 unfold putK stored
 rw [r.any k]
 by_cases e : (vs.any fun kv => decide (kv.1 = k)) = true
 ·rw [if_pos e,if_pos e]; exact r.repl k ry
 ·rw [if_neg e,if_neg e]; exact Paired.snoc r ⟨rfl,ry⟩
theorem KV.length {kvs : List (κ × V)} {vs : List (κ × Value)} (r : KV kvs vs) : kvs.length = vs.length := Paired.length r
end
theorem Jd5 {P : Program} {w : World} {k : Key} {u : Value} (r : RelV (kV k) u) : (J1y P w).is k u = true := by
 cases k with
 | inl i => obtain ⟨t,e⟩ := (show ∃ t,u = Value.int i t from r); subst e; exact J9V P w i t
 | inr x => obtain ⟨t,e⟩ := (show ∃ t,u = Value.str x t from r); subst e; exact J9E P w x t
theorem J85 {P : Program} {w : World} : ∀ {ks : List Key} {us : List Value},Vals (ks.map kV) us → ItemsAre (J1y P w) ks us
 | [],_,r => by rw [List.map_nil] at r; cases r; exact .nil
 | k :: ks,_,r => by
  rw [List.map_cons] at r
  cases r with
  | cons h t => exact .cons (Jd5 h) (J85 t)
noncomputable abbrev KT (H : Hp) : List (List Key × V) → List (List Key × Addr × Value) → Prop := Paired fun p q => p.1 = q.1 ∧ H q.2.1 = some (.tup (p.1.map kV)) ∧ RelV p.2 q.2.2
theorem KT.val {H : Hp} {kvs : List (List Key × V)} {xs : List (List Key × Addr × Value)} (r : KT H kvs xs) (k : List Key) : RelO (valV kvs k) ((atKey xs k).map (·.2)) := by
 induction r with
 | nil => exact True.intro
 | @cons p q ps qs h t ih =>
  obtain ⟨h1,_,h2⟩ := h
  by_cases e : p.1 = k
  ·have e' : q.1 = k := h1.symm.trans e
   have b : atKey (q :: qs) k = some q.2 := by simp [atKey,List.find?_cons,e']
   rw [J1R e,b]; exact h2
  ·have e' : ¬ q.1 = k := fun z => e (h1.trans z)
   have b : atKey (q :: qs) k = atKey qs k := by simp [atKey,List.find?_cons,e']
   rw [J1N e,b]; exact ih
theorem KT.repl {H : Hp} {kvs : List (List Key × V)} {xs : List (List Key × Addr × Value)} (r : KT H kvs xs) (k : List Key) {y : V} {u : Value} (ry : RelV y u) :
  KT H (kvs.map fun kv => if kv.1 = k then (kv.1,y) else kv) (xs.map (putAt k u)) := by
 induction r with
 | nil => exact .nil
 | @cons p q ps qs h t ih =>
  rw [List.map_cons,List.map_cons]
  refine .cons ?_ ih
  obtain ⟨h1,h2,h3⟩ := h
  unfold putAt
  by_cases e : p.1 = k
  ·rw [if_pos e,if_pos (h1.symm.trans e)]; exact ⟨h1,h2,ry⟩
  ·rw [if_neg e,if_neg (fun z => e (h1.trans z))]; exact ⟨h1,h2,h3⟩
theorem KT.put {H : Hp} {kvs : List (List Key × V)} {xs : List (List Key × Addr × Value)} (r : KT H kvs xs) (k : List Key) {b : Addr} {y : V} {u : Value} (hb : H b = some (.tup (k.map kV))) (ry : RelV y u) :
  KT H (putK kvs k y) (storedH xs k b u) := by
 have e : (kvs.any fun kv => decide (kv.1 = k)) = (atKey xs k).isSome := by
  rw [J4V,(r.val k).isSome_eq,Option.isSome_map]
 unfold putK storedH
 rw [e]
 by_cases q : (atKey xs k).isSome = true
 ·rw [if_pos q,if_pos q]; exact r.repl k ry
 ·rw [if_neg q,if_neg q]; exact Paired.snoc r ⟨rfl,hb,ry⟩
theorem KT.keeps {H H' : Hp} {kvs : List (List Key × V)} {xs : List (List Key × Addr × Value)} (r : KT H kvs xs) (ht : ∀ b ys,H b = some (.tup ys) → H' b = some (.tup ys)) : KT H' kvs xs :=
 Paired.mapP r fun _ _ z => ⟨z.1,ht _ _ z.2.1,z.2.2⟩
section
variable {P : Program} {w : World} {H : Hp} {h : Heap} {a : Addr}
theorem Jem {u : HO} (ok : HOk P w H h) (e : Rd H a u) : J18 P w H h a u := e.ok ok
theorem Jcu {kvs : List (Key × V)} (ok : HOk P w H h) (e : Rd H a (.dK kvs)) : kvs.length ≤ sizeLine ∧ (a == sysModules) = false ∧ ∃ vs,KV kvs vs ∧ h.DictOf (J1y P w) a vs :=
 show J18 P w H h a (.dK kvs) from Jem ok e
theorem JfK {kvs : List (Key × V)} (ok : HOk P w H h) (e : H a = some (.dK kvs)) : kvs.length ≤ sizeLine ∧ (a == sysModules) = false ∧ ∃ vs,KV kvs vs ∧ h.DictOf (J1y P w) a vs := Jcu ok (.inl e)
theorem Jan {ks : List Key} (ok : HOk P w H h) (e : H a = some (.tup (ks.map kV))) : (tupleKind (J1y P w)).is h ks a := by
 obtain ⟨_,its,r,o,h1,h2,n,h3⟩ := (show J18 P w H h a (.tup (ks.map kV)) from ok a _ e)
 exact ⟨o,its.toArray,n,h1,h2,h3,by simpa using J85 r⟩
theorem JcY {kvs : List (List Key × V)} (ok : HOk P w H h) (e : Rd H a (.dT kvs)) : kvs.length ≤ sizeLine ∧ (a == sysModules) = false ∧
  ∃ xs,KT H kvs xs ∧ h.DictOfH (tupleKind (J1y P w)) a xs := by
 obtain ⟨z,y,xs,r,o,es,ep,h1,h2,h3,h4,h5⟩ := (show J18 P w H h a (.dT kvs) from Jem ok e)
 refine ⟨z,y,xs,r,o,es,ep,h1,h2,h3,h4,fun x hx => ?_,h5⟩
 have all : ∀ {l : List (List Key × V)} {m : List (List Key × Addr × Value)},KT H l m → ∀ x ∈ m,(tupleKind (J1y P w)).is h x.1 x.2.1 := by
  intro l m q
  induction q with
  | nil => intro x hx; exact nomatch hx
  | @cons p q ps qs hq t ih =>
   intro x hx
   rcases List.mem_cons.mp hx with e | hx
   ·subst e
    exact Jan ok (by rw [← hq.1]; exact hq.2.1)
   ·exact ih x hx
 exact all r x hx
theorem JfO {kvs : List (List Key × V)} (ok : HOk P w H h) (e : H a = some (.dT kvs)) : kvs.length ≤ sizeLine ∧ (a == sysModules) = false ∧
  ∃ xs,KT H kvs xs ∧ h.DictOfH (tupleKind (J1y P w)) a xs := JcY ok (.inl e)
end
noncomputable def DGet (H : Hp) (a : Addr) (y : V) (r : Option V) : Prop :=
 (∃ kvs k,Rd H a (.dK kvs) ∧ y = kV k ∧ r = valV kvs k) ∨ ∃ kvs k b,Rd H a (.dT kvs) ∧ y = .ref b ∧ H b = some (.tup (k.map kV)) ∧ r = valV kvs k
noncomputable def DPut (H : Hp) (a : Addr) (y v : V) (H' : Hp) : Prop :=
 (∃ kvs k,H a = some (.dK kvs) ∧ y = kV k ∧ kvs.length < sizeLine ∧ H' = upd H a (.dK (putK kvs k v))) ∨
 ∃ kvs k b,H a = some (.dT kvs) ∧ y = .ref b ∧ H b = some (.tup (k.map kV)) ∧ kvs.length < sizeLine ∧ H' = upd H a (.dT (putK kvs k v))
theorem DGet.t {H : Hp} {a b : Addr} {kvs : List (List Key × V)} {k : List Key} (e : H a = some (.dT kvs)) (eb : H b = some (.tup (k.map kV))) : DGet H a (.ref b) (valV kvs k) := .inr ⟨kvs,k,b,.inl e,rfl,eb,rfl⟩
theorem DPut.t {H : Hp} {a b : Addr} {kvs : List (List Key × V)} {k : List Key} {v : V} (e : H a = some (.dT kvs)) (eb : H b = some (.tup (k.map kV))) (hl : kvs.length < sizeLine) :
  DPut H a (.ref b) v (upd H a (.dT (putK kvs k v))) := .inr ⟨kvs,k,b,e,rfl,eb,hl,rfl⟩
section
variable {X : Cx} {pins : List (Addr × Obj)} {σ : St} {H : Hp} {s : Shared} {a : Addr} {y v : V} {u r : Value} {o : Option V} {A : Around} {E : Value → Shared → Prop}
theorem Inv.big (I : Inv X pins σ H s) : sysModules < s.heap.objs.size := by
 have h : mainGlobals < s.heap.objs.size := (I.mod.glob.keeps I.bk).lt
 exact Nat.lt_trans (by decide) h
theorem Jc4 {Q : Value → Shared → Prop} (hu : A.units + 1 < cLine) (I : Inv X pins σ H s) (g : DGet H a y (some v)) (ry : RelV y u) (h : ∀ w' s',Inv X pins σ H s' → RelV v w' → Q w' s') :
  wpAny (model X.prog X.w) A (getItem (.ref a) u) Q E s := by
 rcases g with ⟨kvs,k,e,ey,l⟩ | ⟨kvs,k,b,e,ey,eb,l⟩
 ·subst ey
  obtain ⟨z,hd,vs,rel,dd⟩ := Jcu I.hok e
  obtain ⟨w',hw,rw'⟩ := RelO.some_of (v := v) (o := valueAt vs k) (by rw [l]; exact rel.val k)
  exact wpAny_getItem_of (Jd5 ry) dd.mapOf hw (h w' _ (I.tok _) rw')
 ·subst ey
  cases (show u = Value.ref b from ry)
  obtain ⟨z,hd,xs,rel,dd⟩ := JcY I.hok e
  obtain ⟨w',hw,rw'⟩ := RelO.some_of (v := v) (o := (atKey xs k).map (·.2)) (by rw [l]; exact rel.val k)
  obtain ⟨p,hp,hp2⟩ := Option.map_eq_some_iff.mp hw
  refine wpAny_getItem_heap (tupleKind_room_in1 hu) (Jan I.hok eb) dd hp ?_
  rw [hp2]
  exact h w' _ (I.tok _) rw'
theorem JaU {h' : Heap} {t' : Nat} {ob : HO} (I : Inv X pins σ H s) (mu : Mut (H a)) (hs : Heap.SameBut a s.heap h') (he : ∃ q,h'.get? a = some q) (new : J18 X.prog X.w (upd H a ob) h' a ob) :
  Inv X pins σ (upd H a ob) { s with heap := h',toks := t' } :=
 I.write (x := a) (e := a) mu (.inl rfl) (fun b q hb z => (hs.2 b hb).trans z) he new
theorem Jfo {P : Program} {w : World} {H' : Hp} {h' : Heap} {kvs : List (Key × V)} {vs : List (Key × Value)} (z : kvs.length ≤ sizeLine) (hd : (a == sysModules) = false) (rel : KV kvs vs) (dd : h'.DictOf (J1y P w) a vs) :
  J18 P w H' h' a (.dK kvs) := ⟨z,hd,vs,rel,dd⟩
theorem JbO {H' : Hp} {Q : Unit → Shared → Prop} (hu : A.units + 1 < cLine) (I : Inv X pins σ H s) (g : DPut H a y v H') (ry : RelV y u) (rv : RelV v r) (h : ∀ s',Inv X pins σ H' s' → Q () s') :
  wpAny (model X.prog X.w) A (setItem (.ref a) u r) Q E s := by
 rcases g with ⟨kvs,k,e,ey,l,eH⟩ | ⟨kvs,k,b,e,ey,eb,l,eH⟩
 ·subst ey eH
  obtain ⟨z,hd,vs,rel,dd⟩ := JfK I.hok e
  have hz : vs.length ≤ sizeLine := by rw [← rel.length]; exact z
  have hl : (putK kvs k v).length ≤ sizeLine := by have := J3P kvs k v; omega
  refine wpAny_setItem_pairs (hsz := hz) (Jd5 ry) dd fun h' dd' hs => h _ ?_
  have he : ∃ q,h'.get? a = some q := let ⟨q,_,_,hq,_⟩ := dd'; ⟨q,hq⟩
  exact JaU I (by rw [e]; exact True.intro) hs he (Jfo hl hd (rel.put k rv) dd')
 ·subst ey eH
  cases (show u = Value.ref b from ry)
  obtain ⟨z,hd,xs,rel,dd⟩ := JfO I.hok e
  have hz : xs.length ≤ sizeLine := by rw [← Paired.length rel]; exact z
  have hl : (putK kvs k v).length ≤ sizeLine := by have := J3P kvs k v; omega
  refine wpAny_setItem_heap (hsz := hz) (tupleKind_room_in1 hu) (Jan I.hok eb) dd fun h' dd' hs => h _ ?_
  obtain ⟨q,es,ep,hq,h2,h3,h4,_,h5⟩ := dd'
  refine JaU I (by rw [e]; exact True.intro) hs ⟨q,hq⟩ ⟨hl,hd,_,(rel.put k eb rv).keeps fun c ys ec => ?_,q,es,ep,hq,h2,h3,h4,h5⟩
  rw [Jj (Jb5 ec e (fun z => nomatch z))]
  exact ec
end
section
variable {X : Cx} {pins : List (Addr × Obj)} {σ : St} {H : Hp} {s : Shared} {a : Addr} {kvs : List (Key × V)} {k : Key} {u : Value} {A : Around} {E : Value → Shared → Prop}
end
noncomputable def NoSl (i : Expr) : Prop := ∀ ov iv,subscripted i false ov iv = operate [ov,iv] (getItem ov iv)
theorem Je4 {prog : Program} {w : World} {A : Around} {E : Value → Shared → Prop} {s : Shared} {env : Env} {value slice : Expr} {pos : Pos} {T id : String} {Q : Value → Shared → Prop}
  (hl : typeLookup (.type T) "__getitem__" = pure (some (.builtin id))) (hs : NoSl slice)
  (h : wpAny (model prog w) A (eval value env) (fun o s₁ => wpAny (model prog w) A (eval slice env) (fun i s₂ => s₂.TypeIs o T ∧ wpAny (model prog w) A (getItem o i) Q E s₂) E s₁) E s) :
  wpAny (model prog w) A (eval (.Subscript value slice pos) env) Q E s := by
 refine Subscript_ (wpAny_mono h (fun o s₁ h₁ => wpAny_mono h₁ (fun i s₂ h₂ => ?_) fun _ _ x => x) fun _ _ x => x)
 obtain ⟨hT,h₂⟩ := h₂
 unfold subscriptTail
 refine wpAny_bind ?_
 rw [getitemInPython_of_ne hT.not_modules]
 refine wpAny_bind (wpAny_specialOf hT hl ?_)
 have fin : wpAny (model prog w) A (subscripted slice false o i) (fun r s₃ => wpAny (model prog w) A (letTemporaryGo value o r >>= fun _ => pure r) Q E s₃) E s₂ := by
  rw [hs o i]
  exact wpAny_operating (wpAny_mono h₂ (fun r s₃ h₃ => wpAny_bind (wpAny_letTemporaryGo (wpAny_pure h₃))) fun _ _ x => x)
 first
  | exact wpAny_pure (wpAny_bind fin)
  | exact wpAny_bind (wpAny_pure (wpAny_bind fin))
  | exact wpAny_bind fin
theorem J9X {X : Cx} {pins : List (Addr × Obj)} {σ : St} {H : Hp} {s : Shared} {a : Addr} {y : V} {o : Option V} (I : Inv X pins σ H s) (g : DGet H a y o) : s.TypeIs (.ref a) "dict" := by
 rcases g with ⟨kvs,k,e,_,_⟩ | ⟨kvs,k,b,e,_,_,_⟩
 ·obtain ⟨_,_,vs,_,dd⟩ := Jcu I.hok e
  exact dd.typeIs
 ·obtain ⟨_,_,xs,_,dd⟩ := JcY I.hok e
  exact dd.typeIs
noncomputable def JfT (td ty : TE) : TE := fun σ H Q => td σ H fun x H1 => ty σ H1 fun y H2 => ∃ a v,x = .ref a ∧ DGet H2 a y (some v) ∧ Q v H2
noncomputable def JfP (td ty tv : TE) : TS := fun D σ H => tv σ H fun v H1 => td σ H1 fun x H2 => ty σ H2 fun y H3 => ∃ a H4,x = .ref a ∧ DPut H3 a y v H4 ∧ D.nx σ H4
section
variable {X : Cx} {o i e value : Expr} {pos pos' tpos : Pos} {td ty tv : TE}
theorem JdS (hu : X.A.units + 1 < cLine) (ho : PE X o td) (hi : PE X i ty) (hs : NoSl i) : PE X (.Subscript o i pos) (JfT td ty) := by
 intro pins s σ H Q I h
 refine Je4 PySem.F.slot_dict_getitem.lookup hs (thn (ho pins s σ H _ I h) fun u s1 ⟨x,H1,I1,rx,q1⟩ => thn (hi pins s1 σ H1 _ I1 q1) fun iv s2 ⟨y,H2,I2,ry,a,v,ex,g,q2⟩ => ?_)
 subst ex
 obtain rfl : u = Value.ref a := rx
 exact ⟨J9X I2 g,Jc4 hu I2 g ry fun w' s3 I3 rw' => ⟨v,H2,I3,rw',q2⟩⟩
theorem JdM (hu : X.A.units + 1 < cLine) (ho : PE X o td) (hi : PE X i ty) (hv : PE X value tv) (hs : swapsWith value (some (.Subscript o i pos')) pos.line X.env = pure false) :
  PS X (.Assign [.Subscript o i pos'] value pos) (JfP td ty tv) := by
 intro pins s σ H D I h
 refine wpAny_Assign_Subscript (thn (hv pins s σ H _ I h) fun r s1 ⟨v,H1,I1,rv,q1⟩ => thn (ho pins s1 σ H1 _ I1 q1) fun u s2 ⟨x,H2,I2,rx,q2⟩ => thn (hi pins s2 σ H2 _ I2 q2) fun iv s3 ⟨y,H3,I3,ry,a,H4,ex,g,q3⟩ => ?_) hs
 subst ex
 obtain rfl : u = Value.ref a := rx
 exact JbO hu I3 g ry rv fun s4 I4 => ⟨σ,H4,I4,q3⟩
end
theorem Jdn {P : Program} {w : World} {H : Hp} (h : Heap) (hb : sysModules < h.objs.size) : J18 P w H (h.push { cls := .type "dict",data := .dict #[] }) h.objs.size (.dT []) :=
 ⟨Nat.zero_le _,beq_eq_false_iff_ne.mpr (Ne.symm (Nat.ne_of_lt hb)),[],.nil,_,#[],0,Heap.get?_push_size _ rfl,⟨rfl,rfl,rfl⟩,rfl,rfl,List.nodup_nil⟩
noncomputable def Jff : TE := fun _ H Q => ∀ p,H p = none → Q (.ref p) (upd H p (.dT []))
section
variable {X : Cx} {pos : Pos}
theorem Jcr : PE X (.Dict [] [] pos) Jff := fun pins s σ H Q I h =>
 wpAny_Dict_empty ⟨.ref s.heap.objs.size,_,I.laid (a := s.heap.objs.size) (o := .dT []) (t' := s.toks) (fun _ _ q => Heap.get?_push_of_some _ q) (Nat.le_refl _) (Jdn s.heap I.big),rfl,h _ (I.hok.fresh (Nat.le_refl _))⟩
end
section
variable {X : Cx} {pins : List (Addr × Obj)} {σ : St} {H : Hp} {s : Shared} {a : Addr} {y d : V} {u r : Value} {o : Option V} {A : Around} {E : Value → Shared → Prop}
end
section
variable {X : Cx} {o e f : Expr} {apos cpos : Pos} {td ty tx : TE}
end
section
variable {X : Cx} {pins : List (Addr × Obj)} {σ : St} {H : Hp} {s : Shared} {a : Addr} {kvs : List (Key × V)} {A : Around} {E : Value → Shared → Prop}
end
section
variable {X : Cx} {pins : List (Addr × Obj)} {σ : St} {H : Hp} {s : Shared} {a : Addr} {y : V} {u : Value} {A : Around} {E : Value → Shared → Prop}
end
end L2
namespace Att
open PySem PySem.W PySem.Calls PyProof.Rows
section
variable {prog : Program} {w : World} {A : Around} {E : Value → Shared → Prop} {s : Shared} {K : Frag}
end
end Att
namespace L2
open PySem PySem.Spec PyProof.Rows
end L2
namespace L2
open PySem PySem.Spec PyProof.Rows
end L2
namespace L2
open PySem PySem.Spec PyProof.Rows
section
variable {P : Program} {w : World} {K : PySem.W.Frag} {mg : Str → Option Value} {base : Heap}
end
section
variable {X : Cx}
end
section
variable {κ : Type} [DecidableEq κ]
end
end L2
set_option linter.all false
set_option maxRecDepth 100000
set_option maxHeartbeats 4000000
namespace L2
open PySem PySem.Spec PyProof.Rows
section
variable {prog : Program} {w : World} {K : Type} [DecidableEq K] {knd : HeapKind prog w K} {A : Around} {E : Value → Shared → Prop} {s : Shared} {d a : Addr} {xs : List (K × Addr × Value)} {k : K} {z : Value}
end
section
variable {X : Cx} {K : PySem.W.Frag}
end
open PySem.W in
noncomputable def tMkO (C : Addr) : TE := fun _ H Q => ∀ x dx,H x = none → H dx = none → dx ≠ x → Q (.ref x) (upd (upd H dx (.own x)) x (.ins C dx []))
open PySem.W in
theorem JaG {X : Cx} {K : PySem.W.Frag} {x : Str} {C : Addr} {p pos : Pos} (hK : X.K = K) (mk : makesIn K C = true) (kc : keepIn K (.ref C) = true) (hi : findIn K (.ref C) "__init__" = some (some (.builtin "object.__init__"))) (hm : X.mg x = some (.ref C)) (hg : Gl X x := by rfl)
  (hdb : (x == ("__debug__" : Str)) = false := by decide) : PE X (.Call (.Name x p) [] [] pos) (tMkO C) := by
 subst hK
 intro pins s σ H Q I h
 have q := h (s.heap.objs.size + 1) s.heap.objs.size (I.hok.fresh (Nat.le_succ _)) (I.hok.fresh (Nat.le_refl _)) (Nat.ne_of_lt (Nat.lt_succ_self _))
 have I2 := Inv.made (C := C) I
 refine wpAny_Call_Name_kw (J68 I hg hm ?_ hdb)
 refine callWith_K0 I.kIn kc (wpAny_call (JbB I.kIn mk hi (fun self => Looks.of_pure (oi_bind self)) ?_))
 have Y := makes_of (M := model X.prog X.w) I.kIn mk
 have g : ((s.heap.push emptyDict).push (instObj C s.heap.objs.size)).get? (s.heap.objs.size + 1) = some (instObj C s.heap.objs.size) := by
  have := Heap.get?_push_size (s.heap.push emptyDict) (o := instObj C s.heap.objs.size) rfl
  rwa [Heap.size_push] at this
 have t1 : Looks (model X.prog X.w) ((s.heap.push emptyDict).push (instObj C s.heap.objs.size)) (typeOf (.ref (s.heap.objs.size + 1))) (.ref C) := (Looks.ld g).andThen .now
 have t2 : Looks (model X.prog X.w) ((s.heap.push emptyDict).push (instObj C s.heap.objs.size)) (isInstance (.ref (s.heap.objs.size + 1)) (.type "object")) true := t1.andThen (Y.top.keeps fun b o e => Heap.get?_push_of_some _ (Heap.get?_push_of_some _ e))
 refine codeAny_call_builtin oi_plain entry_oi (@check_slot (model X.prog X.w) _ _ _ "object.__init__" "object" "__init__" (.ref (s.heap.objs.size + 1)) [] [] _ oi_kind oi_split t2 (oi_args _) ?_)
 rw [oi_run]
 exact wpAny_pure ⟨rfl,⟨V.ref (s.heap.objs.size + 1),_,I2,rfl,q⟩⟩
end L2
set_option linter.all false
set_option maxRecDepth 100000
set_option maxHeartbeats 4000000
namespace L2
open PySem PySem.Spec PyProof.Rows
section
variable {X : Cx} {K : PySem.W.Frag}
end
noncomputable def Iet (l : List Nat) : It :=
 ⟨fun i _ => i < l.length,fun i H x H' => ∃ p c,H p = none ∧ l[i]? = some c ∧ x = .ref p ∧ H' = upd H p (.tup [.int i,T [c]]),fun i _ => i = l.length⟩
theorem JaH {P : Program} {w : World} {K : PySem.W.Frag} {es : List Expr} {k : Nat} {pos : Pos} {z it : Addr} {l : List Nat} {t : Tok} {nm : String} (zi : z ≠ it) (hn : nm = "str_ascii_iterator" ∨ nm = "str_iterator") :
  Turn P w K (.Tuple es k pos) (Iet l) [z,it] z (fun i h => (∃ old,IsEnum h z it (i : Int) old) ∧ h.IsStrIter it nm ⟨l.toArray⟩ t i) where
 mem := by simp
 obj := fun i h st b hb => by
  obtain ⟨⟨old,hz⟩,o1,e1,c1,d1⟩ := st
  simp only [List.mem_cons,List.not_mem_nil,or_false] at hb
  rcases hb with rfl | rfl
  ·exact ⟨_,hz,fun v q => by cases q⟩
  ·exact ⟨o1,e1,fun v q => by rw [d1] at q; cases q⟩
 keep := fun i h h' st kk => by
  obtain ⟨⟨old,hz⟩,o1,e1,r1⟩ := st
  exact ⟨⟨old,kk z (by simp) _ hz⟩,⟨o1,kk it (by simp) _ e1,r1⟩⟩
 item := by
  intro X hP hw hK hc i pins s σ H E I hf st hg
  subst hP hw hK
  obtain ⟨⟨old,hz⟩,h1⟩ := st
  have hh : X.A.in1.handled = none := I.ok.hd hc
  have D1 := J3g (prog := X.prog) (w := X.w) (it := it) (l := l) (t := t) hh hn
  refine wpAny_pyNext_enum_itemD D1 hz h1 hg zi (fun q => zi (by simpa using q)) fun x h' tk hx a1 a2 a3 a4 kp => ?_
  obtain ⟨c,u,hc1,rfl⟩ := hx
  refine ⟨_,rfl,?_⟩
  refine wpAny_letOwnedTupleGo_enum (s := { s with heap := h',toks := tk + 1 }) a1 fun h2' hz' hs' => ?_
  replace hs' : Heap.SameBut z h' h2' := hs'
  have zlt : z < s.heap.objs.size := Heap.lt_size hz
  have far : ∀ q ∈ [z,it],q < s.heap.objs.size := by
   intro q hq
   obtain ⟨o1,e1,_⟩ := h1
   simp only [List.mem_cons,List.not_mem_nil,or_false] at hq
   rcases hq with rfl | rfl
   ·exact zlt
   ·exact Heap.lt_size e1
  have fz := hf z (by simp)
  have f1 := hf it (by simp)
  have keepAll : ∀ b o,b ≠ z → b ≠ it → s.heap.get? b = some o → h2'.get? b = some o := fun b o b1 b2 e => hs'.extBut _ _ b1 (kp b o b1 b2 e)
  have hnew : H s.heap.objs.size = none := I.hok.fresh (Nat.le_refl _)
  have Tz : s.heap.objs.size ≠ z := Nat.ne_of_gt zlt
  have ht2 : h2'.get? s.heap.objs.size = some { cls := .type "tuple",data := .seq #[.int i tk,.str ⟨#[c]⟩ u] } := hs'.extBut _ _ Tz a3
  have I2 : Inv X pins σ (upd H s.heap.objs.size (.tup [.int i,T [c]])) { s with heap := h2',toks := tk + 1 } := by
   have nch : ∀ b,b ∉ [z,it] → b ≠ z ∧ b ≠ it := fun b hb => by
    simp only [List.mem_cons,List.not_mem_nil,or_false,not_or] at hb
    exact hb
   have trk : ∀ b u',H b = some u' → b ≠ z ∧ b ≠ it := fun b u' e =>
    ⟨fun q => (by rw [q,fz.1] at e; cases e),fun q => (by rw [q,f1.1] at e; cases e)⟩
   have okH : HOk X.prog X.w (upd H s.heap.objs.size (.tup [.int i,T [c]])) h2' := fun b u' e => by
    by_cases hb : b = s.heap.objs.size
    ·subst hb
     rw [Jd] at e
     cases e
     exact ⟨(show 2 ≤ sizeLine by decide),[.int i tk,.str ⟨#[c]⟩ u],.cons ⟨_,rfl⟩ (.cons ⟨u,rfl⟩ .nil),⟨_,ht2,rfl,_,rfl⟩⟩
    ·rw [Jj hb] at e
     have hx := I.hok b u' e
     refine hx.stay (fun q o hq e2 => ?_) (fun q e2 => ?_) (fun q xs e2 => ?_)
     ·rcases hq with rfl | hq
      ·obtain ⟨b1,b2⟩ := trk q _ e
       exact keepAll q o b1 b2 e2
      ·obtain ⟨b1,b2⟩ := trk q _ hq
       exact keepAll q o b1 b2 e2
     ·rw [Jj (Je e2 hnew)]; exact e2
     ·rw [Jj (Je e2 hnew)]; exact e2
   refine I.step (g' := s.gens) (d' := s.drawn) (ch := [z,it]) (fun b hb => ?_) (fun b o _ _ hcb e n => ?_) (fun b o _ _ hcb e n => ?_) (fun b o hcb e n => ?_) (fun b o hcb e => ?_) (fun b xs e => ?_) (fun b o u' e => ?_) (fun b ps e => ?_) (fun m hm => ?_) okH I.bare
   ·simp only [List.mem_cons,List.not_mem_nil,or_false] at hb
    rcases hb with rfl | rfl
    ·exact ⟨fz.2.2.2.1,fz.2.1,fz.2.2.2.2.1,fz.2.2.2.2.2⟩
    ·exact ⟨f1.2.2.2.1,f1.2.1,f1.2.2.2.2.1,f1.2.2.2.2.2⟩
   ·obtain ⟨b1,b2⟩ := nch b hcb
    exact keepAll b o b1 b2 e
   ·obtain ⟨b1,b2⟩ := nch b hcb
    exact ⟨o.slots,keepAll b o b1 b2 e⟩
   ·rw [Jj (Nat.ne_of_lt (Heap.lt_size e))]; exact n
   ·obtain ⟨b1,b2⟩ := nch b hcb
    exact ⟨o,keepAll b o b1 b2 e⟩
   ·rw [Jj (Je e hnew)]; exact e
   ·rw [Jj (Je e hnew)]; exact e
   ·exact ⟨#[],by rw [Jj (Je e hnew),e]; simp⟩
   ·obtain ⟨o,es',ep,ho,r⟩ := hm
    exact ⟨o,es',ep,keepAll _ o fz.2.1.symm f1.2.1.symm ho,r⟩
  refine ⟨.ref s.heap.objs.size,_,I2,rfl,⟨_,c,hnew,hc1,rfl,rfl⟩,⟨⟨_,by rw [Int.natCast_add]; exact hz'⟩,?_⟩,fun b hb => ?_⟩
  ·obtain ⟨o,e,r⟩ := a2; exact ⟨o,hs'.extBut _ _ zi.symm e,r⟩
  ·rw [Jj (Nat.ne_of_lt (far b hb))]; exact (hf b hb).1
 done := by
  intro X hP hw hK hc i pins s σ H E I hf st hg
  subst hP hw hK
  obtain ⟨⟨old,hz⟩,h1⟩ := st
  have hh : X.A.in1.handled = none := I.ok.hd hc
  have D1 := J3g (prog := X.prog) (w := X.w) (it := it) (l := l) (t := t) hh hn
  obtain ⟨f0,f1,f2,f3,f4,f5⟩ := hf it (by simp)
  have hg' : i = l.length := hg
  subst hg'
  refine wpAny_pyNext_enum_endD D1 hz h1 fun h' eb => ⟨rfl,I.turned (t' := s.toks) (fun b o hb e => eb b o hb e) f0 f1 f3 f4 f5⟩
 self := fun _ _ _ _ _ st h => by
  obtain ⟨⟨old,hz⟩,_⟩ := st
  exact wpAny_pyIter_enum hz h
section
variable {X : Cx} {es : List Expr} {k : Nat} {tpos : Pos}
noncomputable def Jf0 (ta : TA) : TI := fun σ H R => ta σ H fun vs H1 => ∃ l,vs = [T l] ∧ R (Iet l) H1
theorem JcE {a : Expr} {ta : TA} {p pos : Pos} (hg : Gl X "enumerate") (hm : X.mg "enumerate" = none) (ha : PA X [a] ta) (hv : bootBuiltins "enumerate" = some (.type "enumerate") := by decide +kernel) (hs : starEach [a] X.env = [(false,eval a X.env)] := by rfl) :
  PI X (.Tuple es k tpos) (.Call (.Name "enumerate" p) [a] [] pos) (Jf0 ta) := by
 intro pins s σ H R I h
 refine Call_ (J3r I hg hm hv (PyProof.Rows.callWith_type1 (thn (ha pos pins s σ H _ I h) fun us s1 ⟨vs,H1,I1,r1,q1⟩ => ?_) (by rw [hs]; rfl) (by rfl)))
 obtain ⟨l1,e,q⟩ := q1
 subst e
 obtain ⟨u,rfl,ru⟩ := r1.one
 obtain ⟨t,rfl⟩ := ru
 refine call_enumerate_str fun h' a1 a2 a3 kp => ?_
 have I2 : Inv X pins σ H1 { s1 with heap := h' } := I1.kept (t' := s1.toks) kp
 have hn : strIterType ⟨l1.toArray⟩ = "str_ascii_iterator" ∨ strIterType ⟨l1.toArray⟩ = "str_iterator" := by
  unfold strIterType; split
  ·exact .inl rfl
  ·exact .inr rfl
 refine wpAny_pyIter_enum a1 ⟨s1.heap.objs.size + 1,[s1.heap.objs.size + 1,s1.heap.objs.size],_,_,H1,rfl,I2,JaH (t := t) (Nat.ne_of_gt (Nat.lt_succ_self _)) hn,⟨⟨_,a1⟩,a2⟩,fun b hb => ?_,q⟩
 have hb' : s1.heap.objs.size ≤ b := by
  simp only [List.mem_cons,List.not_mem_nil,or_false] at hb
  rcases hb with rfl | rfl
  ·exact Nat.le_add_right _ _
  ·exact Nat.le_refl _
 exact I1.fpOk hb' (I1.hok.fresh hb')
end
theorem J9I {l : List Nat} {H : Hp} {σ0 : St} {g : TG} {tc : TT} {te : TE} {Q : VK} (p : Nat → Bool) (P : Nat → V → Hp → Prop) (sh : St → Prop) (hx : l.length ≤ 1000000) (h0 : sh σ0)
  (hk : ∀ a y Ha Hb,JY Ha Hb → P a y Ha → P a y Hb)
  (step : ∀ (i : Nat) c q σ H',l[i]? = some c → sh σ → Same H H' → H' q = none → ∀ (Rf : St → Hp → Prop) (Rt : St → V → Hp → Prop),
   (∀ σ2 H3,p i = false → sh σ2 → Same H' H3 → Rf σ2 H3) → (∀ σ2 y H4,p i = true → sh σ2 → Same H' H4 → P i y H4 → Rt σ2 y H4) →
   g (.ref q) σ (upd H' q (.tup [.int i,T [c]])) fun σ2 H2 => tc σ2 H2 fun b H3 => if b = true then te σ2 H3 (fun y H4 => Rt σ2 y H4) else Rf σ2 H3)
  (hQ : ∀ D H' ys,H D = none → Same H H' → All2 P H' ((List.range l.length).filter p) ys → H' D = some (.lst ys) → Q (.ref D) H') : J5W (Iet l) H σ0 g tc te Q := by
 refine J4U (List.range l.length) p P sh (by rw [List.length_range]; exact hx) h0 (fun i H' s hi => by rw [List.length_range] at hi; exact hi) (fun H' s => by rw [List.length_range]; rfl) hk (fun i a σ x H' H'' ha hσ s hy => ?_) hQ
 obtain ⟨q,c,hq,e1,rfl,rfl⟩ := hy
 have hi := (List.getElem?_eq_some_iff.mp ha).1
 rw [List.length_range] at hi
 rw [List.getElem?_range hi] at ha
 cases ha
 exact step i c q σ H' e1 hσ s hq
section
variable {elt tg iter : Expr} {ifs : List Expr} {scope : Scope} {pos : Pos} {N : List Str} {js : List (Option Nat)} {wi : TI} {g : TG} {tc : TT} {te : TE}
end
end L2
set_option linter.all false
set_option maxRecDepth 100000
set_option maxHeartbeats 4000000
namespace L2
open PySem PySem.Spec PyProof.Rows
section
variable {p : Program} {w : World} {A : Around} {R : Result → Shared → Prop} {it bst : Addr} {fp wr : List Addr} {n : Nat} {G : Nat → Value → Prop} {St : Nat → Heap → Prop} {bt : Nat → Nat → Bool} {kw : List (Str × Value)}
end
section
variable {p : Program} {w : World} {A : Around} {E : Value → Shared → Prop} {s : Shared} {l : Addr} {xs : Array (Int × Tok)} {Q : Value → Shared → Prop} {d : Value}
end
section
variable {X : Cx} {K : PySem.W.Frag}
end
theorem nine {k : Int} (h0 : 1 ≤ k) (h1 : k ≤ 9) : k = 1 ∨ k = 2 ∨ k = 3 ∨ k = 4 ∨ k = 5 ∨ k = 6 ∨ k = 7 ∨ k = 8 ∨ k = 9 := by omega
theorem JcM {c : Nat} {k : Int} (h0 : 1 ≤ k) (h1 : k ≤ 9) : Txt.mul ⟨#[c]⟩ k = ⟨(List.replicate k.toNat c).toArray⟩ := by
 rcases nine h0 h1 with rfl | rfl | rfl | rfl | rfl | rfl | rfl | rfl | rfl <;> rfl
theorem J9Q {X : Cx} : OpR X (binaryOp .Mult) (fun x y H Q => ∃ c k,x = T [c] ∧ y = .int k ∧ 1 ≤ k ∧ k ≤ 9 ∧ Q (T (List.replicate k.toNat c)) H) := by
 intro pins s σ H x y v u Q I rx ry h
 obtain ⟨c,k,rfl,rfl,h0,h1,q⟩ := h
 obtain ⟨t,rfl⟩ := rx
 obtain ⟨t',rfl⟩ := ry
 refine SB.mul ⟨?_,fun _ _ => ?_,fun _ _ => ?_⟩ fun t2 k2 => ?_
 ·rw [decide_eq_false (by omega),decide_eq_false (by omega)]; rfl
 ·rcases nine h0 h1 with rfl | rfl | rfl | rfl | rfl | rfl | rfl | rfl | rfl <;> (show ¬ ((1 : Int) > _); decide)
 ·rw [show (⟨[c].toArray⟩ : Str).length = 1 from rfl]
  clear q
  rcases nine h0 h1 with rfl | rfl | rfl | rfl | rfl | rfl | rfl | rfl | rfl <;> decide
 ·rw [JcM h0 h1]
  exact ⟨T (List.replicate k.toNat c),H,I.tok _,⟨t2,rfl⟩,q⟩
end L2
set_option linter.all false
set_option maxRecDepth 100000
set_option maxHeartbeats 4000000
namespace L2
open PySem PySem.Spec PyProof.Rows
open Builtin Builtin.Str
theorem JdU (p q r : Value) : checkTypeCall "zip" ⟨[p,q,r],[]⟩ = pure () := by kernel_rfl
theorem Jfi (p q r : Value) : checkBuiltinCall "zip.__new__" ⟨[.type "zip",p,q,r],[]⟩ = pure () := by kernel_rfl
theorem JdZ (p q r t : Value) : argsOk "object.__init__" ⟨[p,q,r,t],[]⟩ := by
 unfold argsOk
 rw [signature?_of (id := "object.__init__") (n := ['_','_','t','i','n','i','_','_']) (o := ['t','c','e','j','b','o']) (by kernel_rfl) PySem.F.owner_object]
 kernel_rfl
noncomputable abbrev J1Q (h : Heap) (t : Addr) (p q r : Value) : Prop := h.get? t = some { cls := .type "tuple",data := .seq #[p,q,r] }
structure Far3 (z TI TO i1 i2 i3 : Addr) : Prop where
 TIz : TI ≠ z
 TOz : TO ≠ z
 i1z : i1 ≠ z
 i2z : i2 ≠ z
 i3z : i3 ≠ z
 TITO : TI ≠ TO
 TI1 : TI ≠ i1
 TI2 : TI ≠ i2
 TI3 : TI ≠ i3
 TO1 : TO ≠ i1
 TO2 : TO ≠ i2
 TO3 : TO ≠ i3
 i12 : i1 ≠ i2
 i13 : i1 ≠ i3
 i23 : i2 ≠ i3
theorem Jcw (n : Nat) : Far3 (n + 5) (n + 3) (n + 4) n (n + 1) (n + 2) := by
 constructor <;> (intro z; have : (_ : Nat) = _ := z; omega)
section
variable {prog : Program} {w : World} {A : Around} {E : Value → Shared → Prop} {s : Shared}
theorem J7k {t : Addr} {p q r x : Value} {k : Nat} {Q : Unit → Shared → Prop} (hT : J1Q s.heap t p q r)
  (h : ∀ h',h'.get? t = some { cls := .type "tuple",data := .seq ((#[p,q,r] : Array Value).setIfInBounds k x) } → Heap.SameBut t s.heap h' → Q () { s with heap := h' }) :
  wpAny (model prog w) A (updateSeq t (·.setIfInBounds k x)) Q E s := by
 refine wpAny_updateSeq hT rfl (h _ ?_ (Heap.SameBut.update ..))
 rw [Heap.get?_update_self _ hT rfl]
 simp [Obj.mapSeq]
theorem Jbs {z TI TO i1 i2 i3 : Addr} {k n1 n2 n3 : Nat} {P1 P2 P3 : Nat → Value → Prop} {S1 S2 S3 : Nat → Heap → Prop} {p q r : Value} {f1 f2 f3 : List Addr} {Q : Value → Shared → Prop} (F : Far3 z TI TO i1 i2 i3)
  (D1 : Draws prog w A i1 f1 n1 P1 S1) (D2 : Draws prog w A i2 f2 n2 P2 S2) (D3 : Draws prog w A i3 f3 n3 P3 S3)
  (o1 : ∀ c ∈ f1,c ≠ z ∧ c ≠ TO ∧ c ≠ i2 ∧ c ≠ i3) (o2 : ∀ c ∈ f2,c ≠ z ∧ c ≠ TO ∧ c ≠ i1 ∧ c ≠ i3) (o3 : ∀ c ∈ f3,c ≠ z ∧ c ≠ TO ∧ c ≠ i1 ∧ c ≠ i2)
  (hz : IsZip s.heap z TI TO .none) (hTI : J1Q s.heap TI (.ref i1) (.ref i2) (.ref i3)) (hTO : J1Q s.heap TO p q r)
  (h1 : S1 k s.heap) (h2 : S2 k s.heap) (h3 : S3 k s.heap) (hk1 : k < n1) (hk2 : k < n2) (hk3 : k < n3)
  (hQ : ∀ x y v h' tk,P1 k x → P2 k y → P3 k v → IsZip h' z TI TO (rawInt s.heap.objs.size) → J1Q h' TO x y v → S1 (k + 1) h' → S2 (k + 1) h' → S3 (k + 1) h' → J1Q h' s.heap.objs.size x y v → h'.objs.size = s.heap.objs.size + 1 →
   (∀ c o,c ≠ z → c ≠ TO → c ≠ i1 → c ≠ i2 → c ≠ i3 → s.heap.get? c = some o → h'.get? c = some o) → Q (.ref s.heap.objs.size) { s with heap := h',toks := tk }) :
  wpAny (model prog w) A (Builtin.«zip.__next__» ⟨[.ref z],[]⟩) (fun fin s' => ∃ v,fin = .done (.ret v) ∧ Q v s') E s := by
 have g1 : ∀ i h h',S1 i h → (∀ c o,c ≠ z → c ≠ TO → c ≠ i2 → c ≠ i3 → h.get? c = some o → h'.get? c = some o) → S1 i h' := fun i h h' st hk => D1.frame i h h' st fun b hb o e => hk b o (o1 b hb).1 (o1 b hb).2.1 (o1 b hb).2.2.1 (o1 b hb).2.2.2 e
 have g2 : ∀ i h h',S2 i h → (∀ c o,c ≠ z → c ≠ TO → c ≠ i1 → c ≠ i3 → h.get? c = some o → h'.get? c = some o) → S2 i h' := fun i h h' st hk => D2.frame i h h' st fun b hb o e => hk b o (o2 b hb).1 (o2 b hb).2.1 (o2 b hb).2.2.1 (o2 b hb).2.2.2 e
 have g3 : ∀ i h h',S3 i h → (∀ c o,c ≠ z → c ≠ TO → c ≠ i1 → c ≠ i2 → h.get? c = some o → h'.get? c = some o) → S3 i h' := fun i h h' st hk => D3.frame i h h' st fun b hb o e => hk b o (o3 b hb).1 (o3 b hb).2.1 (o3 b hb).2.2.1 (o3 b hb).2.2.2 e
 show wpAny _ _ (field (.ref z) 2 >>= _) _ _ _
 refine wpAny_bind (wpAny_field hz rfl (x := .bool false) rfl ?_)
 show wpAny _ _ (field (.ref z) 3 >>= _) _ _ _
 refine wpAny_bind (wpAny_field hz rfl (x := .ref TI) rfl ?_)
 refine wpAny_bind (wpAny_seqItems hTI rfl ?_)
 show wpAny _ _ (Builtin.SmallTypes.ownedTupleIsFree (.ref z) >>= _) _ _ _
 refine wpAny_bind ?_
 unfold Builtin.SmallTypes.ownedTupleIsFree
 refine wpAny_bind (wpAny_field hz rfl (x := .none) rfl (wpAny_pure ?_))
 simp only [if_true]
 refine wpAny_bind (wpAny_rule ?_)
 refine wpAny_bind (wpAny_field hz rfl (x := .ref TO) rfl ?_)
 refine wpAny_bind (wpAny_setField_rec hz (by simp) fun ha hza sa => ?_)
 replace hza : IsZip ha z TI TO .ellipsis := hza
 refine wpAny_bind ?_
 simp only [List.zipIdx_cons,List.zipIdx_nil,List.forIn_cons,List.forIn_nil]
 refine wpAny_bind (wpAny_bind (wpAny_onRaise ?_))
 show wpAny _ _ (Builtin.SmallTypes.nextOf (.ref i1) >>= _) _ _ _
 refine wpAny_bind (D1.item k _ _ _ hk1 (g1 _ _ _ h1 fun c o c1 _ _ _ e => sa.extBut _ _ c1 e) fun x hb tb px sb1 sb => wpAny_pure ?_)
 replace sb : Heap.SameBut i1 ha hb := sb
 have tb1 : J1Q hb TO p q r := sb.extBut _ _ F.TO1 (sa.extBut _ _ F.TOz hTO)
 refine wpAny_bind (wpAny_seqItems tb1 rfl ?_)
 refine wpAny_bind (J7k tb1 fun hc tc sc => ?_)
 replace tc : J1Q hc TO x q r := tc
 replace sc : Heap.SameBut TO hb hc := sc
 refine wpAny_bind (wpAny_letGo (wpAny_pure ?_))
 refine wpAny_bind (wpAny_bind (wpAny_onRaise ?_))
 show wpAny _ _ (Builtin.SmallTypes.nextOf (.ref i2) >>= _) _ _ _
 refine wpAny_bind (D2.item k _ _ _ hk2 (g2 _ _ _ h2 fun c o c1 c2 c3 _ e => sc.extBut _ _ c2 (sb.extBut _ _ c3 (sa.extBut _ _ c1 e))) fun y hd td py sd2 sd => wpAny_pure ?_)
 replace sd : Heap.SameBut i2 hc hd := sd
 have td1 : J1Q hd TO x q r := sd.extBut _ _ F.TO2 tc
 refine wpAny_bind (wpAny_seqItems td1 rfl ?_)
 refine wpAny_bind (J7k td1 fun he te se => ?_)
 replace te : J1Q he TO x y r := te
 replace se : Heap.SameBut TO hd he := se
 refine wpAny_bind (wpAny_letGo (wpAny_pure ?_))
 refine wpAny_bind (wpAny_bind (wpAny_onRaise ?_))
 show wpAny _ _ (Builtin.SmallTypes.nextOf (.ref i3) >>= _) _ _ _
 refine wpAny_bind (D3.item k _ _ _ hk3 (g3 _ _ _ h3 fun c o c1 c2 c3 c4 e => se.extBut _ _ c2 (sd.extBut _ _ c4 (sc.extBut _ _ c2 (sb.extBut _ _ c3 (sa.extBut _ _ c1 e))))) fun v hf tf pv sf3 sf => wpAny_pure ?_)
 replace sf : Heap.SameBut i3 he hf := sf
 have tf1 : J1Q hf TO x y r := sf.extBut _ _ F.TO3 te
 refine wpAny_bind (wpAny_seqItems tf1 rfl ?_)
 refine wpAny_bind (J7k tf1 fun hg tg sg => ?_)
 replace tg : J1Q hg TO x y v := tg
 replace sg : Heap.SameBut TO hf hg := sg
 refine wpAny_bind (wpAny_letGo (wpAny_pure (wpAny_pure ?_)))
 refine wpAny_bind (wpAny_seqItems tg rfl ?_)
 refine wpAny_bind (wpAny_newTuple ?_)
 have hsz : hg.objs.size = s.heap.objs.size := by rw [sg.1,sf.1,se.1,sd.1,sc.1,sb.1,sa.1]
 have zg : IsZip hg z TI TO .ellipsis := sg.extBut _ _ F.TOz.symm (sf.extBut _ _ F.i3z.symm (se.extBut _ _ F.TOz.symm (sd.extBut _ _ F.i2z.symm (sc.extBut _ _ F.TOz.symm (sb.extBut _ _ F.i1z.symm hza)))))
 have kg : ∀ c o,c ≠ z → c ≠ TO → c ≠ i1 → c ≠ i2 → c ≠ i3 → s.heap.get? c = some o → hg.get? c = some o := fun c o c1 c2 c3 c4 c5 e =>
  sg.extBut _ _ c2 (sf.extBut _ _ c5 (se.extBut _ _ c2 (sd.extBut _ _ c4 (sc.extBut _ _ c2 (sb.extBut _ _ c3 (sa.extBut _ _ c1 e))))))
 have t1 : S1 (k + 1) hg := g1 _ _ _ sb1 fun c o _ c2 c3 c4 e => sg.extBut _ _ c2 (sf.extBut _ _ c4 (se.extBut _ _ c2 (sd.extBut _ _ c3 (sc.extBut _ _ c2 e))))
 have t2 : S2 (k + 1) hg := g2 _ _ _ sd2 fun c o _ c2 _ c4 e => sg.extBut _ _ c2 (sf.extBut _ _ c4 (se.extBut _ _ c2 e))
 have t3 : S3 (k + 1) hg := g3 _ _ _ sf3 fun c o _ c2 _ _ e => sg.extBut _ _ c2 e
 have zlt : z < hg.objs.size := Heap.lt_size zg
 show wpAny _ _ (Builtin.SmallTypes.ownedTupleHandOut (.ref z) (.ref hg.objs.size) >>= _) _ _ _
 refine wpAny_bind ?_
 unfold Builtin.SmallTypes.ownedTupleHandOut
 have zh : IsZip (hg.push { cls := .type "tuple",data := .seq #[x,y,v] }) z TI TO .ellipsis := Heap.get?_push_of_some _ zg
 refine wpAny_bind (wpAny_setField_rec zh (by simp) fun hi zi si => ?_)
 replace zi : IsZip hi z TI TO (rawInt hg.objs.size) := zi
 replace si : Heap.SameBut z (hg.push { cls := .type "tuple",data := .seq #[x,y,v] }) hi := si
 refine wpAny_setField_rec zi (by simp) fun hj zj sj => ?_
 replace zj : IsZip hj z TI TO (rawInt hg.objs.size) := zj
 replace sj : Heap.SameBut z hi hj := sj
 have up : ∀ c o,c ≠ z → hg.get? c = some o → hj.get? c = some o := fun c o c1 e => sj.extBut _ _ c1 (si.extBut _ _ c1 (Heap.get?_push_of_some _ e))
 have tj : J1Q hj hg.objs.size x y v := sj.extBut _ _ (Nat.ne_of_gt zlt) (si.extBut _ _ (Nat.ne_of_gt zlt) (Heap.get?_push_size _ rfl))
 have zs : hj.objs.size = hg.objs.size + 1 := by rw [sj.1,si.1,Heap.size_push]
 rw [hsz] at zj tj zs
 refine wpAny_pure ⟨_,rfl,?_⟩
 show Q (.ref hg.objs.size) _
 rw [hsz]
 exact hQ x y v hj tf px py pv zj (up _ _ F.TOz tg) (g1 _ _ _ t1 fun c o c1 _ _ _ e => up c o c1 e) (g2 _ _ _ t2 fun c o c1 _ _ _ e => up c o c1 e) (g3 _ _ _ t3 fun c o c1 _ _ _ e => up c o c1 e) tj zs fun c o c1 c2 c3 c4 c5 e => up c o c1 (kg c o c1 c2 c3 c4 c5 e)
theorem Jdj {z TI TO i1 i2 i3 : Addr} {n1 : Nat} {P1 : Nat → Value → Prop} {S1 : Nat → Heap → Prop} {f1 : List Addr} {Q : Fin → Shared → Prop} (F : Far3 z TI TO i1 i2 i3)
  (D1 : Draws prog w A i1 f1 n1 P1 S1) (o1 : ∀ c ∈ f1,c ≠ z) (hz : IsZip s.heap z TI TO .none) (hTI : J1Q s.heap TI (.ref i1) (.ref i2) (.ref i3)) (h1 : S1 n1 s.heap)
  (hE : ∀ h' tk e,(∀ c o,c ≠ z → c ≠ i1 → s.heap.get? c = some o → h'.get? c = some o) → (∃ o,h'.get? e = some o ∧ o.cls = .type "StopIteration") → E (.ref e) { s with heap := h',toks := tk }) :
  wpAny (model prog w) A (Builtin.«zip.__next__» ⟨[.ref z],[]⟩) Q E s := by
 show wpAny _ _ (field (.ref z) 2 >>= _) _ _ _
 refine wpAny_bind (wpAny_field hz rfl (x := .bool false) rfl ?_)
 show wpAny _ _ (field (.ref z) 3 >>= _) _ _ _
 refine wpAny_bind (wpAny_field hz rfl (x := .ref TI) rfl ?_)
 refine wpAny_bind (wpAny_seqItems hTI rfl ?_)
 show wpAny _ _ (Builtin.SmallTypes.ownedTupleIsFree (.ref z) >>= _) _ _ _
 refine wpAny_bind ?_
 unfold Builtin.SmallTypes.ownedTupleIsFree
 refine wpAny_bind (wpAny_field hz rfl (x := .none) rfl (wpAny_pure ?_))
 simp only [if_true]
 refine wpAny_bind (wpAny_rule ?_)
 refine wpAny_bind (wpAny_field hz rfl (x := .ref TO) rfl ?_)
 refine wpAny_bind (wpAny_setField_rec hz (by simp) fun ha hza sa => ?_)
 replace hza : IsZip ha z TI TO .ellipsis := hza
 refine wpAny_bind ?_
 simp only [List.zipIdx_cons,List.zipIdx_nil,List.forIn_cons,List.forIn_nil]
 refine wpAny_bind (wpAny_bind (wpAny_onRaise ?_))
 show wpAny _ _ (Builtin.SmallTypes.nextOf (.ref i1) >>= _) _ _ _
 refine wpAny_bind (D1.done _ _ _ (D1.frame _ _ _ h1 fun b hb o e => sa.extBut _ _ (o1 b hb) e) fun hb e sb he => ?_)
 obtain ⟨oe,hoe,hce⟩ := he
 replace sb : Heap.ExtBut i1 ha hb := sb
 have zb : IsZip hb z TI TO .ellipsis := sb _ _ F.i1z.symm hza
 have hez : e ≠ z := fun x => by subst x; rw [zb] at hoe; cases hoe; simp at hce
 exact wpAny_setField_rec zb (by simp) fun hc _ sc => hE hc _ e (fun c o c1 c3 x => sc.extBut _ _ c1 (sb _ _ c3 (sa.extBut _ _ c1 x))) ⟨oe,sc.extBut _ _ hez hoe,hce⟩
noncomputable abbrev z3A (h : Heap) (l1 : Addr) : Heap := h.push { cls := .type "list_iterator",data := .fields #[.ref l1,.int 0 0] }
noncomputable abbrev z3B (h : Heap) (l1 l2 : Addr) : Heap := (z3A h l1).push { cls := .type "list_iterator",data := .fields #[.ref l2,.int 0 0] }
noncomputable abbrev z3C (h : Heap) (l1 l2 l3 : Addr) : Heap := (z3B h l1 l2).push { cls := .type "list_iterator",data := .fields #[.ref l3,.int 0 0] }
noncomputable abbrev z3D (h : Heap) (l1 l2 l3 : Addr) : Heap := (z3C h l1 l2 l3).push { cls := .type "tuple",data := .seq #[.ref h.objs.size,.ref (z3A h l1).objs.size,.ref (z3B h l1 l2).objs.size] }
noncomputable abbrev z3E (h : Heap) (l1 l2 l3 : Addr) : Heap := (z3D h l1 l2 l3).push { cls := .type "tuple",data := .seq #[.none,.none,.none] }
noncomputable abbrev z3F (h : Heap) (l1 l2 l3 : Addr) : Heap := (z3E h l1 l2 l3).push { cls := .type "zip",data := .fields #[.none,.bool false,.bool false,.ref (z3C h l1 l2 l3).objs.size,.ref (z3D h l1 l2 l3).objs.size] }
theorem JaL (l1 l2 l3 : Addr) (xs ys us : Array Value) :
  Meets (Builtin.«zip.__new__» ⟨[.type "zip",.ref l1,.ref l2,.ref l3],[]⟩) (fun _ R s => s.heap.IsList l1 xs ∧ s.heap.IsList l2 ys ∧ s.heap.IsList l3 us ∧
   R (.ok (.ret (.ref (z3E s.heap l1 l2 l3).objs.size))) { s with heap := z3F s.heap l1 l2 l3 }) :=
 .of_wp fun prog w A R s h => by
  obtain ⟨hp,g,d,tk,os⟩ := s
  obtain ⟨a1,a2,a3,h⟩ := h
  have hsub := sub_zip
  have b1 : Heap.IsList (Shared.heap ⟨hp,g,d,tk,os⟩) l1 xs := a1
  have b2 : Heap.IsList (Shared.heap ⟨hp.push { cls := .type "list_iterator",data := .fields #[.ref l1,.int 0 0] },g,d,tk,os⟩) l2 ys := Heap.IsList.push a2 _
  have b3 : Heap.IsList (Shared.heap ⟨(hp.push { cls := .type "list_iterator",data := .fields #[.ref l1,.int 0 0] }).push { cls := .type "list_iterator",data := .fields #[.ref l2,.int 0 0] },g,d,tk,os⟩) l3 us := Heap.IsList.push (Heap.IsList.push a3 _) _
  wp_walk using wpAny_pyIter_list b1,wpAny_pyIter_list b2,wpAny_pyIter_list b3
  exact ⟨_,rfl,h⟩
theorem JbL {l1 l2 l3 : Addr} {xs ys us : Array Value} {Q : Value → Shared → Prop} (a1 : s.heap.IsList l1 xs) (a2 : s.heap.IsList l2 ys) (a3 : s.heap.IsList l3 us)
  (h : ∀ h',IsZip h' (s.heap.objs.size + 5) (s.heap.objs.size + 3) (s.heap.objs.size + 4) .none → J1Q h' (s.heap.objs.size + 3) (.ref s.heap.objs.size) (.ref (s.heap.objs.size + 1)) (.ref (s.heap.objs.size + 2)) →
   J1Q h' (s.heap.objs.size + 4) .none .none .none → h'.IsListIter s.heap.objs.size l1 0 → h'.IsListIter (s.heap.objs.size + 1) l2 0 → h'.IsListIter (s.heap.objs.size + 2) l3 0 →
   (∀ c o,s.heap.get? c = some o → h'.get? c = some o) → Q (.ref (s.heap.objs.size + 5)) { s with heap := h' }) :
  wpAny (model prog w) A (call (.type "zip") [.ref l1,.ref l2,.ref l3]) Q E s := by
 refine callType_new F.called_zip (by decide) (JdU _ _ _) (Jfi _ _ _) (fun obj => JdZ obj _ _ _) F.entry_zip_new (JaL l1 l2 l3 xs ys us) ⟨a1,a2,a3,?_⟩
 have e1 : (z3A s.heap l1).objs.size = s.heap.objs.size + 1 := Heap.size_push ..
 have e2 : (z3B s.heap l1 l2).objs.size = s.heap.objs.size + 2 := by rw [Heap.size_push,e1]
 have e3 : (z3C s.heap l1 l2 l3).objs.size = s.heap.objs.size + 3 := by rw [Heap.size_push,e2]
 have e4 : (z3D s.heap l1 l2 l3).objs.size = s.heap.objs.size + 4 := by rw [Heap.size_push,e3]
 have e5 : (z3E s.heap l1 l2 l3).objs.size = s.heap.objs.size + 5 := by rw [Heap.size_push,e4]
 have k6 : (z3F s.heap l1 l2 l3).get? (z3E s.heap l1 l2 l3).objs.size = some _ := Heap.get?_push_size _ rfl
 have k5 : (z3F s.heap l1 l2 l3).get? (z3D s.heap l1 l2 l3).objs.size = some _ := Heap.get?_push_of_some _ (Heap.get?_push_size _ rfl)
 have k4 : (z3F s.heap l1 l2 l3).get? (z3C s.heap l1 l2 l3).objs.size = some _ := Heap.get?_push_of_some _ (Heap.get?_push_of_some _ (Heap.get?_push_size _ rfl))
 have k3 : (z3F s.heap l1 l2 l3).get? (z3B s.heap l1 l2).objs.size = some _ := Heap.get?_push_of_some _ (Heap.get?_push_of_some _ (Heap.get?_push_of_some _ (Heap.get?_push_size _ rfl)))
 have k2 : (z3F s.heap l1 l2 l3).get? (z3A s.heap l1).objs.size = some _ := Heap.get?_push_of_some _ (Heap.get?_push_of_some _ (Heap.get?_push_of_some _ (Heap.get?_push_of_some _ (Heap.get?_push_size _ rfl))))
 have k1 : (z3F s.heap l1 l2 l3).get? s.heap.objs.size = some _ := Heap.get?_push_of_some _ (Heap.get?_push_of_some _ (Heap.get?_push_of_some _ (Heap.get?_push_of_some _ (Heap.get?_push_of_some _ (Heap.get?_push_size _ rfl)))))
 show _ ∧ _
 rw [e3,e4,e5] at k6
 rw [e1,e2,e3] at k4
 rw [e4] at k5
 rw [e2] at k3
 rw [e1] at k2
 rw [e5]
 exact ⟨⟨_,k6,rfl⟩,h _ k6 k4 k5 ⟨_,k1,rfl,rfl⟩ ⟨_,k2,rfl,rfl⟩ ⟨_,k3,rfl,rfl⟩ fun c o x =>
  Heap.get?_push_of_some _ (Heap.get?_push_of_some _ (Heap.get?_push_of_some _ (Heap.get?_push_of_some _ (Heap.get?_push_of_some _ (Heap.get?_push_of_some _ x)))))⟩
end
noncomputable def Iz3 (K : PySem.W.Frag) (a b c : Addr) : It :=
  ⟨fun i H => ∃ xs ys zs x y z,SqL K H a xs ∧ SqL K H b ys ∧ SqL K H c zs ∧ xs[i]? = some x ∧ ys[i]? = some y ∧ zs[i]? = some z,
   fun i H v H' => ∃ p x y z,H p = none ∧ (∀ xs,SqL K H a xs → xs[i]? = some x) ∧ (∀ ys,SqL K H b ys → ys[i]? = some y) ∧ (∀ zs,SqL K H c zs → zs[i]? = some z) ∧ v = .ref p ∧ H' = upd H p (.tup [x,y,z]),
   fun i H => ∃ xs,SqL K H a xs ∧ xs.length = i⟩
theorem J4q {h : Heap} {i l l' : Addr} {k : Nat} {xs : Array Value} (hi : h.IsListIter i l' k) (hl : h.IsList l xs) : l ≠ i := by
 obtain ⟨o1,e1,c1,_⟩ := hi
 obtain ⟨p1,q1,d1,_⟩ := hl
 exact J35 q1 e1 (by rw [d1,c1]; intro z; injection z with z; revert z; decide)
theorem Jai {h : Heap} {t l : Addr} {o : Obj} {xs : Array Value} (ht : h.get? t = some o) (hc : o.cls = .type "tuple" ∨ o.cls = .type "zip") (hl : h.IsList l xs) : l ≠ t := by
 obtain ⟨p1,q1,d1,_⟩ := hl
 refine J35 q1 ht ?_
 rw [d1]
 rcases hc with e | e <;> (rw [e]; intro z; injection z with z; revert z; decide)
theorem Jc6 {P : Program} {w : World} {K : PySem.W.Frag} {es : List Expr} {k : Nat} {pos : Pos} {z TI TO i1 i2 i3 l1 l2 l3 : Addr} (F : Far3 z TI TO i1 i2 i3) :
  Turn P w K (.Tuple es k pos) (Iz3 K l1 l2 l3) [z,TI,TO,i1,i2,i3] z (fun i h => IsZip h z TI TO .none ∧ J1Q h TI (.ref i1) (.ref i2) (.ref i3) ∧ (∃ a b c,J1Q h TO a b c) ∧ h.IsListIter i1 l1 i ∧ h.IsListIter i2 l2 i ∧ h.IsListIter i3 l3 i) where
 mem := by simp
 obj := fun i h st b hb => by
  obtain ⟨hz,hTI,⟨a,b',c',hTO⟩,⟨o1,e1,c1,d1⟩,⟨o2,e2,c2,d2⟩,o3,e3,c3,d3⟩ := st
  simp only [List.mem_cons,List.not_mem_nil,or_false] at hb
  rcases hb with rfl | rfl | rfl | rfl | rfl | rfl
  ·exact ⟨_,hz,fun v q => by cases q⟩
  ·exact ⟨_,hTI,fun v q => by cases q⟩
  ·exact ⟨_,hTO,fun v q => by cases q⟩
  ·exact ⟨o1,e1,fun v q => by rw [d1] at q; cases q⟩
  ·exact ⟨o2,e2,fun v q => by rw [d2] at q; cases q⟩
  ·exact ⟨o3,e3,fun v q => by rw [d3] at q; cases q⟩
 keep := fun i h h' st kk => by
  obtain ⟨hz,hTI,⟨a,b',c',hTO⟩,⟨o1,e1,r1⟩,⟨o2,e2,r2⟩,o3,e3,r3⟩ := st
  exact ⟨kk z (by simp) _ hz,kk TI (by simp) _ hTI,⟨a,b',c',kk TO (by simp) _ hTO⟩,⟨o1,kk i1 (by simp) _ e1,r1⟩,⟨o2,kk i2 (by simp) _ e2,r2⟩,o3,kk i3 (by simp) _ e3,r3⟩
 item := by
  intro X hP hw hK hc i pins s σ H E I hf st hg
  subst hP hw hK
  obtain ⟨hz,hTI,⟨a,b,c,hTO⟩,h1,h2,h3⟩ := st
  obtain ⟨xs,ys,us,x,y,v,hq1,hq2,hq3,hx,hy,hv⟩ := hg
  obtain ⟨ia,ra,pa,_⟩ := I.list hq1
  obtain ⟨ib,rb,pb,_⟩ := I.list hq2
  obtain ⟨ic,rc,pc,_⟩ := I.list hq3
  obtain ⟨x',hx',rx⟩ := ra.get hx
  obtain ⟨y',hy',ry⟩ := rb.get hy
  obtain ⟨v',hv',rv⟩ := rc.get hv
  have hh : X.A.in1.handled = none := I.ok.hd hc
  have hT : s.TypeIs (.ref z) "zip" := ⟨_,hz,rfl⟩
  have D1 := Draws.list (prog := X.prog) (w := X.w) hh i1 l1 (J4q h1 pa.isList) ia.toArray
  have D2 := Draws.list (prog := X.prog) (w := X.w) hh i2 l2 (J4q h2 pb.isList) ib.toArray
  have D3 := Draws.list (prog := X.prog) (w := X.w) hh i3 l3 (J4q h3 pc.isList) ic.toArray
  have lz : ∀ {l : Addr} {zs : Array Value},s.heap.IsList l zs → l ≠ z ∧ l ≠ TO ∧ l ≠ i1 ∧ l ≠ i2 ∧ l ≠ i3 := fun q => ⟨Jai hz (.inr rfl) q,Jai hTO (.inl rfl) q,J4q h1 q,J4q h2 q,J4q h3 q⟩
  have q1 := lz pa.isList
  have q2 := lz pb.isList
  have q3 := lz pc.isList
  unfold pyNext
  refine wpAny_bind (wpAny_attempt (wpAny_callSpecial?_slot (name := Str.ofString "__next__") hT PySem.F.slot_zip_next (wpAny_call_entry PySem.F.slot_zip_next hT PySem.F.entry_zip_next
   (Jbs F D1 D2 D3 (fun q hq => ?_) (fun q hq => ?_) (fun q hq => ?_) hz hTI hTO ⟨h1,pa.isList⟩ ⟨h2,pb.isList⟩ ⟨h3,pc.isList⟩ (by simpa using (List.getElem?_eq_some_iff.mp hx').1) (by simpa using (List.getElem?_eq_some_iff.mp hy').1) (by simpa using (List.getElem?_eq_some_iff.mp hv').1) fun x2 y2 v2 h' tk gx gy gv a1 a2 a3 a4 a4' a5 a6 kp => wpAny_pure ?_) (PySem.F.args_zip_next_1 _))))
  ·simp only [List.mem_cons,List.not_mem_nil,or_false] at hq
   rcases hq with rfl | rfl
   ·exact ⟨F.i1z,F.TO1.symm,F.i12,F.i13⟩
   ·exact ⟨q1.1,q1.2.1,q1.2.2.2.1,q1.2.2.2.2⟩
  ·simp only [List.mem_cons,List.not_mem_nil,or_false] at hq
   rcases hq with rfl | rfl
   ·exact ⟨F.i2z,F.TO2.symm,F.i12.symm,F.i23⟩
   ·exact ⟨q2.1,q2.2.1,q2.2.2.1,q2.2.2.2.2⟩
  ·simp only [List.mem_cons,List.not_mem_nil,or_false] at hq
   rcases hq with rfl | rfl
   ·exact ⟨F.i3z,F.TO3.symm,F.i13.symm,F.i23.symm⟩
   ·exact ⟨q3.1,q3.2.1,q3.2.2.1,q3.2.2.2.1⟩
  obtain rfl : x2 = x' := Option.some.inj ((show ia.toArray[i]? = some x2 from gx).symm.trans (by simpa using hx'))
  obtain rfl : y2 = y' := Option.some.inj ((show ib.toArray[i]? = some y2 from gy).symm.trans (by simpa using hy'))
  obtain rfl : v2 = v' := Option.some.inj ((show ic.toArray[i]? = some v2 from gv).symm.trans (by simpa using hv'))
  refine ⟨_,rfl,?_⟩
  refine wpAny_letOwnedTupleGo_zip (s := { s with heap := h',toks := tk }) a1 fun h2' hz' hs' => ?_
  replace hs' : Heap.SameBut z h' h2' := hs'
  have zlt : z < s.heap.objs.size := Heap.lt_size hz
  have far : ∀ q ∈ [z,TI,TO,i1,i2,i3],q < s.heap.objs.size := by
   intro q hq
   obtain ⟨o1,e1,_⟩ := h1
   obtain ⟨o2,e2,_⟩ := h2
   obtain ⟨o3,e3,_⟩ := h3
   simp only [List.mem_cons,List.not_mem_nil,or_false] at hq
   rcases hq with rfl | rfl | rfl | rfl | rfl | rfl
   ·exact zlt
   ·exact Heap.lt_size hTI
   ·exact Heap.lt_size hTO
   ·exact Heap.lt_size e1
   ·exact Heap.lt_size e2
   ·exact Heap.lt_size e3
  have fz := hf z (by simp)
  have fTO := hf TO (by simp)
  have f1 := hf i1 (by simp)
  have f2 := hf i2 (by simp)
  have f3 := hf i3 (by simp)
  have keepAll : ∀ b o,b ≠ z → b ≠ TO → b ≠ i1 → b ≠ i2 → b ≠ i3 → s.heap.get? b = some o → h2'.get? b = some o := fun b o b1 b2 b3 b4 b5 e => hs'.extBut _ _ b1 (kp b o b1 b2 b3 b4 b5 e)
  have hnew : H s.heap.objs.size = none := I.hok.fresh (Nat.le_refl _)
  have Tz : s.heap.objs.size ≠ z := Nat.ne_of_gt zlt
  have ht2 : h2'.get? s.heap.objs.size = some { cls := .type "tuple",data := .seq #[x2,y2,v2] } := hs'.extBut _ _ Tz a5
  have I2 : Inv X pins σ (upd H s.heap.objs.size (.tup [x,y,v])) { s with heap := h2',toks := tk } := by
   have nch : ∀ b,b ∉ [z,TO,i1,i2,i3] → b ≠ z ∧ b ≠ TO ∧ b ≠ i1 ∧ b ≠ i2 ∧ b ≠ i3 := fun b hb => by
    simp only [List.mem_cons,List.not_mem_nil,or_false,not_or] at hb
    exact hb
   have trk : ∀ b u',H b = some u' → b ≠ z ∧ b ≠ TO ∧ b ≠ i1 ∧ b ≠ i2 ∧ b ≠ i3 := fun b u' e =>
    ⟨fun q => (by rw [q,fz.1] at e; cases e),fun q => (by rw [q,fTO.1] at e; cases e),fun q => (by rw [q,f1.1] at e; cases e),fun q => (by rw [q,f2.1] at e; cases e),fun q => (by rw [q,f3.1] at e; cases e)⟩
   have okH : HOk X.prog X.w (upd H s.heap.objs.size (.tup [x,y,v])) h2' := fun b u' e => by
    by_cases hb : b = s.heap.objs.size
    ·subst hb
     rw [Jd] at e
     cases e
     exact ⟨(show 3 ≤ sizeLine by decide),[x2,y2,v2],.cons rx (.cons ry (.cons rv .nil)),⟨_,ht2,rfl,_,rfl⟩⟩
    ·rw [Jj hb] at e
     have hx := I.hok b u' e
     refine hx.stay (fun q o hq e2 => ?_) (fun q e2 => ?_) (fun q xs e2 => ?_)
     ·rcases hq with rfl | hq
      ·obtain ⟨b1,b2,b3,b4,b5⟩ := trk q _ e
       exact keepAll q o b1 b2 b3 b4 b5 e2
      ·obtain ⟨b1,b2,b3,b4,b5⟩ := trk q _ hq
       exact keepAll q o b1 b2 b3 b4 b5 e2
     ·rw [Jj (Je e2 hnew)]; exact e2
     ·rw [Jj (Je e2 hnew)]; exact e2
   refine I.step (g' := s.gens) (d' := s.drawn) (ch := [z,TO,i1,i2,i3]) (fun b hb => ?_) (fun b o _ _ hcb e n => ?_) (fun b o _ _ hcb e n => ?_) (fun b o hcb e n => ?_) (fun b o hcb e => ?_) (fun b xs e => ?_) (fun b o u' e => ?_) (fun b ps e => ?_) (fun m hm => ?_) okH I.bare
   ·simp only [List.mem_cons,List.not_mem_nil,or_false] at hb
    rcases hb with rfl | rfl | rfl | rfl | rfl
    ·exact ⟨fz.2.2.2.1,fz.2.1,fz.2.2.2.2.1,fz.2.2.2.2.2⟩
    ·exact ⟨fTO.2.2.2.1,fTO.2.1,fTO.2.2.2.2.1,fTO.2.2.2.2.2⟩
    ·exact ⟨f1.2.2.2.1,f1.2.1,f1.2.2.2.2.1,f1.2.2.2.2.2⟩
    ·exact ⟨f2.2.2.2.1,f2.2.1,f2.2.2.2.2.1,f2.2.2.2.2.2⟩
    ·exact ⟨f3.2.2.2.1,f3.2.1,f3.2.2.2.2.1,f3.2.2.2.2.2⟩
   ·obtain ⟨b1,b2,b3,b4,b5⟩ := nch b hcb
    exact keepAll b o b1 b2 b3 b4 b5 e
   ·obtain ⟨b1,b2,b3,b4,b5⟩ := nch b hcb
    exact ⟨o.slots,keepAll b o b1 b2 b3 b4 b5 e⟩
   ·rw [Jj (Nat.ne_of_lt (Heap.lt_size e))]; exact n
   ·obtain ⟨b1,b2,b3,b4,b5⟩ := nch b hcb
    exact ⟨o,keepAll b o b1 b2 b3 b4 b5 e⟩
   ·rw [Jj (Je e hnew)]; exact e
   ·rw [Jj (Je e hnew)]; exact e
   ·exact ⟨#[],by rw [Jj (Je e hnew),e]; simp⟩
   ·obtain ⟨o,es',ep,ho,r⟩ := hm
    exact ⟨o,es',ep,keepAll _ o fz.2.1.symm fTO.2.1.symm f1.2.1.symm f2.2.1.symm f3.2.1.symm ho,r⟩
  refine ⟨.ref s.heap.objs.size,_,I2,rfl,⟨_,x,y,v,hnew,fun zs hz => by rw [I.list_inj hz hq1]; exact hx,fun zs hz => by rw [I.list_inj hz hq2]; exact hy,fun zs hz => by rw [I.list_inj hz hq3]; exact hv,rfl,rfl⟩,⟨hz',hs'.extBut _ _ F.TIz (kp _ _ F.TIz F.TITO F.TI1 F.TI2 F.TI3 hTI),⟨_,_,_,hs'.extBut _ _ F.TOz a2⟩,?_,?_,?_⟩,fun b hb => ?_⟩
  ·obtain ⟨⟨o,e,r⟩,_⟩ := a3; exact ⟨o,hs'.extBut _ _ F.i1z e,r⟩
  ·obtain ⟨⟨o,e,r⟩,_⟩ := a4; exact ⟨o,hs'.extBut _ _ F.i2z e,r⟩
  ·obtain ⟨⟨o,e,r⟩,_⟩ := a4'; exact ⟨o,hs'.extBut _ _ F.i3z e,r⟩
  ·rw [Jj (Nat.ne_of_lt (far b hb))]; exact (hf b hb).1
 done := by
  intro X hP hw hK hc i pins s σ H E I hf st hg
  subst hP hw hK
  obtain ⟨hz,hTI,⟨a,b,c,hTO⟩,h1,h2,h3⟩ := st
  obtain ⟨xs,hq1,hl⟩ := hg
  obtain ⟨ia,ra,pa,_⟩ := I.list hq1
  have la := ra.length
  have hh : X.A.in1.handled = none := I.ok.hd hc
  have hT : s.TypeIs (.ref z) "zip" := ⟨_,hz,rfl⟩
  have D1 := Draws.list (prog := X.prog) (w := X.w) hh i1 l1 (J4q h1 pa.isList) ia.toArray
  have hn : ia.toArray.size = i := by rw [List.size_toArray]; omega
  unfold pyNext
  refine wpAny_bind (wpAny_attempt (wpAny_callSpecial?_slot (name := Str.ofString "__next__") hT PySem.F.slot_zip_next (wpAny_call_entry PySem.F.slot_zip_next hT PySem.F.entry_zip_next
   (Jdj F D1 (fun q hq => ?_) hz hTI ⟨by rw [hn]; exact h1,pa.isList⟩ fun h' tk e kp he => ?_) (PySem.F.args_zip_next_1 _))))
  ·simp only [List.mem_cons,List.not_mem_nil,or_false] at hq
   rcases hq with rfl | rfl
   ·exact F.i1z
   ·exact Jai hz (.inr rfl) pa.isList
  obtain ⟨o,ho,hc'⟩ := he
  refine wpAny_bind (wpAny_isInstance (T := "StopIteration") (b := true) ⟨o,ho,hc'⟩ isSubtype_stop ?_)
  refine wpAny_pure ⟨rfl,?_⟩
  refine I.turnedN (ch := [z,i1]) (fun b o hb q => ?_) fun b hb => hf b ?_
  ·simp only [List.mem_cons,List.not_mem_nil,or_false,not_or] at hb
   exact kp b o hb.1 hb.2 q
  ·simp only [List.mem_cons,List.not_mem_nil,or_false] at hb ⊢
   rcases hb with q | q
   ·exact .inl q
   ·exact .inr (.inr (.inr (.inl q)))
 self := fun _ _ _ _ _ st h => wpAny_pyIter_zip st.1 h
theorem Vals.three : ∀ {x y z : V} {us : List Value},Vals [x,y,z] us → ∃ u v t,us = [u,v,t] ∧ RelV x u ∧ RelV y v ∧ RelV z t
 | _,_,_,_,.cons r (.cons q (.cons p .nil)) => ⟨_,_,_,rfl,r,q,p⟩
noncomputable def JfM (K : PySem.W.Frag) (ta : TA) : TI := fun σ H R => ta σ H fun vs H1 => ∃ a b c,vs = [.ref a,.ref b,.ref c] ∧ (∃ xs,SqL K H1 a xs) ∧ (∃ ys,SqL K H1 b ys) ∧ (∃ zs,SqL K H1 c zs) ∧ R (Iz3 K a b c) H1
theorem JcG {X : Cx} {es : List Expr} {k : Nat} {tpos : Pos} {K : PySem.W.Frag} {a b c : Expr} {ta : TA} {p pos : Pos} (hK : X.K = K) (hg : Gl X "zip") (hm : X.mg "zip" = none) (ha : PA X [a,b,c] ta) (hv : bootBuiltins "zip" = some (.type "zip") := by decide +kernel)
  (hs : starEach [a,b,c] X.env = [(false,eval a X.env),(false,eval b X.env),(false,eval c X.env)] := by rfl) (hs2 : starEach [b,c] X.env = [(false,eval b X.env),(false,eval c X.env)] := by rfl) :
  PI X (.Tuple es k tpos) (.Call (.Name "zip" p) [a,b,c] [] pos) (JfM K ta) := by
 subst hK
 intro pins s σ H R I h
 refine Call_ (J3r I hg hm hv (PyProof.Rows.callWith_type1 (thn (ha pos pins s σ H _ I h) fun us s1 ⟨vs,H1,I1,r1,q1⟩ => ?_) (by rw [hs,hs2]) (by rw [hs2]; rfl)))
 obtain ⟨l1,l2,l3,e,⟨xs,hq1⟩,⟨ys,hq2⟩,⟨zs,hq3⟩,q⟩ := q1
 subst e
 obtain ⟨u,v,t,rfl,ru,rv,rt⟩ := r1.three
 cases ru; cases rv; cases rt
 obtain ⟨ia,ra,pa,_⟩ := I1.list hq1
 obtain ⟨ib,rb,pb,_⟩ := I1.list hq2
 obtain ⟨ic,rc,pc,_⟩ := I1.list hq3
 refine JbL pa.isList pb.isList pc.isList fun h' a1 a2 a3 a4 a5 a6 kp => ?_
 have I2 : Inv X pins σ H1 { s1 with heap := h' } := I1.kept (t' := s1.toks) kp
 refine wpAny_pyIter_zip a1 ⟨s1.heap.objs.size + 5,[s1.heap.objs.size + 5,s1.heap.objs.size + 3,s1.heap.objs.size + 4,s1.heap.objs.size,s1.heap.objs.size + 1,s1.heap.objs.size + 2],_,_,H1,rfl,I2,Jc6 (Jcw _),⟨a1,a2,⟨_,_,_,a3⟩,a4,a5,a6⟩,fun b hb => ?_,q⟩
 have hb' : s1.heap.objs.size ≤ b := by
  simp only [List.mem_cons,List.not_mem_nil,or_false] at hb
  rcases hb with rfl | rfl | rfl | rfl | rfl | rfl
  ·exact Nat.le_add_right _ _
  ·exact Nat.le_add_right _ _
  ·exact Nat.le_add_right _ _
  ·exact Nat.le_refl _
  ·exact Nat.le_add_right _ _
  ·exact Nat.le_add_right _ _
 exact I1.fpOk hb' (I1.hok.fresh hb')
theorem JcS {K : PySem.W.Frag} {a b c : Addr} {xs ys zs : List V} {g : TG} {tb : TS} {D : Ends} {σ : St} {H : Hp} (Pv : Nat → St → Hp → Prop) (ly : ys.length = xs.length) (lz : zs.length = xs.length) (h0 : Pv 0 σ H) (hl : ∀ i σ H,i ≤ xs.length → Pv i σ H → SqL K H a xs ∧ SqL K H b ys ∧ SqL K H c zs)
  (hs : ∀ i x y z p σ H,xs[i]? = some x → ys[i]? = some y → zs[i]? = some z → H p = none → Pv i σ H → g (.ref p) σ (upd H p (.tup [x,y,z])) fun σ2 H2 => tb { D with nx := Pv (i + 1),ct := Pv (i + 1),bk := D.nx } σ2 H2) (hd : ∀ σ H,Pv xs.length σ H → D.nx σ H) :
  ∃ W : Nat → Nat → St → Hp → Prop,(∃ m,W 0 m σ H) ∧ ∀ i m σ H,W i m σ H →
   ((Iz3 K a b c).stop i H ∧ D.nx σ H) ∨ ((Iz3 K a b c).go i H ∧ ∃ N : St → Hp → Prop,(∀ σ' H',N σ' H' → ∃ m',m' < m ∧ W (i + 1) m' σ' H') ∧ ∀ x H',(Iz3 K a b c).yld i H x H' → g x σ H' fun σ2 H2 => tb { D with nx := N,ct := N,bk := D.nx } σ2 H2) := by
 refine ⟨fun i m σ H => m = xs.length - i ∧ i ≤ xs.length ∧ Pv i σ H,⟨xs.length,by simp,Nat.zero_le _,h0⟩,?_⟩
 rintro i m σ H ⟨rfl,hi,p⟩
 obtain ⟨q1,q2,q3⟩ := hl i σ H hi p
 by_cases hlt : i < xs.length
 ·refine .inr ⟨⟨xs,ys,zs,xs[i],ys[i]'(by omega),zs[i]'(by omega),q1,q2,q3,by simp [hlt],List.getElem?_eq_getElem _,List.getElem?_eq_getElem _⟩,Pv (i + 1),fun σ' H' p' => ⟨xs.length - (i + 1),by omega,rfl,hlt,p'⟩,fun x H' y => ?_⟩
  obtain ⟨r,u,v,t,hr,e1,e2,e3,rfl,rfl⟩ := y
  exact hs i u v t r σ H (e1 xs q1) (e2 ys q2) (e3 zs q3) hr p
 ·have e : i = xs.length := by omega
  subst e
  exact .inl ⟨⟨xs,q1,rfl⟩,hd σ H p⟩
end L2
set_option linter.all false
set_option maxRecDepth 100000
set_option maxHeartbeats 4000000
namespace L2
open PySem PySem.Spec PyProof.Rows
section
variable {X : Cx} {K : PySem.W.Frag}
theorem JdY {xs : List (Int × Tok)} (h : 0 < xs.length) {v : Value} (e : (intItems xs.toArray)[argBest (fun i j => decide (numAt xs.toArray i < numAt xs.toArray j)) (xs.toArray.size - 1)]? = some v) :
  ∃ M t,v = .int M t ∧ M ∈ xs.map (·.1) ∧ ∀ a ∈ xs.map (·.1),M ≤ a := by
 obtain ⟨t,rfl⟩ := intItems_at e
 obtain ⟨h1,h2⟩ := argBest_lt (numAt xs.toArray) (xs.toArray.size - 1)
 have ez : xs.toArray.size = xs.length := List.size_toArray ..
 refine ⟨_,t,rfl,?_,fun a ha => ?_⟩
 ·rw [numAt_eq]
  exact getD_mem (by rw [List.length_map]; omega)
 ·obtain ⟨j,hj,rfl⟩ := mem_getD ha
  rw [List.length_map] at hj
  have := h2 j (by omega)
  conv at this => rhs; rw [numAt_eq]
  exact this
theorem J7T (hc : X.calm = true) (h : X.K = K) : J2m X (.builtin "min") (fun xs H Q => ∃ (D : Addr) (ns : List Int),xs = [.ref D] ∧ SqL K H D (ns.map V.int) ∧ 0 < ns.length ∧ ∀ M,M ∈ ns → (∀ a ∈ ns,M ≤ a) → Q (.int M) H) := by
 subst h
 intro pins s σ H xs us Q I r h
 obtain ⟨D,ns,rfl,hq,hn,q⟩ := h
 obtain ⟨u,rfl,ru⟩ := r.one
 cases ru
 obtain ⟨its,rv,pl,_⟩ := I.list hq
 obtain ⟨xs,rfl,rfl⟩ := J4o rv
 have e : (xs.map fun p => Value.int p.1 p.2).toArray = intItems xs.toArray := by simp [intItems]
 rw [List.length_map] at hn
 refine min_intList (xs := xs.toArray) (I.ok.hd hc) (by rw [← e]; exact pl.isList) (by rw [List.size_toArray]; exact hn) fun v h' tk hv hk => ?_
 obtain ⟨M,t,rfl,m1,m2⟩ := JdY hn hv
 exact ⟨.int M,H,I.kept (fun b o e => hk b o e),⟨t,rfl⟩,q M m1 m2⟩
end
end L2
set_option linter.all false
namespace L2
open PySem PySem.Spec PyProof.Rows
noncomputable def dblB (k : Nat) (m : List Nat) : Bool := (List.range m.length).any fun i => decide (m[i]? = some k) && decide (m[i + 1]? = some k)
theorem J75 {l : List Nat} {a b i : Nat} : ((l.drop i).take 2 == [a,b]) = true ↔ l[i]? = some a ∧ l[i + 1]? = some b := by
 have e : l[i]? = (l.drop i)[0]? := by rw [List.getElem?_drop]; rfl
 have e' : l[i + 1]? = (l.drop i)[1]? := by rw [List.getElem?_drop]
 rw [e,e',beq_iff_eq]
 cases l.drop i with
 | nil => simp
 | cons x r =>
  cases r with
  | nil => simp
  | cons y t => simp
theorem JbH (m : List Nat) (k : Nat) : (!(Builtin.Str.occurrences ⟨m.toArray⟩ ⟨[k,k].toArray⟩ 0 (⟨m.toArray⟩ : Str).length 1).isEmpty) = dblB k m := by
 rw [Bool.eq_iff_iff,StrLaws.found_iff]
 unfold dblB
 rw [List.any_eq_true]
 constructor
 ·rintro ⟨i,h1,h2⟩
  rw [StrLaws.subAt_eq] at h2
  have h2' : ((m.drop i).take 2 == [k,k]) = true := h2
  obtain ⟨a,b⟩ := J75.mp h2'
  refine ⟨i,List.mem_range.mpr (List.getElem?_eq_some_iff.mp a).1,?_⟩
  rw [decide_eq_true a,decide_eq_true b]
  rfl
 ·rintro ⟨i,hi,h⟩
  rw [Bool.and_eq_true] at h
  have a := of_decide_eq_true h.1
  have b := of_decide_eq_true h.2
  refine ⟨i,?_,?_⟩
  ·have := (List.getElem?_eq_some_iff.mp b).1
   show i + 2 ≤ m.toArray.size
   rw [List.size_toArray]
   omega
  ·rw [StrLaws.subAt_eq]
   exact J75.mpr ⟨a,b⟩
theorem JeO {X : Cx} : OpR X (compareOp .In) (fun x y H Q => ∃ k m,x = T [k,k] ∧ y = T m ∧ Q (.bl (dblB k m)) H) := by
 intro pins s σ H x y v u Q I rx ry h
 obtain ⟨k,m,rfl,rfl,q⟩ := h
 refine J83 pins s σ H _ _ v u Q I rx ry ⟨_,_,rfl,rfl,?_⟩
 rw [JbH]
 exact q
end L2
set_option maxHeartbeats 4000000
namespace K54
open PySem L2
noncomputable def top (i : Nat) : Stmt := PySem.Challenge.pw_rotafair_k54_answers_stand.main.body.getD i (.Pass ⟨0,0,0,0⟩)
noncomputable abbrev J1u : Stmt := J04 (top 10) 0
noncomputable abbrev J1Y : Stmt := J04 (top 11) 0
noncomputable abbrev J0y : Stmt := J04 (top 11) 3
noncomputable abbrev J19 : Stmt := top 17
noncomputable abbrev J0d : Stmt := J04 (top 15) 0
noncomputable abbrev J0p : Stmt := J04 (top 16) 0
noncomputable abbrev JH : Stmt := J04 (top 14) 0
noncomputable abbrev JJ : Stmt := J04 (top 14) 1
noncomputable abbrev JW : Stmt := J04 (top 15) 1
noncomputable abbrev JV : Stmt := J04 (top 16) 1
noncomputable abbrev J1U : Stmt := J04 (top 11) 1
noncomputable abbrev J17 : Stmt := J04 (top 11) 2
noncomputable abbrev J0K : Stmt := top 38
noncomputable abbrev J0c : Stmt := top 37
noncomputable abbrev J07 : Stmt := top 39
noncomputable abbrev J0D : Stmt := top 40
noncomputable abbrev J1m : Stmt := J04 (top 32) 0
noncomputable abbrev J0l : Stmt := J04 (top 32) 1
noncomputable abbrev J1f : Stmt := top 36
noncomputable abbrev J1k : Stmt := J04 (top 31) 0
noncomputable abbrev J06 : Stmt := J04 (top 31) 1
noncomputable abbrev J1I : Stmt := top 12
noncomputable abbrev J2c : Stmt := top 18
noncomputable abbrev J2o : Stmt := top 21
noncomputable abbrev J0A : Stmt := top 22
noncomputable abbrev J0C : Stmt := top 23
noncomputable abbrev J0R : Stmt := top 24
noncomputable abbrev J1l : Stmt := top 25
noncomputable abbrev J08 : Stmt := J04 (top 11) 4
noncomputable abbrev J0V : Stmt := top 26
noncomputable abbrev J1p : Stmt := top 28
noncomputable abbrev J1j : Stmt := top 27
noncomputable abbrev J3c : Stmt := top 20
noncomputable abbrev J5p : Stmt := top 5
noncomputable abbrev J21 : Stmt := top 6
noncomputable abbrev J23 : Stmt := J04 (top 8) 0
noncomputable abbrev J1B : Stmt := J04 (top 8) 2
noncomputable abbrev J1o : Stmt := J04 (top 30) 0
noncomputable abbrev J1W : Stmt := J04 (top 34) 0
noncomputable abbrev J10 : Stmt := J04 (top 34) 1
noncomputable abbrev J11 : Stmt := J04 (top 35) 0
noncomputable abbrev J0w : Stmt := J04 (top 35) 1
noncomputable abbrev J0I : Stmt := J04 (top 33) 0
noncomputable abbrev J1t : Stmt := top 42
noncomputable abbrev J2g : Stmt := top 43
noncomputable abbrev J1H : Stmt := top 45
noncomputable abbrev J1G : Stmt := top 44
noncomputable abbrev J2p : Stmt := top 46
noncomputable abbrev J2f : Stmt := top 50
noncomputable abbrev J1c : Stmt := top 47
noncomputable abbrev J1e : Stmt := top 48
noncomputable abbrev J1C : Stmt := top 49
noncomputable abbrev J0M : Stmt := top 51
noncomputable abbrev J2n : Stmt := top 52
noncomputable abbrev J1K : Stmt := top 53
noncomputable abbrev J1L : Stmt := top 54
noncomputable abbrev J1n : Stmt := top 55
noncomputable abbrev J0L : Stmt := top 56
noncomputable abbrev J39 : Stmt := top 57
theorem J6W : Jr ["self","name","skills","most","carried","past"] ["self","name","skills","most","carried","past"] (J3 J1u) := ⟨rfl,rfl,rfl,by decide +kernel,rfl,by decide +kernel,by decide +kernel⟩
theorem J7M : Jr ["self","days","kinds","needs","persons","leave","wishes","rules","pairs"] ["self","days","kinds","needs","persons","leave","wishes","rules","pairs"] (J3 J1Y) := ⟨rfl,rfl,rfl,by decide +kernel,rfl,by decide +kernel,by decide +kernel⟩
theorem J2i : Jr ["self","name","p","person"] ["self","name"] (J3 J0y) := ⟨rfl,rfl,rfl,by decide +kernel,rfl,by decide +kernel,by decide +kernel⟩
theorem J7q : Jr ["house"] ["house"] (J3 J19) := ⟨rfl,rfl,rfl,by decide +kernel,rfl,by decide +kernel,by decide +kernel⟩
theorem J41 : Jr ["self","house","rota"] ["self","house","rota"] (J3 J0d) := ⟨rfl,rfl,rfl,by decide +kernel,rfl,by decide +kernel,by decide +kernel⟩
theorem J4l : Jr ["self","house","level"] ["self","house","level"] (J3 J0p) := ⟨rfl,rfl,rfl,by decide +kernel,rfl,by decide +kernel,by decide +kernel⟩
theorem J4y : Jr ["self","p","many"] ["self","p","many"] (J3 JH) := ⟨rfl,rfl,rfl,by decide +kernel,rfl,by decide +kernel,by decide +kernel⟩
theorem J5c : Jr ["self","p","day","mark"] ["self","p","day","mark"] (J3 JJ) := ⟨rfl,rfl,rfl,by decide +kernel,rfl,by decide +kernel,by decide +kernel⟩
theorem J3h : Jr ["self","p","day","mark"] ["self","p","day","mark"] (J3 JW) := ⟨rfl,rfl,rfl,by decide +kernel,rfl,by decide +kernel,by decide +kernel⟩
theorem J3n : Jr ["self","p","many"] ["self","p","many"] (J3 JV) := ⟨rfl,rfl,rfl,by decide +kernel,rfl,by decide +kernel,by decide +kernel⟩
theorem J26 : Jr ["self","day","kind","need_day","need_kind","least","most"] ["self","day","kind"] (J3 J1U) := ⟨rfl,rfl,rfl,by decide +kernel,rfl,by decide +kernel,by decide +kernel⟩
theorem J3m : Jr ["self","p","day","person","able"] ["self","p","day"] (J3 J17) := ⟨rfl,rfl,rfl,by decide +kernel,rfl,by decide +kernel,by decide +kernel⟩
theorem J51 : Jr ["need","price"] ["need","price"] (J3 J0K) := ⟨rfl,rfl,rfl,by decide +kernel,rfl,by decide +kernel,by decide +kernel⟩
theorem J0Y : Jr ["house","prices","charges","need","price"] ["house","prices"] (J3 J0c) := ⟨rfl,rfl,rfl,by decide +kernel,rfl,by decide +kernel,by decide +kernel⟩
theorem J2H : Jr ["house","costs","p","price","most"] ["house","costs","p","price"] (J3 J07) := ⟨rfl,rfl,rfl,by decide +kernel,rfl,by decide +kernel,by decide +kernel⟩
theorem J2A : Jr ["house","costs","p","day","price","charges","kinds","duties"] ["house","costs","p","day","price","charges"] (J3 J0D) := ⟨rfl,rfl,rfl,by decide +kernel,rfl,by decide +kernel,by decide +kernel⟩
theorem J6X : Jr ["self","persons","needs"] ["self","persons","needs"] (J3 J1m) := ⟨rfl,rfl,rfl,by decide +kernel,rfl,by decide +kernel,by decide +kernel⟩
theorem J0r : Jr ["self","house","costs","total","charges","p","price"] ["self","house","costs"] (J3 J0l) := ⟨rfl,rfl,rfl,by decide +kernel,rfl,by decide +kernel,by decide +kernel⟩
theorem J44 : Jr ["house","p","asked","days"] ["house","p","asked"] (J3 J1f) := ⟨rfl,rfl,rfl,by decide +kernel,rfl,by decide +kernel,by decide +kernel⟩
theorem J6P : Jr ["self","places"] ["self","places"] (J3 J1k) := ⟨rfl,rfl,rfl,by decide +kernel,rfl,by decide +kernel,by decide +kernel⟩
theorem J29 : Jr ["self","house","costs","asked","least","able"] ["self","house","costs"] (J3 J06) := ⟨rfl,rfl,rfl,by decide +kernel,rfl,by decide +kernel,by decide +kernel⟩
theorem J8j : Jr ["marks"] ["marks"] (J3 J1I) := ⟨rfl,rfl,rfl,by decide +kernel,rfl,by decide +kernel,by decide +kernel⟩
theorem J2e : Jr ["house","costs","rota","total","p","row"] ["house","costs","rota"] (J3 J2c) := ⟨rfl,rfl,rfl,by decide +kernel,rfl,by decide +kernel,by decide +kernel⟩
theorem Jaa : Jr ["house","rota","day"] ["house","rota","day"] (J3 J2o) := ⟨rfl,rfl,rfl,by decide +kernel,rfl,by decide +kernel,by decide +kernel⟩
theorem J3y : Jr ["house","rota","day","having"] ["house","rota","day"] (J3 J0A) := ⟨rfl,rfl,rfl,by decide +kernel,rfl,by decide +kernel,by decide +kernel⟩
theorem J3x : Jr ["house","rota","day","having"] ["house","rota","day"] (J3 J0C) := ⟨rfl,rfl,rfl,by decide +kernel,rfl,by decide +kernel,by decide +kernel⟩
theorem J1A : Jr ["house","rota","day","found","kind","need","many"] ["house","rota","day"] (J3 J0R) := ⟨rfl,rfl,rfl,by decide +kernel,rfl,by decide +kernel,by decide +kernel⟩
theorem J1E : Jr ["house","rota","day","found","person","row","many"] ["house","rota","day"] (J3 J1l) := ⟨rfl,rfl,rfl,by decide +kernel,rfl,by decide +kernel,by decide +kernel⟩
theorem J2P : Jr ["self","p","names"] ["self","p"] (J3 J08) := ⟨rfl,rfl,rfl,by decide +kernel,rfl,by decide +kernel,by decide +kernel⟩
theorem J0B : Jr ["house","rota","day","found","p","person","marks","bound"] ["house","rota","day"] (J3 J0V) := ⟨rfl,rfl,rfl,by decide +kernel,rfl,by decide +kernel,by decide +kernel⟩
theorem J6p : Jr ["word","mark","other"] ["word","mark","other"] (J3 J1p) := ⟨rfl,rfl,rfl,by decide +kernel,rfl,by decide +kernel,by decide +kernel⟩
theorem J12 : Jr ["house","rota","day","found","number","pair","mark","other"] ["house","rota","day"] (J3 J1j) := ⟨rfl,rfl,rfl,by decide +kernel,rfl,by decide +kernel,by decide +kernel⟩
theorem J1V : Jr ["house","rota","found","day"] ["house","rota"] (J3 J3c) := ⟨rfl,rfl,rfl,by decide +kernel,rfl,by decide +kernel,by decide +kernel⟩
theorem Jdt : Jr ["sign","mark"] ["sign","mark"] (J3 J5p) := ⟨rfl,rfl,rfl,by decide +kernel,rfl,by decide +kernel,by decide +kernel⟩
theorem J7l : Jr ["marks","many"] ["marks","many"] (J3 J21) := ⟨rfl,rfl,rfl,by decide +kernel,rfl,by decide +kernel,by decide +kernel⟩
theorem J7y : Jr ["self","word"] ["self","word"] (J3 J23) := ⟨rfl,rfl,rfl,by decide +kernel,rfl,by decide +kernel,by decide +kernel⟩
theorem J4u : Jr ["self","marks","nearest"] ["self","marks"] (J3 J1B) := ⟨rfl,rfl,rfl,by decide +kernel,rfl,by decide +kernel,by decide +kernel⟩
theorem J6Z : Jr ["self","house","costs"] ["self","house","costs"] (J3 J1o) := ⟨rfl,rfl,rfl,by decide +kernel,rfl,by decide +kernel,by decide +kernel⟩
theorem J7p : Jr ["self","rota","total","paper"] ["self","rota","total","paper"] (J3 J1W) := ⟨rfl,rfl,rfl,by decide +kernel,rfl,by decide +kernel,by decide +kernel⟩
theorem J63 : Jr ["self","house","costs"] ["self","house","costs"] (J3 J10) := ⟨rfl,rfl,rfl,by decide +kernel,rfl,by decide +kernel,by decide +kernel⟩
theorem J5Y : Jr ["self","paper"] ["self","paper"] (J3 J11) := ⟨rfl,rfl,rfl,by decide +kernel,rfl,by decide +kernel,by decide +kernel⟩
theorem J4s : Jr ["self","house","costs"] ["self","house","costs"] (J3 J0w) := ⟨rfl,rfl,rfl,by decide +kernel,rfl,by decide +kernel,by decide +kernel⟩
theorem J5d : Jr ["self","house","costs"] ["self","house","costs"] (J3 J0I) := ⟨rfl,rfl,rfl,by decide +kernel,rfl,by decide +kernel,by decide +kernel⟩
theorem J6j : Jr ["_law_script","_law_k"] ["_law_script","_law_k"] (J3 J1t) := ⟨rfl,rfl,rfl,by decide +kernel,rfl,by decide +kernel,by decide +kernel⟩
theorem J2j : Jr ["_law_cell","_law_many","_law_found","_law_number","_law_k"] ["_law_cell","_law_many"] (J3 J2g) := ⟨rfl,rfl,rfl,by decide +kernel,rfl,by decide +kernel,by decide +kernel⟩
theorem J4K : Jr ["_law_cell","_law_many","_law_great"] ["_law_cell","_law_many"] (J3 J1H) := ⟨rfl,rfl,rfl,by decide +kernel,rfl,by decide +kernel,by decide +kernel⟩
theorem J0h : Jr ["_law_cell","_law_many","_law_small","_law_xs","_law_size","_law_at","_law_base","_law_names_here","_law_k","_law_name"] ["_law_cell","_law_many"] (J3 J1G) := ⟨rfl,rfl,rfl,by decide +kernel,rfl,by decide +kernel,by decide +kernel⟩
theorem Ja9 : Jr ["_law_cell","_law_kinds_here","_law_days"] ["_law_cell","_law_kinds_here","_law_days"] (J3 J2p) := ⟨rfl,rfl,rfl,by decide +kernel,rfl,by decide +kernel,by decide +kernel⟩
theorem J1Z : Jr ["_law_cells","_law_names_here","_law_rows","_law_leave_here","_law_cell","_law_name","_law_row_here","_law_day"] ["_law_cells","_law_names_here","_law_rows"] (J3 J2f) := ⟨rfl,rfl,rfl,by decide +kernel,rfl,by decide +kernel,by decide +kernel⟩
theorem J7H : Jr ["_law_row_here"] ["_law_row_here"] (J3 J1c) := ⟨rfl,rfl,rfl,by decide +kernel,rfl,by decide +kernel,by decide +kernel⟩
theorem J2t : Jr ["_law_cell","_law_name","_law_row_here","_law_kinds_here","_law_far","_law_xs","_law_skills","_law_carried"] ["_law_cell","_law_name","_law_row_here","_law_kinds_here","_law_far"] (J3 J1e) := ⟨rfl,rfl,rfl,by decide +kernel,rfl,by decide +kernel,by decide +kernel⟩
theorem J1b : Jr ["_law_cell","_law_kinds_here","_law_days","_law_rows","_law_needs_here","_law_day","_law_xs","_law_k","_law_many","_law_least"] ["_law_cell","_law_kinds_here","_law_days","_law_rows"] (J3 J1C) := ⟨rfl,rfl,rfl,by decide +kernel,rfl,by decide +kernel,by decide +kernel⟩
theorem J27 : Jr ["_law_parts","_law_rows","_law_day","_law_kind","_law_many","_law_known"] ["_law_parts","_law_rows"] (J3 J0M) := ⟨rfl,rfl,rfl,by decide +kernel,rfl,by decide +kernel,by decide +kernel⟩
theorem J2w : Jr ["_law_parts","_law_rows","_law_ruled","_law_one","_law_row_here","_law_day"] ["_law_parts","_law_rows","_law_ruled"] (J3 J2n) := ⟨rfl,rfl,rfl,by decide +kernel,rfl,by decide +kernel,by decide +kernel⟩
theorem J20 : Jr ["_law_parts","_law_ruled","_law_people","_law_rules","_law_pairs"] ["_law_parts","_law_ruled"] (J3 J1K) := ⟨rfl,rfl,rfl,by decide +kernel,rfl,by decide +kernel,by decide +kernel⟩
theorem J22 : Jr ["_law_way","_law_parts","_law_rows","_law_level","_law_old","_law_whole","_law_p","_law_load"] ["_law_way","_law_parts","_law_rows","_law_level","_law_old"] (J3 J1L) := ⟨rfl,rfl,rfl,by decide +kernel,rfl,by decide +kernel,by decide +kernel⟩
theorem J1J : Jr ["_law_rows","_law_cell","_law_kinds_here","_law_found","_law_p","_law_day","_law_mark"] ["_law_rows","_law_cell","_law_kinds_here"] (J3 J1n) := ⟨rfl,rfl,rfl,by decide +kernel,rfl,by decide +kernel,by decide +kernel⟩
theorem J4E : Jr ["_law_cell","_law_parts","_law_numbers"] ["_law_cell","_law_parts"] (J3 J0L) := ⟨rfl,rfl,rfl,by decide +kernel,rfl,by decide +kernel,by decide +kernel⟩
theorem J0k : Jr ["_law_script","_law_first","_law_cell","_law_days","_law_kinds_here","_law_cells","_law_names_here","_law_rows","_law_people","_law_needs_here","_law_parts","_law_ruled","_law_house_here","_law_way","_law_level","_law_costs","_law_told","_law_total_here","_law_paper_here","_law_floor","_law_due","_law_handed","_law_answer","_law_found","_law_none"] ["_law_script"] (J3 J39) := ⟨rfl,rfl,rfl,by decide +kernel,rfl,by decide +kernel,by decide +kernel⟩
structure Tx (K : PySem.W.Frag) (mg : Str → Option Value) (Jg J7 J4 Ji J1 J2 Jk Jc Ja Jb Jf J9 : Addr) : Prop where
 J7z : MF K J7 "__init__" "Person.__init__" J1u
 J8p : MF K J4 "__init__" "House.__init__" J1Y
 J50 : MF K J4 "place_of" "House.place_of" J0y
 J8s : GF K mg "burdens_of" J19
 J4f : MF K J1 "__init__" "ChangeCosts.__init__" J0d
 J4C : MF K J2 "__init__" "LevelCosts.__init__" J0p
 J5t : MF K Ji "of_count" "Costs.of_count" JH
 J3i : MF K J1 "of_count" "Costs.of_count" JH
 J5X : MF K Ji "of_mark" "Costs.of_mark" JJ
 J3H : MF K J2 "of_mark" "Costs.of_mark" JJ
 J3B : MF K J1 "of_mark" "ChangeCosts.of_mark" JW
 J3A : MF K J2 "of_count" "LevelCosts.of_count" JV
 J8o : MF K J4 "need" "House.need" J1U
 J9o : MF K J4 "may" "House.may" J17
 J61 : GF K mg "floor_of_need" J0K
 J4k : GF K mg "charges_by_place" J0c
 J4J : GF K mg "floor_of_counts" J07
 J6V : GF K mg "floor_of_day" J0D
 J7x : MF K Ja "__init__" "Prices.__init__" J1m
 J6C : MF K Ja "floor" "Prices.floor" J0l
 J8m : GF K mg "able_to_do" J1f
 J7w : MF K Jc "__init__" "Places.__init__" J1k
 J6u : MF K Jc "floor" "Places.floor" J06
 J94 : GF K mg "duties_in" J1I
 Jab : GF K mg "total_of" J2c
 Jbm : GF K mg "on_duty" J2o
 J6a : GF K mg "skill_faults" J0A
 J6b : GF K mg "leave_faults" J0C
 J7J : GF K mg "need_faults" J0R
 J7B : GF K mg "most_faults" J1l
 J4D : MF K J4 "rules_for" "House.rules_for" J08
 J7A : GF K mg "rule_faults" J0V
 J7I : GF K mg "breaks_pair" J1p
 J7E : GF K mg "pair_faults" J1j
 Jch : GF K mg "faults" J3c
 Jex : GF K mg "fits" J5p
 J8g : GF K mg "last_marks" J21
 J8A : MF K Jg "__init__" "Never.__init__" J23
 J9s : MF K Jg "bad" "Never.bad" J1B
 J7G : MF K Jk "floor" "Paper.floor" J1o
 J8f : MF K Jf "__init__" "Found.__init__" J1W
 J6R : MF K Jf "stands" "Found.stands" J10
 J6E : MF K J9 "__init__" "Without.__init__" J11
 J5i : MF K J9 "stands" "Without.stands" J0w
 J5Z : MF K Jb "stands" "Answer.stands" J0I
 J7L : GF K mg "_law_cell_at" J1t
 J9a : GF K mg "_law_drawn" J2g
 J9m : GF K mg "_law_kinds" J1H
 J96 : GF K mg "_law_names" J1G
 Jbn : GF K mg "_law_row" J2p
 J9t : GF K mg "_law_leave" J2f
 J8t : GF K mg "_law_duties" J1c
 J8h : GF K mg "_law_person" J1e
 J9r : GF K mg "_law_needs" J1C
 J8w : GF K mg "_law_filled" J0M
 Ja6 : GF K mg "_law_good" J2n
 J9b : GF K mg "_law_house" J1K
 J9j : GF K mg "_law_total" J1L
 J7F : GF K mg "_law_changed" J1n
 J9g : GF K mg "_law_paper" J0L
 Jg5 : GF K mg "law" J39
 J3k : CF K mg "Never" Jg
 J0n : CF K mg "Person" J7
 JN : CF K mg "House" J4
 J4A : CF K mg "Costs" Ji
 J1q : CF K mg "ChangeCosts" J1
 J1X : CF K mg "LevelCosts" J2
 J65 : CF K mg "Paper" Jk
 J3D : CF K mg "Places" Jc
 J3F : CF K mg "Prices" Ja
 J3J : CF K mg "Answer" Jb
 J3Y : CF K mg "Found" Jf
 J3b : CF K mg "Without" J9
 Jdp : Jeo K Jf
 J1F : PySem.W.kitOne K (.ref Jf) (.ref Jb) = some true
 JR : J05 K J7 "name"
 J0q : J05 K J7 "skills"
 J0u : J05 K J7 "most"
 J0x : J05 K J7 "carried"
 J1r : J05 K J7 "past"
 J1d : J05 K J4 "days"
 J0T : J05 K J4 "kinds"
 J0j : J05 K J4 "needs"
 JG : J05 K J4 "persons"
 J0U : J05 K J4 "leave"
 J1D : J05 K J4 "wishes"
 J1s : J05 K J4 "rules"
 J1i : J05 K J4 "pairs"
 J0e : J05 K J1 "rows"
 J02 : J05 K J2 "burdens"
 J0f : J05 K J2 "level"
 J0v : J05 K Ja "persons"
 J0Z : J05 K Ja "needs"
 J0J : J05 K Jc "places"
 J0N : J05 K Jg "word"
 J1a : J05 K Jf "rota"
 J0W : J05 K Jf "total"
 J0S : J05 K Jf "paper"
 J0H : J05 K J9 "paper"
 J99 : mg "all" = none
 J5y : mg "bool" = none
 J0m : mg "enumerate" = none
 J9h : mg "int" = none
 J1g : mg "isinstance" = none
 J0g : mg "len" = none
 J13 : mg "list" = none
 J6D : mg "max" = none
 J5N : mg "min" = none
 J0i : mg "range" = none
 J97 : mg "set" = none
 J4H : mg "sum" = none
 J42 : mg "zip" = none
 J3G : PySem.W.findIn K (.ref Ji) "__init__" = some (some (.builtin "object.__init__"))
 J3C : PySem.W.findIn K (.ref Jk) "__init__" = some (some (.builtin "object.__init__"))
 J3a : PySem.W.findIn K (.ref Jb) "__init__" = some (some (.builtin "object.__init__"))
theorem J4p {n : Nat} (h : n ≤ 1000) : n ≤ sizeLine := Nat.le_trans h (by decide)
theorem J7g {α : Type} (l : List α) (k : Int) (h0 : 0 ≤ k) : cutN l (some k) none = l.drop k.toNat := by
 unfold cutN
 have e : HT.sIx l.length 0 (some k) = min k.toNat l.length := by
  show (if k < 0 then _ else min k.toNat l.length) = _
  rw [if_neg (by omega)]
 rw [e,HT.sIx_none]
 by_cases h : k.toNat ≤ l.length
 ·rw [Nat.min_eq_left h]
  exact List.take_of_length_le (by rw [List.length_drop]; omega)
 ·rw [Nat.min_eq_right (by omega),List.drop_eq_nil_of_le (Nat.le_refl _),List.drop_eq_nil_of_le (by omega),List.take_nil]
theorem JaC {α : Type} (l : List α) (k : Int) (h0 : 0 ≤ k) : cutN l none (some k) = l.take k.toNat := by
 unfold cutN
 have e : HT.sIx l.length l.length (some k) = min k.toNat l.length := by
  show (if k < 0 then _ else min k.toNat l.length) = _
  rw [if_neg (by omega)]
 rw [e,HT.sIx_none,List.drop_zero,Nat.sub_zero]
 by_cases h : k.toNat ≤ l.length
 ·rw [Nat.min_eq_left h]
 ·rw [Nat.min_eq_right (by omega),List.take_of_length_le (Nat.le_refl _),List.take_of_length_le (by omega)]
theorem J3u {α : Type} (l : List α) (lo hi : Option Int) : (cutN l lo hi).length ≤ l.length := by
 unfold cutN
 rw [List.length_take,List.length_drop]
 omega
theorem J2l {α : Type} (l : List α) (i : Int) (h0 : 0 ≤ i) (h : i < l.length) : ∃ c,atI l i = some c ∧ l[i.toNat]? = some c := by
 have hi : i.toNat < l.length := by omega
 have e : i = ((i.toNat : Nat) : Int) := by omega
 have q : atI l ((i.toNat : Nat) : Int) = some l[i.toNat] := J01 (by simp [hi])
 rw [← e] at q
 exact ⟨l[i.toNat],q,List.getElem?_eq_getElem hi⟩
theorem Jf1 (ns : List Int) (i : Int) (h0 : 0 ≤ i) (h : i < ns.length) : ∃ z,atI (ns.map V.int) i = some (.int z) ∧ ns[i.toNat]? = some z := by
 obtain ⟨c,h1,h2⟩ := J2l (ns.map V.int) i h0 (by rw [List.length_map]; exact h)
 rw [List.getElem?_map] at h2
 cases hz : ns[i.toNat]? with
 | none => rw [hz] at h2; cases h2
 | some z =>
  rw [hz] at h2
  have e : c = .int z := (Option.some.inj h2).symm
  subst e
  exact ⟨z,h1,rfl⟩
theorem Jdd {ys : List V} (h : ∀ y ∈ ys,∃ c,y = T [c]) : ∃ cs : List Nat,ys = (cs.map fun c => [c]).map T ∧ cs.length = ys.length := by
 induction ys with
 | nil => exact ⟨[],rfl,rfl⟩
 | cons y r ih =>
  obtain ⟨c,rfl⟩ := h y List.mem_cons_self
  obtain ⟨cs,e,hl⟩ := ih fun z hz => h z (List.mem_cons_of_mem _ hz)
  exact ⟨c :: cs,by rw [e]; rfl,by simp [hl]⟩
noncomputable def J2Q (x y : V) : Bool := if decide (x = T [63]) = true then true else if decide (x = T [35]) = true then !decide (y = T [45]) else decide (x = y)
noncomputable def Jdv : Sp := fun vs H Q _ => ∃ a b,vs = [T a,T b] ∧ Q (.bl (J2Q (T a) (T b))) H
noncomputable def Jdu : Sp := fun vs H Q _ => ∃ l n,vs = [T l,.int n] ∧ l.length ≤ 1000 ∧ 0 ≤ n ∧ Q (T (l.drop (l.length - n.toNat))) H
noncomputable def sp_law (K : PySem.W.Frag) : Sp := fun vs H Q _ => ∃ (a : Addr) (ns : List Int),vs = [.ref a] ∧ SqL K H a (ns.map V.int) ∧ ns.length ≤ 63 ∧ ∀ H',Q (.bl true) H'
theorem JeN {p : (Nat → Nat → St → Hp → Prop) → Prop} (h : ∃ W,p W) : ∃ W,p W := h
theorem JdN {p : (Nat → St → Hp → Prop) → Prop} (h : ∃ W,p W) : ∃ W,p W := h
theorem JfG {A B : Prop} (h : B) : if (!true) = true then A else B := h
theorem JfC {A B : Prop} (h : A) : if (!false) = true then A else B := h
theorem JcK {n : Nat} (h : n ≤ 1000) : n < sizeLine := Nat.lt_of_le_of_lt h (by decide)
theorem Je8 {i j : Int} (h1 : 0 < j) (h2 : j < 1073741824) : CDiv i j := ⟨h1,h2⟩
theorem JfU {i j : Int} (h1 : -(2 ^ 64) < i) (h2 : i < 2 ^ 64) : CMul i j := .inl ⟨h1,h2⟩
theorem Jg0 {i j : Int} (h1 : -(2 ^ 64) < j) (h2 : j < 2 ^ 64) : CMul i j := .inr ⟨h1,h2⟩
theorem JeZ {n : Int} (h : 0 < n) : 0 < n := h
@[irreducible] def Here (p : Prop) : Prop := p
theorem Here.mk {p : Prop} (h : p) : Here p := by unfold Here; exact h
theorem Here.out {p : Prop} (h : Here p) : p := by unfold Here at h; exact h
theorem Jcv {i : Nat} {v : V} {σ σ' : St} {H : Hp} {Q : St → Hp → Prop} (e : σ.set i (some v) = σ') (h : Q σ' H) : J4P i v σ H Q := by subst e; exact h
local macro_rules | `(tactic| walk_at "len") => `(tactic| (simp only [List.length_append,List.length_cons,List.length_nil,List.length_singleton,List.length_take,List.length_drop,List.length_map,List.length_reverse,List.length_range] <;> omega))
local macro_rules | `(tactic| walk_at "st") => `(tactic| (try simp only [L2.start,List.map_cons,List.map_nil,List.length_cons,List.length_nil,Nat.reduceAdd,Nat.reduceSub,List.replicate_succ,List.replicate_zero,List.cons_append,List.nil_append]))
local macro_rules | `(tactic| walk_at "lk") => `(tactic| fail)
local macro_rules | `(tactic| walk_at "cl") => `(tactic| first
 | (with_reducible assumption) | rfl
 | (with_reducible show @LE.le Nat _ _ _; first | omega | (walk_at "len") | exact J4p (by omega) | exact J4p (by walk_at "len"))
 | (with_reducible show @LT.lt Nat _ _ _; first | omega | (walk_at "len") | exact JcK (by omega) | exact JcK (by walk_at "len"))
 | (with_reducible show @LE.le Int _ _ _; omega) | (with_reducible show @LT.lt Int _ _ _; omega)
 | ((with_reducible refine Je8 ?_ ?_) <;> omega) | ((with_reducible refine JfU ?_ ?_) <;> omega) | ((with_reducible refine Jg0 ?_ ?_) <;> omega) | ((with_reducible refine JeZ ?_) <;> omega)
 | exact Jd | exact JB (by with_reducible assumption) _ _ _ Jd | exact SqL.of (by with_reducible assumption) | exact SqL.of Jd | exact SqT.of Jd | exact SqT.of (by with_reducible assumption) | exact Or.inl (by with_reducible assumption) | exact Or.inl (SqL.of (by with_reducible assumption)) | exact Or.inl (SqL.of Jd)
 | exact Or.inl ⟨rfl,_,SqL.of (by with_reducible assumption)⟩ | exact Or.inl ⟨rfl,_,SqL.of Jd⟩ | exact Or.inl ⟨rfl,_,by with_reducible assumption⟩ | exact ⟨_,by with_reducible assumption⟩ | exact ⟨_,SqL.of (by with_reducible assumption)⟩ | exact ⟨_,SqL.of Jd⟩
 | exact ⟨by omega,by omega⟩ | assumption | walk_at "lk")
local macro_rules | `(tactic| walk_at "rd1") => `(tactic| first
 | (with_reducible refine Jcv (by first | (simp only [List.set_cons_zero,List.set_cons_succ]; done) | (simp only [List.set_cons_zero,List.set_cons_succ]; rfl)) ?_)
 | (with_reducible refine iteT ?_) | (with_reducible refine iteF ?_) | (with_reducible refine JfG ?_) | (with_reducible refine JfC ?_)
 | ((fail_if_success apply JeN); (fail_if_success apply JdN); apply Exists.intro)
 | (apply And.intro; (· walk_at "cl"))
 | (refine Or.inl ⟨_,rfl,?_⟩) | (refine Or.inr (Or.inl ⟨_,rfl,?_⟩)) | (refine Or.inr (Or.inr (Or.inl ⟨_,rfl,?_⟩))) | (refine Or.inr (Or.inr (Or.inr (Or.inl ⟨_,rfl,?_⟩)))) | (refine Or.inr (Or.inr (Or.inr (Or.inr ⟨_,_,rfl,by with_reducible assumption,?_⟩)))))
local macro_rules | `(tactic| walk_at "rd") => `(tactic| repeat (walk_at "rd1"))
theorem J1h {f : Str} {v : V} {r : List (Str × V)} : List.lookup f ((f,v) :: r) = some v := by rw [List.lookup_cons,beq_self_eq_true]
theorem Jx {f g : Str} {v : V} {r : List (Str × V)} (h : f ≠ g) : List.lookup f ((g,v) :: r) = List.lookup f r := by rw [List.lookup_cons,beq_eq_false_iff_ne.mpr h]
theorem putN {f : Str} {v : V} : ∀ {fs : List (Str × V)},(∀ g ∈ fs.map (·.1),g ≠ f) → putF f v fs = fs ++ [(f,v)]
 | [],_ => rfl
 | (g,x) :: r,h => by
  have h1 : ¬ g = f := h g (by simp)
  have ih := putN (f := f) (v := v) (fs := r) fun g hg => h g (by rw [List.map_cons]; exact List.mem_cons_of_mem _ hg)
  show (if g = f then (g,v) :: r else (g,x) :: putF f v r) = _
  rw [if_neg h1,ih]
  rfl
noncomputable abbrev fP (a b c d e : V) : List (Str × V) := [("name",a),("skills",b),("most",c),("carried",d),("past",e)]
noncomputable abbrev fH (a b c d e f g h : V) : List (Str × V) := [("days",a),("kinds",b),("needs",c),("persons",d),("leave",e),("wishes",f),("rules",g),("pairs",h)]
theorem J67 (a b c d e : V) : List.lookup ("name" : Str) (fP a b c d e) = some a := J1h
theorem J5C (a b c d e : V) : List.lookup ("skills" : Str) (fP a b c d e) = some b := by rw [Jx (by decide +kernel),J1h]
theorem J4O (a b c d e : V) : List.lookup ("most" : Str) (fP a b c d e) = some c := by rw [Jx (by decide +kernel),Jx (by decide +kernel),J1h]
theorem J7d (a b c d e : V) : List.lookup ("carried" : Str) (fP a b c d e) = some d := by rw [Jx (by decide +kernel),Jx (by decide +kernel),Jx (by decide +kernel),J1h]
theorem JaR (a b c d e : V) : List.lookup ("past" : Str) (fP a b c d e) = some e := by rw [Jx (by decide +kernel),Jx (by decide +kernel),Jx (by decide +kernel),Jx (by decide +kernel),J1h]
theorem Jb3 (a b c d e f g h : V) : List.lookup ("days" : Str) (fH a b c d e f g h) = some a := J1h
theorem J77 (a b c d e f g h : V) : List.lookup ("kinds" : Str) (fH a b c d e f g h) = some b := by rw [Jx (by decide +kernel),J1h]
theorem J3R (a b c d e f g h : V) : List.lookup ("needs" : Str) (fH a b c d e f g h) = some c := by rw [Jx (by decide +kernel),Jx (by decide +kernel),J1h]
theorem J2r (a b c d e f g h : V) : List.lookup ("persons" : Str) (fH a b c d e f g h) = some d := by rw [Jx (by decide +kernel),Jx (by decide +kernel),Jx (by decide +kernel),J1h]
theorem J7h (a b c d e f g h : V) : List.lookup ("leave" : Str) (fH a b c d e f g h) = some e := by rw [Jx (by decide +kernel),Jx (by decide +kernel),Jx (by decide +kernel),Jx (by decide +kernel),J1h]
theorem JbM (a b c d e f g h : V) : List.lookup ("wishes" : Str) (fH a b c d e f g h) = some f := by rw [Jx (by decide +kernel),Jx (by decide +kernel),Jx (by decide +kernel),Jx (by decide +kernel),Jx (by decide +kernel),J1h]
theorem J9R (a b c d e f g h : V) : List.lookup ("rules" : Str) (fH a b c d e f g h) = some g := by rw [Jx (by decide +kernel),Jx (by decide +kernel),Jx (by decide +kernel),Jx (by decide +kernel),Jx (by decide +kernel),Jx (by decide +kernel),J1h]
theorem J9J (a b c d e f g h : V) : List.lookup ("pairs" : Str) (fH a b c d e f g h) = some h := by rw [Jx (by decide +kernel),Jx (by decide +kernel),Jx (by decide +kernel),Jx (by decide +kernel),Jx (by decide +kernel),Jx (by decide +kernel),Jx (by decide +kernel),J1h]
noncomputable def J5T (C : Addr) (H : Hp) (p : Addr) (nm sk : List Nat) (m c : Int) (pa : List Nat) : Prop := ∃ dx,H p = some (.ins C dx (fP (T nm) (T sk) (.int m) (.int c) (T pa)))
theorem J5T.keeps {C : Addr} {H H' : Hp} {p : Addr} {nm sk pa : List Nat} {m c : Int} (h : J5T C H p nm sk m c pa) (k : JY H H') : J5T C H' p nm sk m c pa := let ⟨dx,e⟩ := h; ⟨dx,k _ _ e fun zs z => by cases z⟩
noncomputable def J5R (C : Addr) (H : Hp) (p : Addr) (d : Int) (k : List Nat) (a1 a2 a3 a4 a5 a6 : Addr) : Prop := ∃ dx,H p = some (.ins C dx (fH (.int d) (T k) (.ref a1) (.ref a2) (.ref a3) (.ref a4) (.ref a5) (.ref a6)))
theorem J5R.keeps {C : Addr} {H H' : Hp} {p : Addr} {d : Int} {k : List Nat} {a1 a2 a3 a4 a5 a6 : Addr} (h : J5R C H p d k a1 a2 a3 a4 a5 a6) (kk : JY H H') : J5R C H' p d k a1 a2 a3 a4 a5 a6 := let ⟨dx,e⟩ := h; ⟨dx,kk _ _ e fun zs z => by cases z⟩
noncomputable def But (p : Addr) (H H' : Hp) : Prop := ∀ a o,a ≠ p → H a = some o → H' a = some o
theorem But.refl (p : Addr) (H : Hp) : But p H H := fun _ _ _ h => h
theorem But.at {p : Addr} {H H' : Hp} {o : HO} (b : But p H H') : But p H (upd H' p o) := fun a u n e => by rw [Jj n]; exact b a u n e
theorem But.new {p l : Addr} {H H' : Hp} {o : HO} (b : But p H H') (hl : H' l = none) : But p H (upd H' l o) := fun a u n e => by
 have := b a u n e
 rw [Jj (Je this hl)]; exact this
noncomputable def J9l (C : Addr) : Sp := fun vs H Q _ => ∃ p dx a b c d e,vs = [.ref p,a,b,c,d,e] ∧ H p = some (.ins C dx []) ∧ ∀ H',But p H H' → H' p = some (.ins C dx (fP a b c d e)) → Q .non H'
noncomputable def J9d (C : Addr) : Sp := fun vs H Q _ => ∃ p dx d k b1 b2 b3 b4 b5 b6 x1 x2 x3 x4 x5 x6,vs = [.ref p,d,k,.ref b1,.ref b2,.ref b3,.ref b4,.ref b5,.ref b6] ∧ H p = some (.ins C dx []) ∧
 H b1 = some (.lst x1) ∧ H b2 = some (.lst x2) ∧ H b3 = some (.lst x3) ∧ H b4 = some (.lst x4) ∧ H b5 = some (.lst x5) ∧ H b6 = some (.lst x6) ∧
 ∀ H' a1 a2 a3 a4 a5 a6,But p H H' → H' p = some (.ins C dx (fH d k (.ref a1) (.ref a2) (.ref a3) (.ref a4) (.ref a5) (.ref a6))) → H' a1 = some (.lst x1) → H' a2 = some (.lst x2) → H' a3 = some (.lst x3) → H' a4 = some (.lst x4) → H' a5 = some (.lst x5) → H' a6 = some (.lst x6) →
  H a1 = none → H a2 = none → H a3 = none → H a4 = none → H a5 = none → H a6 = none → Q .non H'
noncomputable def rPer (C : Addr) : List V → Hp → VK → Prop := fun vs H Q => ∃ nm sk m c pa,vs = [T nm,T sk,.int m,.int c,T pa] ∧ ∀ p H',Same H H' → H p = none → J5T C H' p nm sk m c pa → Q (.ref p) H'
noncomputable def rHou (C : Addr) : List V → Hp → VK → Prop := fun vs H Q => ∃ d k b1 b2 b3 b4 b5 b6 x1 x2 x3 x4 x5 x6,vs = [.int d,T k,.ref b1,.ref b2,.ref b3,.ref b4,.ref b5,.ref b6] ∧
 H b1 = some (.lst x1) ∧ H b2 = some (.lst x2) ∧ H b3 = some (.lst x3) ∧ H b4 = some (.lst x4) ∧ H b5 = some (.lst x5) ∧ H b6 = some (.lst x6) ∧
 ∀ p H' a1 a2 a3 a4 a5 a6,Same H H' → J5R C H' p d k a1 a2 a3 a4 a5 a6 → H' a1 = some (.lst x1) → H' a2 = some (.lst x2) → H' a3 = some (.lst x3) → H' a4 = some (.lst x4) → H' a5 = some (.lst x5) → H' a6 = some (.lst x6) →
  H a1 = none → H a2 = none → H a3 = none → H a4 = none → H a5 = none → H a6 = none → Q (.ref p) H'
theorem J2q {H H' : Hp} {x dx : Addr} {u o : HO} (nx : H x = none) (nd : H dx = none) (b : But x (upd (upd H dx u) x o) H') : Same H H' := fun a v e => by
 have h1 : a ≠ x := Je e nx
 refine b a v h1 ?_
 rw [Jj h1,Jj (Je e nd)]
 exact e
theorem J16 {H : Hp} {x dx a : Addr} {u o : HO} (h : upd (upd H dx u) x o a = none) : H a = none := by
 have h1 : a ≠ x := fun z => by subst z; rw [Jd] at h; cases h
 rw [Jj h1] at h
 have h2 : a ≠ dx := fun z => by subst z; rw [Jd] at h; cases h
 rw [Jj h2] at h
 exact h
theorem J2a {H : Hp} {x dx a : Addr} {u o v : HO} (nx : H x = none) (nd : H dx = none) (e : H a = some v) : upd (upd H dx u) x o a = some v := by
 rw [Jj (Je e nx),Jj (Je e nd)]; exact e
theorem Jf5 {C : Addr} : ∀ vs H Q,rPer C vs H Q → ∀ x dx,H x = none → H dx = none → dx ≠ x → J9l C (.ref x :: (vs ++ [])) (upd (upd H dx (.own x)) x (.ins C dx [])) (fun v H2 => v = .non ∧ Q (.ref x) H2) E0 := by
 rintro _ H Q ⟨nm,sk,m,c,pa,rfl,q⟩ x dx nx nd _
 exact ⟨x,dx,_,_,_,_,_,rfl,Jd,fun H' b e => ⟨rfl,q x H' (J2q nx nd b) nx ⟨dx,e⟩⟩⟩
theorem JeY {C : Addr} : ∀ vs H Q,rHou C vs H Q → ∀ x dx,H x = none → H dx = none → dx ≠ x → J9d C (.ref x :: (vs ++ [])) (upd (upd H dx (.own x)) x (.ins C dx [])) (fun v H2 => v = .non ∧ Q (.ref x) H2) E0 := by
 rintro _ H Q ⟨d,k,b1,b2,b3,b4,b5,b6,x1,x2,x3,x4,x5,x6,rfl,h1,h2,h3,h4,h5,h6,q⟩ x dx nx nd _
 exact ⟨x,dx,_,_,b1,b2,b3,b4,b5,b6,x1,x2,x3,x4,x5,x6,rfl,Jd,J2a nx nd h1,J2a nx nd h2,J2a nx nd h3,J2a nx nd h4,J2a nx nd h5,J2a nx nd h6,
  fun H' a1 a2 a3 a4 a5 a6 b e e1 e2 e3 e4 e5 e6 n1 n2 n3 n4 n5 n6 => ⟨rfl,q x H' a1 a2 a3 a4 a5 a6 (J2q nx nd b) ⟨dx,e⟩ e1 e2 e3 e4 e5 e6 (J16 n1) (J16 n2) (J16 n3) (J16 n4) (J16 n5) (J16 n6)⟩⟩
noncomputable def Jz (ns : List Int) (k : Int) : Int := ns.getD k.toNat 0
noncomputable def Jcj (K : PySem.W.Frag) : Sp := fun vs H Q _ => ∃ (a : Addr) (ns : List Int) (k : Int),vs = [.ref a,.int k] ∧ SqL K H a (ns.map V.int) ∧ 0 ≤ k ∧ Q (.int (Jz ns k)) H
noncomputable abbrev abc : List Nat := [97,98,99,100,101,102,103,104,105,106,107,108,109,110,111,112,113,114,115,116,117,118,119,120,121,122]
noncomputable abbrev ABC : List Nat := [65,66,67,68,69,70,71,72,73,74,75,76,77,78,79,80,81,82,83,84,85,86,87,88,89,90]
noncomputable def ltr (i : Int) : Nat := 97 + i.toNat
noncomputable def cap (i : Int) : Nat := 65 + i.toNat
theorem Jd9 (i : Int) (h0 : 0 ≤ i) (h1 : i < 26) : atI abc i = some (ltr i) := by
 obtain ⟨c,h2,h3⟩ := J2l abc i h0 (by show i < 26; exact h1)
 have key : ∀ n : Nat,n < 26 → abc[n]? = some (97 + n) := by decide
 rw [h2]
 rw [key i.toNat (by omega)] at h3
 exact h3.symm
theorem Jf2 (i : Int) (h0 : 0 ≤ i) (h1 : i < 26) : atI ABC i = some (cap i) := by
 obtain ⟨c,h2,h3⟩ := J2l ABC i h0 (by show i < 26; exact h1)
 have key : ∀ n : Nat,n < 26 → ABC[n]? = some (65 + n) := by decide
 rw [h2]
 rw [key i.toNat (by omega)] at h3
 exact h3.symm
theorem J1M {ns : List Int} {k : Int} (h0 : 0 ≤ k) (h : k < ns.length) : atI (ns.map V.int) k = some (.int (Jz ns k)) := by
 obtain ⟨z,h1,h2⟩ := Jf1 ns k h0 h
 unfold Jz
 rw [h1,List.getD_eq_getElem?_getD,h2]
 rfl
theorem Jde {ns : List Int} {k : Int} (h : (ns.length : Int) ≤ k) : Jz ns k = 0 := by
 unfold Jz
 rw [List.getD_eq_getElem?_getD,List.getElem?_eq_none (by omega)]
 rfl
noncomputable def PerN (C : Addr) : List Nat → V → Hp → Prop := fun nm y H => ∃ a sk m c pa,y = .ref a ∧ J5T C H a nm sk m c pa
theorem PerN.keeps {C : Addr} (nm : List Nat) (y : V) (Ha Hb : Hp) (k : JY Ha Hb) (h : PerN C nm y Ha) : PerN C nm y Hb := by
 obtain ⟨a,sk,m,c,pa,e,h⟩ := h
 exact ⟨a,sk,m,c,pa,e,h.keeps k⟩
noncomputable def HouN (C1 C2 : Addr) (H : Hp) (h : Addr) (nms : List (List Nat)) : Prop := ∃ d k a1 a2 a3 a4 a5 a6 qs,J5R C2 H h d k a1 a2 a3 a4 a5 a6 ∧ H a2 = some (.lst qs) ∧ All2 (PerN C1) H nms qs
theorem HouN.same {C1 C2 : Addr} {H H' : Hp} {h : Addr} {nms : List (List Nat)} (x : HouN C1 C2 H h nms) (s : Same H H') : HouN C1 C2 H' h nms := by
 obtain ⟨d,k,a1,a2,a3,a4,a5,a6,qs,h1,h2,h3⟩ := x
 exact ⟨d,k,a1,a2,a3,a4,a5,a6,qs,h1.keeps s.keeps,s _ _ h2,h3.imp fun a y => PerN.keeps a y _ _ s.keeps⟩
noncomputable def Jcl (C1 C2 : Addr) : Sp := fun vs H Q _ => ∃ (h : Addr) (nm : List Nat) (nms : List (List Nat)) (k : Nat),vs = [.ref h,T nm] ∧ HouN C1 C2 H h nms ∧ nms[k]? = some nm ∧ (∀ j < k,¬ nms[j]? = some nm) ∧ ∀ H',Same H H' → Q (.int (k : Nat)) H'
structure Nd where
 day : Int
 kind : Nat
 least : Int
 most : Int
noncomputable def NdAt : Nd → V → Hp → Prop := fun n y H => ∃ t,y = .ref t ∧ H t = some (.tup [.int n.day,T [n.kind],.int n.least,.int n.most])
theorem NdAt.keeps (n : Nd) (y : V) (Ha Hb : Hp) (k : JY Ha Hb) (h : NdAt n y Ha) : NdAt n y Hb := let ⟨t,e,h⟩ := h; ⟨t,e,k _ _ h fun zs z => by cases z⟩
noncomputable def J0F : List Nd → Int → Nat → Int × Int
 | [],_,_ => (0,0)
 | n :: r,d,k => if n.day = d ∧ n.kind = k then (n.least,n.most) else J0F r d k
noncomputable def LvT : List Nat × Int → V → Hp → Prop := fun l y H => ∃ t,y = .ref t ∧ H t = some (.tup [T l.1,.int l.2])
theorem LvT.keeps (n : List Nat × Int) (y : V) (Ha Hb : Hp) (k : JY Ha Hb) (h : LvT n y Ha) : LvT n y Hb := let ⟨t,e,h⟩ := h; ⟨t,e,k _ _ h fun zs z => by cases z⟩
noncomputable def lvI (l : List Nat × Int) : List V := [T l.1,.int l.2]
theorem Jb0 {K : PySem.W.Frag} {H : Hp} : ∀ {ls : List (List Nat × Int)} {vs : List V},All2 LvT H ls vs → All2 (TpAt K) H (ls.map lvI) vs
 | [],[],_ => trivial
 | l :: ls,v :: vs,h => ⟨by obtain ⟨t,e,h⟩ := h.1; exact ⟨t,e,SqT.of h,rfl⟩,Jb0 h.2⟩
 | [],_ :: _,h => h.elim
 | _ :: _,[],h => h.elim
noncomputable def J4X (ls : List (List Nat × Int)) (nm : List Nat) (d : Int) : Bool := (ls.map lvI).any fun ys => eqVs ys [T nm,.int d]
theorem J7f {nds : List Nd} {i : Nat} {d : Int} {k : Nat} (h : ∀ j < i,∀ n,nds[j]? = some n → ¬ (n.day = d ∧ n.kind = k)) : J0F nds d k = J0F (nds.drop i) d k := by
 induction i generalizing nds with
 | zero => rfl
 | succ i ih =>
  cases nds with
  | nil => rfl
  | cons n r =>
   rw [List.drop_succ_cons,← ih (nds := r) fun j hj m hm => h (j + 1) (by omega) m (by simpa using hm)]
   rw [J0F,if_neg (h 0 (by omega) n rfl)]
theorem J7Y {nds : List Nd} {i : Nat} {d : Int} {k : Nat} {n : Nd} (h : ∀ j < i,∀ n,nds[j]? = some n → ¬ (n.day = d ∧ n.kind = k)) (hi : nds[i]? = some n) (e : n.day = d ∧ n.kind = k) : J0F nds d k = (n.least,n.most) := by
 rw [J7f h,List.drop_eq_getElem_cons (List.getElem?_eq_some_iff.mp hi).1,J0F]
 have : nds[i]'(List.getElem?_eq_some_iff.mp hi).1 = n := (List.getElem?_eq_some_iff.mp hi).2
 rw [this,if_pos e]
theorem Jam {nds : List Nd} {d : Int} {k : Nat} (h : ∀ j < nds.length,∀ n,nds[j]? = some n → ¬ (n.day = d ∧ n.kind = k)) : J0F nds d k = (0,0) := by
 rw [J7f h,List.drop_eq_nil_of_le (Nat.le_refl _)]
 rfl
noncomputable def dut (l : List Nat) : Nat := (l.filter fun c => !decide (c = 45)).length
theorem JaY (l : List Nat) : ((((l.map fun c => T [c]).filter (fun x => !decide (x = T [45]))).map (fun x => x)).length) = dut l := by
 rw [List.length_map,List.filter_map,List.length_map]
 unfold dut
 congr 1
 refine List.filter_congr fun c _ => ?_
 show (!decide (T [c] = T [45])) = _
 by_cases h : c = 45
 ·subst h; simp
 ·rw [decide_eq_false h,decide_eq_false fun z => h (by simpa using J1S z)]
noncomputable def Jcg : Sp := fun vs H Q _ => ∃ l,vs = [T l] ∧ l.length ≤ 1000 ∧ ∀ H',Same H H' → Q (.int (dut l)) H'
structure Ps where
 nm : List Nat
 sk : List Nat
 most : Int
 car : Int
 past : List Nat
noncomputable def canB (ls : List (List Nat × Int)) (p : Ps) (n : Nd) : Bool := decide (n.kind ∈ p.sk) && decide (0 < n.most) && !J4X ls p.nm n.day
noncomputable def canP (ls : List (List Nat × Int)) (held : List Nd) (p : Ps) : Int :=
 let d : Int := JcH ((held.filter (canB ls p)).map (·.day))
 if d < p.most then d else p.most
noncomputable def canF (ls : List (List Nat × Int)) (ps : List Ps) (held : List Nd) : Int := (ps.map (canP ls held)).sum
noncomputable def J5z (held : List Nd) : Int := (held.map (·.least)).sum
noncomputable def J2D (n m : Nd) : Prop := ¬ (n.day = m.day ∧ n.kind = m.kind)
noncomputable def hitB (n : Nd) (row : List Nat) : Bool := decide (row[n.day.toNat]? = some n.kind)
noncomputable def cntR (rows : List (List Nat)) (n : Nd) : Nat := (rows.filter (hitB n)).length
theorem J4S {α β : Type} (f : α → β) : ∀ {l : List α},l.Nodup → (∀ x ∈ l,∀ y ∈ l,f x = f y → x = y) → (l.map f).Nodup
 | [],_,_ => List.nodup_nil
 | x :: l,hn,h => by
  obtain ⟨h1,h2⟩ := List.nodup_cons.mp hn
  rw [List.map_cons,List.nodup_cons]
  refine ⟨fun hm => ?_,J4S f h2 fun y hy z hz => h y (List.mem_cons_of_mem _ hy) z (List.mem_cons_of_mem _ hz)⟩
  obtain ⟨y,hy,e⟩ := List.mem_map.mp hm
  rw [h y (List.mem_cons_of_mem _ hy) x List.mem_cons_self e] at hy
  exact h1 hy
structure Rota (rows : List (List Nat)) (ps : List Ps) (ls : List (List Nat × Int)) (nds : List Nd) : Prop where
 len : rows.length = ps.length
 per : ∀ (i : Nat) (p : Ps) (row : List Nat),ps[i]? = some p → rows[i]? = some row → (∀ c ∈ row,c ≠ 45 → c ∈ p.sk) ∧ (dut row : Int) ≤ p.most
 nms : ∀ (i j : Nat) (p q : Ps),ps[i]? = some p → ps[j]? = some q → p.nm = q.nm → i = j
 lev : ∀ l ∈ ls,∃ (i : Nat) (p : Ps) (row : List Nat),ps[i]? = some p ∧ rows[i]? = some row ∧ p.nm = l.1 ∧ 0 ≤ l.2 ∧ row[l.2.toNat]? = some 45
 nds : ∀ n ∈ nds,0 ≤ n.day ∧ n.kind ≠ 45 ∧ n.least ≤ (cntR rows n : Int) ∧ (cntR rows n : Int) ≤ n.most
noncomputable def PsO (C : Addr) : Ps → V → Hp → Prop := fun n y H => ∃ a,y = .ref a ∧ J5T C H a n.nm n.sk n.most n.car n.past
theorem PsO.keeps {C : Addr} (n : Ps) (y : V) (Ha Hb : Hp) (k : JY Ha Hb) (h : PsO C n y Ha) : PsO C n y Hb := let ⟨a,e,h⟩ := h; ⟨a,e,h.keeps k⟩
theorem J2R {n i a : Nat} (h : (List.range n)[i]? = some a) : a = i ∧ i < n := by
 have hi := (List.getElem?_eq_some_iff.mp h).1
 rw [List.length_range] at hi
 rw [List.getElem?_range hi] at h
 exact ⟨(Option.some.inj h).symm,hi⟩
noncomputable def Jci : Sp := fun vs H Q _ => ∃ (c m : Int),vs = [.int c,.int m] ∧ 0 ≤ m ∧ m ≤ 500 ∧ ∀ (a : Addr) (H' : Hp) (xs : List Int),Same H H' → H a = none → H' a = some (.lst (xs.map V.int)) → (xs.length : Int) = m → (∀ x ∈ xs,0 ≤ x ∧ x < 2147483629) → Q (.ref a) H'
noncomputable def Jez : Sp := fun vs H Q _ => ∃ (c d : Int) (ks : List Nat),vs = [.int c,T ks,.int d] ∧ 1 ≤ d ∧ d ≤ 7 ∧ ks.length ≤ 3 ∧ ∀ (row : List Nat) (H' : Hp),Same H H' → (row.length : Int) = d → (∀ c ∈ row,c ∈ ks ∨ c = 45) → Q (T row) H'
theorem JfH (i : Int) (h0 : 0 ≤ i) (h : i < 4) : ∃ z : Int,atI [V.int 1,V.int 4,V.int 5,V.int 7] i = some (.int z) ∧ 1 ≤ z ∧ z ≤ 7 := by
 obtain ⟨c,h1,h2⟩ := J2l [V.int 1,V.int 4,V.int 5,V.int 7] i h0 h
 have hm := List.mem_of_getElem? h2
 simp only [List.mem_cons,List.not_mem_nil,or_false] at hm
 rcases hm with rfl | rfl | rfl | rfl
 all_goals exact ⟨_,h1,by decide,by decide⟩
noncomputable def Ja4 (M : Int) (l : List Int) : Prop := M ∈ l ∧ ∀ a ∈ l,M ≤ a
noncomputable def minI : List Int → Int
 | [] => 0
 | a :: r => r.foldl (fun x y => if y < x then y else x) a
theorem JaS : ∀ (r : List Int) (a : Int),Ja4 (r.foldl (fun x y => if y < x then y else x) a) (a :: r)
 | [],a => ⟨List.mem_cons_self,fun b hb => by rw [List.mem_singleton.mp hb]; exact Int.le_refl _⟩
 | b :: r,a => by
  obtain ⟨h1,h2⟩ := JaS r (if b < a then b else a)
  rw [List.foldl_cons]
  generalize r.foldl (fun x y => if y < x then y else x) (if b < a then b else a) = M at h1 h2
  have hle := h2 _ List.mem_cons_self
  refine ⟨?_,fun c hc => ?_⟩
  ·rcases List.mem_cons.mp h1 with z | z
   ·rw [z]
    split
    ·exact List.mem_cons_of_mem _ List.mem_cons_self
    ·exact List.mem_cons_self
   ·exact List.mem_cons_of_mem _ (List.mem_cons_of_mem _ z)
  ·rcases List.mem_cons.mp hc with z | z
   ·rw [z]; split at hle <;> omega
   ·rcases List.mem_cons.mp z with z | z
    ·rw [z]; split at hle <;> omega
    ·exact h2 c (List.mem_cons_of_mem _ z)
theorem Ja4.eq {M : Int} {l : List Int} (h : Ja4 M l) : minI l = M := by
 cases l with
 | nil => cases h.1
 | cons a r =>
  have g := JaS r a
  exact Int.le_antisymm (g.2 _ h.1) (h.2 _ g.1)
noncomputable abbrev kd (d : Int) (k : Nat) : List Key := [.inl d,.inr ⟨[k].toArray⟩]
theorem JeM {d d' : Int} {k k' : Nat} (h : kd d k = kd d' k') : d = d' ∧ k = k' := by
 injection h with h1 h2
 injection h2 with h2 _
 injection h1 with h1
 injection h2 with h2
 refine ⟨h1,?_⟩
 have : T [k] = T [k'] := congrArg V.str h2
 have := J1S this
 simpa using this
noncomputable def chgF (nds : List Nd) (ods : List Int) (d : Int) (k : Nat) : Int := (((nds.zip ods).find? fun a => decide (a.1.day = d ∧ a.1.kind = k)).map (·.2)).getD 0
theorem Jdb : ∀ {nds : List Nd} {ods : List Int} {n : Nd} {z : Int},nds.Pairwise J2D → (n,z) ∈ nds.zip ods → chgF nds ods n.day n.kind = z
 | [],_,_,_,_,h => by simp at h
 | _ :: _,[],_,_,_,h => by simp at h
 | m :: nds,y :: ods,n,z,hU,h => by
  rw [List.zip_cons_cons] at h
  unfold chgF
  rw [List.zip_cons_cons,List.find?_cons]
  rcases List.mem_cons.mp h with e | e
  ·obtain ⟨rfl,rfl⟩ := Prod.mk.inj e
   rw [decide_eq_true ⟨rfl,rfl⟩]
   rfl
  ·have hm : n ∈ nds := (List.of_mem_zip e).1
   have ha := (List.pairwise_cons.mp hU).1 n hm
   rw [decide_eq_false ha]
   exact Jdb (List.pairwise_cons.mp hU).2 e
theorem J9M : ∀ {nds : List Nd} {d : Int} {k : Nat},1 ≤ (J0F nds d k).2 → ∃ n ∈ nds,n.day = d ∧ n.kind = k ∧ 1 ≤ n.most
 | [],_,_,h => by
  have h' : (1 : Int) ≤ 0 := h
  omega
 | n :: r,d,k,h => by
  unfold J0F at h
  by_cases e : n.day = d ∧ n.kind = k
  ·rw [if_pos e] at h
   exact ⟨n,List.mem_cons_self,e.1,e.2,h⟩
  ·rw [if_neg e] at h
   obtain ⟨m,hm,x⟩ := J9M h
   exact ⟨m,List.mem_cons_of_mem _ hm,x⟩
noncomputable def Ans (H : Hp) (sp : Sp) (vs : List V) (z : Int) : Prop := ∀ (H' : Hp) (Q' : VK),Same H H' → (∀ H'',Same H' H'' → Q' (.int z) H'') → sp vs H' Q' E0
noncomputable def CoQ (P : Program) (w : World) (K : PySem.W.Frag) (mg : Str → Option Value) (base : Heap) (H : Hp) (c : Addr) (f : Int → Int → Int) (g : Int → Int → Nat → Int) (n dd : Int) : Prop :=
 ∃ (C dx : Addr) (fs : List (Str × V)) (ps1 ps2 : List Str) (sp1 sp2 : Sp),H c = some (.ins C dx fs) ∧ fs.lookup ("of_count" : Str) = none ∧ fs.lookup ("of_mark" : Str) = none ∧ MtG P w K mg base C "of_count" 1 ps1 sp1 ∧ MtG P w K mg base C "of_mark" 1 ps2 sp2 ∧
 (∀ p m : Int,0 ≤ p → p < n → 0 ≤ m → m ≤ 9 → Ans H sp1 [.ref c,.int p,.int m] (f p m)) ∧ (∀ (p d : Int) (x : Nat),0 ≤ p → p < n → 0 ≤ d → d < dd → Ans H sp2 [.ref c,.int p,.int d,T [x]] (g p d x))
theorem Ans.same {H H' : Hp} {sp : Sp} {vs : List V} {z : Int} (x : Ans H sp vs z) (s : Same H H') : Ans H' sp vs z := fun H1 Q1 s1 q => x H1 Q1 (s.trans s1) q
theorem CoQ.same {P : Program} {w : World} {K : PySem.W.Frag} {mg : Str → Option Value} {base : Heap} {H H' : Hp} {c : Addr} {f : Int → Int → Int} {g : Int → Int → Nat → Int} {n dd : Int} (x : CoQ P w K mg base H c f g n dd) (s : Same H H') : CoQ P w K mg base H' c f g n dd := by
 obtain ⟨C,dx,fs,ps1,ps2,sp1,sp2,h1,h2,h3,h4,h5,h6,h7⟩ := x
 exact ⟨C,dx,fs,ps1,ps2,sp1,sp2,s _ _ h1,h2,h3,h4,h5,fun p m a b c d => (h6 p m a b c d).same s,fun p d x a b c e => (h7 p d x a b c e).same s⟩
noncomputable def cntL (f : Int → Int → Int) (z p m : Int) : List Int := (List.range (m + 1).toNat).map fun (i : Nat) => f p (0 + (i : Int)) - z * (0 + (i : Int))
section
variable {P : Program} {w : World} {K : PySem.W.Frag} {mg : Str → Option Value} {base : Heap} {Jg J7 J4 Ji J1 J2 Jk Jc Ja Jb Jf J9 : Addr}
theorem J7C (tx : Tx K mg Jg J7 J4 Ji J1 J2 Jk Jc Ja Jb Jf J9) : MtG P w K mg base J7 "__init__" 1 ["self","name","skills","most","carried","past"] (J9l J7) := by
 refine tx.J7z.g tx.J0n.cl J6W (fun _ _ _ _ _ _ us hl => match us,hl with | [_,_,_,_,_,_],_ => rfl) (fun vs H Q E h => ?_) (fun f cdv A outer s H vs Q E hr h => ?_)
 ·obtain ⟨p,dx,a,b,c,d,e,rfl,_⟩ := h
  rfl
 ·obtain ⟨p,dx,a,b,c,d,e,rfl,hp,q⟩ := h
  refine ⟨_,(J6 (J0s (pv 0) (pv 1) rfl)
   (J6 (J0s (pv 0) (pv 2) rfl)
   (J6 (J0s (pv 0) (pv 3) rfl)
   (J6 (J0s (pv 0) (pv 4) rfl)
   (Jh (J0s (pv 0) (pv 5) rfl)))))),?_⟩
  walk_at "st"
  refine ⟨_,rfl,_,rfl,p,J7,dx,[],rfl,hp,tx.J0n.cl,tx.JR,(by show 0 < 1000; decide),?_⟩
  refine ⟨_,rfl,_,rfl,p,J7,dx,[("name",a)],rfl,Jd,tx.J0n.cl,tx.J0q,(by show 1 < 1000; decide),?_⟩
  rw [putN (fs := [("name",a)]) (show ∀ g ∈ [("name" : Str)],g ≠ "skills" from by decide +kernel)]
  refine ⟨_,rfl,_,rfl,p,J7,dx,[("name",a),("skills",b)],rfl,Jd,tx.J0n.cl,tx.J0u,(by show 2 < 1000; decide),?_⟩
  rw [putN (fs := [("name",a),("skills",b)]) (show ∀ g ∈ [("name" : Str),"skills"],g ≠ "most" from by decide +kernel)]
  refine ⟨_,rfl,_,rfl,p,J7,dx,[("name",a),("skills",b),("most",c)],rfl,Jd,tx.J0n.cl,tx.J0x,(by show 3 < 1000; decide),?_⟩
  rw [putN (fs := [("name",a),("skills",b),("most",c)]) (show ∀ g ∈ [("name" : Str),"skills","most"],g ≠ "carried" from by decide +kernel)]
  refine ⟨_,rfl,_,rfl,p,J7,dx,[("name",a),("skills",b),("most",c),("carried",d)],rfl,Jd,tx.J0n.cl,tx.J1r,(by show 4 < 1000; decide),?_⟩
  rw [putN (fs := [("name",a),("skills",b),("most",c),("carried",d)]) (show ∀ g ∈ [("name" : Str),"skills","most","carried"],g ≠ "past" from by decide +kernel)]
  exact q _ (But.refl p H).at.at.at.at.at Jd
theorem J8y (tx : Tx K mg Jg J7 J4 Ji J1 J2 Jk Jc Ja Jb Jf J9) : MtG P w K mg base J4 "__init__" 1 ["self","days","kinds","needs","persons","leave","wishes","rules","pairs"] (J9d J4) := by
 refine tx.J8p.g tx.JN.cl J7M (fun _ _ _ _ _ _ us hl => match us,hl with | [_,_,_,_,_,_,_,_,_],_ => rfl) (fun vs H Q E h => ?_) (fun f cdv A outer s H vs Q E hr h => ?_)
 ·obtain ⟨p,dx,d,k,b1,b2,b3,b4,b5,b6,x1,x2,x3,x4,x5,x6,rfl,_⟩ := h
  rfl
 ·obtain ⟨p,dx,d,k,b1,b2,b3,b4,b5,b6,x1,x2,x3,x4,x5,x6,rfl,hp,h1,h2,h3,h4,h5,h6,q⟩ := h
  refine ⟨_,(J6 (J0s (pv 0) (pv 1) rfl)
   (J6 (J0s (pv 0) (pv 2) rfl)
   (J6 (J0s (pv 0) (JX JI rfl tx.J13 JT (J0 (pv 3) J5)) rfl)
   (J6 (J0s (pv 0) (JX JI rfl tx.J13 JT (J0 (pv 4) J5)) rfl)
   (J6 (J0s (pv 0) (JX JI rfl tx.J13 JT (J0 (pv 5) J5)) rfl)
   (J6 (J0s (pv 0) (JX JI rfl tx.J13 JT (J0 (pv 6) J5)) rfl)
   (J6 (J0s (pv 0) (JX JI rfl tx.J13 JT (J0 (pv 7) J5)) rfl)
   (Jh (J0s (pv 0) (JX JI rfl tx.J13 JT (J0 (pv 8) J5)) rfl))))))))),?_⟩
  walk_at "st"
  have nb : ∀ {b : Addr} {x : List V},H b = some (.lst x) → b ≠ p := fun e => Jb5 e hp (by intro z; cases z)
  refine ⟨_,rfl,_,rfl,p,J4,dx,[],rfl,hp,tx.JN.cl,tx.J1d,(by show 0 < 1000; decide),?_⟩
  refine ⟨_,rfl,_,rfl,p,J4,dx,[("days",d)],rfl,Jd,tx.JN.cl,tx.J0T,(by show 1 < 1000; decide),?_⟩
  rw [putN (fs := [("days",d)]) (show ∀ g ∈ [("days" : Str)],g ≠ "kinds" from by decide +kernel)]
  have B0 : But p H (upd (upd H p (.ins J4 dx (putF "days" d []))) p (.ins J4 dx ([(("days" : Str),d)] ++ [(("kinds" : Str),k)]))) := (But.refl p H).at.at
  have e0 : upd (upd H p (.ins J4 dx (putF "days" d []))) p (.ins J4 dx ([(("days" : Str),d)] ++ [(("kinds" : Str),k)])) p = some (.ins J4 dx [("days",d),("kinds",k)]) := Jd
  generalize upd (upd H p (.ins J4 dx (putF "days" d []))) p (.ins J4 dx ([(("days" : Str),d)] ++ [(("kinds" : Str),k)])) = H0 at B0 e0 ⊢
  refine ⟨_,rfl,b1,x1,rfl,.inl (SqL.of (B0 _ _ (nb h1) h1)),fun a1 n1 => ?_⟩
  refine ⟨_,rfl,p,J4,dx,[("days",d),("kinds",k)],rfl,(Jj (Je e0 n1)).trans e0,tx.JN.cl,tx.J0j,(by show 2 < 1000; decide),?_⟩
  rw [putN (fs := [("days",d),("kinds",k)]) (show ∀ g ∈ [("days" : Str),"kinds"],g ≠ "needs" from by decide +kernel)]
  have z1 : a1 ≠ p := (Je e0 n1).symm
  have B1 : But p H (upd (upd H0 a1 (.lst x1)) p (.ins J4 dx ([(("days" : Str),d),("kinds",k)] ++ [(("needs" : Str),.ref a1)]))) := (B0.new n1).at
  have e1 : upd (upd H0 a1 (.lst x1)) p (.ins J4 dx ([(("days" : Str),d),("kinds",k)] ++ [(("needs" : Str),.ref a1)])) p = some (.ins J4 dx [("days",d),("kinds",k),("needs",.ref a1)]) := Jd
  have y1 : upd (upd H0 a1 (.lst x1)) p (.ins J4 dx ([(("days" : Str),d),("kinds",k)] ++ [(("needs" : Str),.ref a1)])) a1 = some (.lst x1) := by rw [Jj z1]; exact Jd
  have m1 : H a1 = none := by cases hh : H a1 with | none => rfl | some o => rw [B0 _ _ z1 hh] at n1; cases n1
  generalize upd (upd H0 a1 (.lst x1)) p (.ins J4 dx ([(("days" : Str),d),("kinds",k)] ++ [(("needs" : Str),.ref a1)])) = H1 at B1 e1 y1 ⊢
  refine ⟨_,rfl,b2,x2,rfl,.inl (SqL.of (B1 _ _ (nb h2) h2)),fun a2 n2 => ?_⟩
  refine ⟨_,rfl,p,J4,dx,[("days",d),("kinds",k),("needs",.ref a1)],rfl,(Jj (Je e1 n2)).trans e1,tx.JN.cl,tx.JG,(by show 3 < 1000; decide),?_⟩
  rw [putN (fs := [("days",d),("kinds",k),("needs",.ref a1)]) (show ∀ g ∈ [("days" : Str),"kinds","needs"],g ≠ "persons" from by decide +kernel)]
  have z2 : a2 ≠ p := (Je e1 n2).symm
  have B2 : But p H (upd (upd H1 a2 (.lst x2)) p (.ins J4 dx ([(("days" : Str),d),("kinds",k),("needs",.ref a1)] ++ [(("persons" : Str),.ref a2)]))) := (B1.new n2).at
  have e2 : upd (upd H1 a2 (.lst x2)) p (.ins J4 dx ([(("days" : Str),d),("kinds",k),("needs",.ref a1)] ++ [(("persons" : Str),.ref a2)])) p = some (.ins J4 dx [("days",d),("kinds",k),("needs",.ref a1),("persons",.ref a2)]) := Jd
  have y2 : upd (upd H1 a2 (.lst x2)) p (.ins J4 dx ([(("days" : Str),d),("kinds",k),("needs",.ref a1)] ++ [(("persons" : Str),.ref a2)])) a2 = some (.lst x2) := by rw [Jj z2]; exact Jd
  have y12 : upd (upd H1 a2 (.lst x2)) p (.ins J4 dx ([(("days" : Str),d),("kinds",k),("needs",.ref a1)] ++ [(("persons" : Str),.ref a2)])) a1 = some (.lst x1) := by rw [Jj z1,Jj (Je y1 n2)]; exact y1
  have m2 : H a2 = none := by cases hh : H a2 with | none => rfl | some o => rw [B1 _ _ z2 hh] at n2; cases n2
  generalize upd (upd H1 a2 (.lst x2)) p (.ins J4 dx ([(("days" : Str),d),("kinds",k),("needs",.ref a1)] ++ [(("persons" : Str),.ref a2)])) = H2 at B2 e2 y2 y12 ⊢
  refine ⟨_,rfl,b3,x3,rfl,.inl (SqL.of (B2 _ _ (nb h3) h3)),fun a3 n3 => ?_⟩
  refine ⟨_,rfl,p,J4,dx,[("days",d),("kinds",k),("needs",.ref a1),("persons",.ref a2)],rfl,(Jj (Je e2 n3)).trans e2,tx.JN.cl,tx.J0U,(by show 4 < 1000; decide),?_⟩
  rw [putN (fs := [("days",d),("kinds",k),("needs",.ref a1),("persons",.ref a2)]) (show ∀ g ∈ [("days" : Str),"kinds","needs","persons"],g ≠ "leave" from by decide +kernel)]
  have z3 : a3 ≠ p := (Je e2 n3).symm
  have B3 : But p H (upd (upd H2 a3 (.lst x3)) p (.ins J4 dx ([(("days" : Str),d),("kinds",k),("needs",.ref a1),("persons",.ref a2)] ++ [(("leave" : Str),.ref a3)]))) := (B2.new n3).at
  have e3 : upd (upd H2 a3 (.lst x3)) p (.ins J4 dx ([(("days" : Str),d),("kinds",k),("needs",.ref a1),("persons",.ref a2)] ++ [(("leave" : Str),.ref a3)])) p = some (.ins J4 dx [("days",d),("kinds",k),("needs",.ref a1),("persons",.ref a2),("leave",.ref a3)]) := Jd
  have y3 : upd (upd H2 a3 (.lst x3)) p (.ins J4 dx ([(("days" : Str),d),("kinds",k),("needs",.ref a1),("persons",.ref a2)] ++ [(("leave" : Str),.ref a3)])) a3 = some (.lst x3) := by rw [Jj z3]; exact Jd
  have y13 : upd (upd H2 a3 (.lst x3)) p (.ins J4 dx ([(("days" : Str),d),("kinds",k),("needs",.ref a1),("persons",.ref a2)] ++ [(("leave" : Str),.ref a3)])) a1 = some (.lst x1) := by rw [Jj z1,Jj (Je y12 n3)]; exact y12
  have y23 : upd (upd H2 a3 (.lst x3)) p (.ins J4 dx ([(("days" : Str),d),("kinds",k),("needs",.ref a1),("persons",.ref a2)] ++ [(("leave" : Str),.ref a3)])) a2 = some (.lst x2) := by rw [Jj z2,Jj (Je y2 n3)]; exact y2
  have m3 : H a3 = none := by cases hh : H a3 with | none => rfl | some o => rw [B2 _ _ z3 hh] at n3; cases n3
  generalize upd (upd H2 a3 (.lst x3)) p (.ins J4 dx ([(("days" : Str),d),("kinds",k),("needs",.ref a1),("persons",.ref a2)] ++ [(("leave" : Str),.ref a3)])) = H3 at B3 e3 y3 y13 y23 ⊢
  refine ⟨_,rfl,b4,x4,rfl,.inl (SqL.of (B3 _ _ (nb h4) h4)),fun a4 n4 => ?_⟩
  refine ⟨_,rfl,p,J4,dx,[("days",d),("kinds",k),("needs",.ref a1),("persons",.ref a2),("leave",.ref a3)],rfl,(Jj (Je e3 n4)).trans e3,tx.JN.cl,tx.J1D,(by show 5 < 1000; decide),?_⟩
  rw [putN (fs := [("days",d),("kinds",k),("needs",.ref a1),("persons",.ref a2),("leave",.ref a3)]) (show ∀ g ∈ [("days" : Str),"kinds","needs","persons","leave"],g ≠ "wishes" from by decide +kernel)]
  have z4 : a4 ≠ p := (Je e3 n4).symm
  have B4 : But p H (upd (upd H3 a4 (.lst x4)) p (.ins J4 dx ([(("days" : Str),d),("kinds",k),("needs",.ref a1),("persons",.ref a2),("leave",.ref a3)] ++ [(("wishes" : Str),.ref a4)]))) := (B3.new n4).at
  have e4 : upd (upd H3 a4 (.lst x4)) p (.ins J4 dx ([(("days" : Str),d),("kinds",k),("needs",.ref a1),("persons",.ref a2),("leave",.ref a3)] ++ [(("wishes" : Str),.ref a4)])) p = some (.ins J4 dx [("days",d),("kinds",k),("needs",.ref a1),("persons",.ref a2),("leave",.ref a3),("wishes",.ref a4)]) := Jd
  have y4 : upd (upd H3 a4 (.lst x4)) p (.ins J4 dx ([(("days" : Str),d),("kinds",k),("needs",.ref a1),("persons",.ref a2),("leave",.ref a3)] ++ [(("wishes" : Str),.ref a4)])) a4 = some (.lst x4) := by rw [Jj z4]; exact Jd
  have y14 : upd (upd H3 a4 (.lst x4)) p (.ins J4 dx ([(("days" : Str),d),("kinds",k),("needs",.ref a1),("persons",.ref a2),("leave",.ref a3)] ++ [(("wishes" : Str),.ref a4)])) a1 = some (.lst x1) := by rw [Jj z1,Jj (Je y13 n4)]; exact y13
  have y24 : upd (upd H3 a4 (.lst x4)) p (.ins J4 dx ([(("days" : Str),d),("kinds",k),("needs",.ref a1),("persons",.ref a2),("leave",.ref a3)] ++ [(("wishes" : Str),.ref a4)])) a2 = some (.lst x2) := by rw [Jj z2,Jj (Je y23 n4)]; exact y23
  have y34 : upd (upd H3 a4 (.lst x4)) p (.ins J4 dx ([(("days" : Str),d),("kinds",k),("needs",.ref a1),("persons",.ref a2),("leave",.ref a3)] ++ [(("wishes" : Str),.ref a4)])) a3 = some (.lst x3) := by rw [Jj z3,Jj (Je y3 n4)]; exact y3
  have m4 : H a4 = none := by cases hh : H a4 with | none => rfl | some o => rw [B3 _ _ z4 hh] at n4; cases n4
  generalize upd (upd H3 a4 (.lst x4)) p (.ins J4 dx ([(("days" : Str),d),("kinds",k),("needs",.ref a1),("persons",.ref a2),("leave",.ref a3)] ++ [(("wishes" : Str),.ref a4)])) = H4 at B4 e4 y4 y14 y24 y34 ⊢
  refine ⟨_,rfl,b5,x5,rfl,.inl (SqL.of (B4 _ _ (nb h5) h5)),fun a5 n5 => ?_⟩
  refine ⟨_,rfl,p,J4,dx,[("days",d),("kinds",k),("needs",.ref a1),("persons",.ref a2),("leave",.ref a3),("wishes",.ref a4)],rfl,(Jj (Je e4 n5)).trans e4,tx.JN.cl,tx.J1s,(by show 6 < 1000; decide),?_⟩
  rw [putN (fs := [("days",d),("kinds",k),("needs",.ref a1),("persons",.ref a2),("leave",.ref a3),("wishes",.ref a4)]) (show ∀ g ∈ [("days" : Str),"kinds","needs","persons","leave","wishes"],g ≠ "rules" from by decide +kernel)]
  have z5 : a5 ≠ p := (Je e4 n5).symm
  have B5 : But p H (upd (upd H4 a5 (.lst x5)) p (.ins J4 dx ([(("days" : Str),d),("kinds",k),("needs",.ref a1),("persons",.ref a2),("leave",.ref a3),("wishes",.ref a4)] ++ [(("rules" : Str),.ref a5)]))) := (B4.new n5).at
  have e5 : upd (upd H4 a5 (.lst x5)) p (.ins J4 dx ([(("days" : Str),d),("kinds",k),("needs",.ref a1),("persons",.ref a2),("leave",.ref a3),("wishes",.ref a4)] ++ [(("rules" : Str),.ref a5)])) p = some (.ins J4 dx [("days",d),("kinds",k),("needs",.ref a1),("persons",.ref a2),("leave",.ref a3),("wishes",.ref a4),("rules",.ref a5)]) := Jd
  have y5 : upd (upd H4 a5 (.lst x5)) p (.ins J4 dx ([(("days" : Str),d),("kinds",k),("needs",.ref a1),("persons",.ref a2),("leave",.ref a3),("wishes",.ref a4)] ++ [(("rules" : Str),.ref a5)])) a5 = some (.lst x5) := by rw [Jj z5]; exact Jd
  have y15 : upd (upd H4 a5 (.lst x5)) p (.ins J4 dx ([(("days" : Str),d),("kinds",k),("needs",.ref a1),("persons",.ref a2),("leave",.ref a3),("wishes",.ref a4)] ++ [(("rules" : Str),.ref a5)])) a1 = some (.lst x1) := by rw [Jj z1,Jj (Je y14 n5)]; exact y14
  have y25 : upd (upd H4 a5 (.lst x5)) p (.ins J4 dx ([(("days" : Str),d),("kinds",k),("needs",.ref a1),("persons",.ref a2),("leave",.ref a3),("wishes",.ref a4)] ++ [(("rules" : Str),.ref a5)])) a2 = some (.lst x2) := by rw [Jj z2,Jj (Je y24 n5)]; exact y24
  have y35 : upd (upd H4 a5 (.lst x5)) p (.ins J4 dx ([(("days" : Str),d),("kinds",k),("needs",.ref a1),("persons",.ref a2),("leave",.ref a3),("wishes",.ref a4)] ++ [(("rules" : Str),.ref a5)])) a3 = some (.lst x3) := by rw [Jj z3,Jj (Je y34 n5)]; exact y34
  have y45 : upd (upd H4 a5 (.lst x5)) p (.ins J4 dx ([(("days" : Str),d),("kinds",k),("needs",.ref a1),("persons",.ref a2),("leave",.ref a3),("wishes",.ref a4)] ++ [(("rules" : Str),.ref a5)])) a4 = some (.lst x4) := by rw [Jj z4,Jj (Je y4 n5)]; exact y4
  have m5 : H a5 = none := by cases hh : H a5 with | none => rfl | some o => rw [B4 _ _ z5 hh] at n5; cases n5
  generalize upd (upd H4 a5 (.lst x5)) p (.ins J4 dx ([(("days" : Str),d),("kinds",k),("needs",.ref a1),("persons",.ref a2),("leave",.ref a3),("wishes",.ref a4)] ++ [(("rules" : Str),.ref a5)])) = H5 at B5 e5 y5 y15 y25 y35 y45 ⊢
  refine ⟨_,rfl,b6,x6,rfl,.inl (SqL.of (B5 _ _ (nb h6) h6)),fun a6 n6 => ?_⟩
  refine ⟨_,rfl,p,J4,dx,[("days",d),("kinds",k),("needs",.ref a1),("persons",.ref a2),("leave",.ref a3),("wishes",.ref a4),("rules",.ref a5)],rfl,(Jj (Je e5 n6)).trans e5,tx.JN.cl,tx.J1i,(by show 7 < 1000; decide),?_⟩
  rw [putN (fs := [("days",d),("kinds",k),("needs",.ref a1),("persons",.ref a2),("leave",.ref a3),("wishes",.ref a4),("rules",.ref a5)]) (show ∀ g ∈ [("days" : Str),"kinds","needs","persons","leave","wishes","rules"],g ≠ "pairs" from by decide +kernel)]
  have z6 : a6 ≠ p := (Je e5 n6).symm
  have m6 : H a6 = none := by cases hh : H a6 with | none => rfl | some o => rw [B5 _ _ z6 hh] at n6; cases n6
  refine q _ a1 a2 a3 a4 a5 a6 (B5.new n6).at Jd ?_ ?_ ?_ ?_ ?_ ?_ m1 m2 m3 m4 m5 m6
  ·rw [Jj z1,Jj (Je y15 n6)]; exact y15
  ·rw [Jj z2,Jj (Je y25 n6)]; exact y25
  ·rw [Jj z3,Jj (Je y35 n6)]; exact y35
  ·rw [Jj z4,Jj (Je y45 n6)]; exact y45
  ·rw [Jj z5,Jj (Je y5 n6)]; exact y5
  ·rw [Jj z6]; exact Jd
end
theorem newl {H : Hp} {l : Addr} {xs : List V} (h : H l = none) : ∃ H',H' = upd H l (.lst xs) ∧ H' l = some (.lst xs) ∧ Same H H' := ⟨_,rfl,Jd,JB h _⟩
theorem newt {H : Hp} {l : Addr} {xs : List V} (h : H l = none) : ∃ H',H' = upd H l (.tup xs) ∧ H' l = some (.tup xs) ∧ Same H H' := ⟨_,rfl,Jd,JB h _⟩
theorem iV (a b : Int) : decide (V.int a = V.int b) = decide (a = b) := by
 by_cases h : a = b
 ·subst h; simp
 ·rw [decide_eq_false h,decide_eq_false fun z => h (V.int.inj z)]
theorem J3W (a b c d e f g h : V) : List.lookup ("place_of" : Str) (fH a b c d e f g h) = none := by
 rw [Jx (by decide +kernel),Jx (by decide +kernel),Jx (by decide +kernel),Jx (by decide +kernel),Jx (by decide +kernel),Jx (by decide +kernel),Jx (by decide +kernel),Jx (by decide +kernel)]
 rfl
structure Wi where
 k : Nat
 day : Nat
 marks : List Nat
noncomputable def WiN (nms : List (List Nat)) : Wi → V → Hp → Prop := fun w y H => ∃ t,y = .ref t ∧ H t = some (.tup [T (nms.getD w.k []),.int (w.day : Nat),T w.marks])
theorem WiN.keeps {nms : List (List Nat)} (w : Wi) (y : V) (Ha Hb : Hp) (k : JY Ha Hb) (h : WiN nms w y Ha) : WiN nms w y Hb := let ⟨t,e,h⟩ := h; ⟨t,e,k _ _ h fun zs z => by cases z⟩
theorem But.same {p : Addr} {H H1 H2 : Hp} (b : But p H H1) (s : Same H1 H2) : But p H H2 := fun a u n e => s _ _ (b a u n e)
noncomputable def PerQ (C : Addr) : List Nat × Int → V → Hp → Prop := fun p y H => ∃ a sk m pa,y = .ref a ∧ J5T C H a p.1 sk m p.2 pa
theorem PerQ.keeps {C : Addr} (p : List Nat × Int) (y : V) (Ha Hb : Hp) (k : JY Ha Hb) (h : PerQ C p y Ha) : PerQ C p y Hb := by
 obtain ⟨a,sk,m,pa,e,h⟩ := h
 exact ⟨a,sk,m,pa,e,h.keeps k⟩
noncomputable def HouQ (C1 C2 : Addr) (H : Hp) (h : Addr) (ps : List (List Nat × Int)) (W : List Wi) : Prop := ∃ d k a1 a2 a3 a4 a5 a6 qs ws,J5R C2 H h d k a1 a2 a3 a4 a5 a6 ∧ H a2 = some (.lst qs) ∧ All2 (PerQ C1) H ps qs ∧ H a4 = some (.lst ws) ∧ All2 (WiN (ps.map (·.1))) H W ws
theorem HouQ.same {C1 C2 : Addr} {H H' : Hp} {h : Addr} {ps : List (List Nat × Int)} {W : List Wi} (x : HouQ C1 C2 H h ps W) (s : Same H H') : HouQ C1 C2 H' h ps W := by
 obtain ⟨d,k,a1,a2,a3,a4,a5,a6,qs,ws,h1,h2,h3,h4,h5⟩ := x
 exact ⟨d,k,a1,a2,a3,a4,a5,a6,qs,ws,h1.keeps s.keeps,s _ _ h2,h3.imp fun a y => PerQ.keeps a y _ _ s.keeps,s _ _ h4,h5.imp fun a y => WiN.keeps a y _ _ s.keeps⟩
noncomputable def mkOf (W : List Wi) (p d : Nat) : List (List Nat) := (W.filter fun w => decide (w.k = p ∧ w.day = d)).map (·.marks)
theorem JbS (W : List Wi) (w : Wi) (p d : Nat) : mkOf (W ++ [w]) p d = if w.k = p ∧ w.day = d then mkOf W p d ++ [w.marks] else mkOf W p d := by
 unfold mkOf
 rw [List.filter_append,List.map_append]
 by_cases h : w.k = p ∧ w.day = d
 ·rw [if_pos h,List.filter_cons,if_pos (decide_eq_true h)]; rfl
 ·rw [if_neg h,List.filter_cons,if_neg (by simpa using h)]; simp
noncomputable abbrev fE (a b c : V) : List (Str × V) := [("weight",a),("burdens",b),("wished",c)]
noncomputable abbrev fC (a : V) : List (Str × V) := [("rows",a)]
noncomputable abbrev fL (a b : V) : List (Str × V) := [("burdens",a),("level",b)]
theorem Jc1 (a b c : V) : List.lookup ("weight" : Str) (fE a b c) = some a := J1h
theorem JdG (a : V) : List.lookup ("rows" : Str) (fC a) = some a := J1h
theorem Jar (a b : V) : List.lookup ("burdens" : Str) (fL a b) = some a := J1h
theorem Jdh (a b : V) : List.lookup ("level" : Str) (fL a b) = some b := by rw [Jx (by decide +kernel),J1h]
theorem Jew (a b c : V) : List.lookup ("of_count" : Str) (fE a b c) = none := by rw [Jx (by decide +kernel),Jx (by decide +kernel),Jx (by decide +kernel)]; rfl
theorem Jfs (a b c : V) : List.lookup ("of_mark" : Str) (fE a b c) = none := by rw [Jx (by decide +kernel),Jx (by decide +kernel),Jx (by decide +kernel)]; rfl
theorem J9W (a : V) : List.lookup ("of_count" : Str) (fC a) = none := by rw [Jx (by decide +kernel)]; rfl
theorem Jax (a : V) : List.lookup ("of_mark" : Str) (fC a) = none := by rw [Jx (by decide +kernel)]; rfl
theorem J9S (a b : V) : List.lookup ("of_count" : Str) (fL a b) = none := by rw [Jx (by decide +kernel),Jx (by decide +kernel)]; rfl
theorem Jaw (a b : V) : List.lookup ("of_mark" : Str) (fL a b) = none := by rw [Jx (by decide +kernel),Jx (by decide +kernel)]; rfl
noncomputable def ChAt (C : Addr) (H : Hp) (p : Addr) (rows : List (List Nat)) : Prop := ∃ dx r,H p = some (.ins C dx (fC (.ref r))) ∧ H r = some (.lst (rows.map T))
noncomputable def LvAt (C : Addr) (H : Hp) (p : Addr) (cs : List Int) (lv : Int) : Prop := ∃ dx b,H p = some (.ins C dx (fL (.ref b) (.int lv))) ∧ H b = some (.lst (cs.map V.int))
theorem ChAt.same {C : Addr} {H H' : Hp} {p : Addr} {rows : List (List Nat)} (x : ChAt C H p rows) (s : Same H H') : ChAt C H' p rows := by
 obtain ⟨dx,r,h1,h2⟩ := x
 exact ⟨dx,r,s _ _ h1,s _ _ h2⟩
theorem LvAt.same {C : Addr} {H H' : Hp} {p : Addr} {cs : List Int} {lv : Int} (x : LvAt C H p cs lv) (s : Same H H') : LvAt C H' p cs lv := by
 obtain ⟨dx,b,h1,h2⟩ := x
 exact ⟨dx,b,s _ _ h1,s _ _ h2⟩
noncomputable def Stb (H H' : Hp) (P : Hp → Prop) : Prop := ∀ H'',(∀ a o,H a = none → H' a = some o → H'' a = some o) → P H''
noncomputable def Stp (p : Addr) (H H' : Hp) (P : Hp → Prop) : Prop := ∀ H'',(∀ a o,(H a = none ∨ a = p) → H' a = some o → H'' a = some o) → P H''
theorem Stb.here {H H' : Hp} {P : Hp → Prop} (x : Stb H H' P) : P H' := x H' fun _ _ _ e => e
theorem Stp.made {H H' : Hp} {x dx : Addr} {u o : HO} {P : Hp → Prop} (nx : H x = none) (y : Stp x (upd (upd H dx u) x o) H' P) : Stb H H' P := fun H'' h => y H'' fun a v n e => h a v (n.elim J16 fun z => by rw [z]; exact nx) e
noncomputable def Ja5 (C1 C2 : Addr) : Sp := fun vs H Q _ => ∃ (h : Addr) (ps : List (List Nat × Int)) (W : List Wi),vs = [.ref h] ∧ HouQ C1 C2 H h ps W ∧ ps.length ≤ 100 ∧ ∀ D H',H D = none → Same H H' → H' D = some (.lst ((ps.map (·.2)).map V.int)) → Q (.ref D) H'
noncomputable def J9z (C : Addr) : Sp := fun vs H Q _ => ∃ p dx hv b rows,vs = [.ref p,hv,.ref b] ∧ H p = some (.ins C dx []) ∧ H b = some (.lst (rows.map T)) ∧ ∀ H',But p H H' → Stp p H H' (fun H'' => ChAt C H'' p rows) → Q .non H'
noncomputable def J9q (C1 C2 C : Addr) : Sp := fun vs H Q _ => ∃ p dx h ps W lv,vs = [.ref p,.ref h,.int lv] ∧ H p = some (.ins C dx []) ∧ HouQ C1 C2 H h ps W ∧ ps.length ≤ 100 ∧ ∀ H',But p H H' → Stp p H H' (fun H'' => LvAt C H'' p (ps.map (·.2)) lv) → Q .non H'
noncomputable def rCh (C : Addr) : List V → Hp → VK → Prop := fun vs H Q => ∃ h b rows,vs = [.ref h,.ref b] ∧ H b = some (.lst (rows.map T)) ∧ ∀ p H',Same H H' → Stb H H' (fun H'' => ChAt C H'' p rows) → Q (.ref p) H'
noncomputable def rLv (C1 C2 C : Addr) : List V → Hp → VK → Prop := fun vs H Q => ∃ h ps W lv,vs = [.ref h,.int lv] ∧ HouQ C1 C2 H h ps W ∧ ps.length ≤ 100 ∧ ∀ p H',Same H H' → Stb H H' (fun H'' => LvAt C H'' p (ps.map (·.2)) lv) → Q (.ref p) H'
theorem Jcx {H : Hp} {x dx : Addr} {u o : HO} (nx : H x = none) (nd : H dx = none) : Same H (upd (upd H dx u) x o) := fun a v e => J2a nx nd e
theorem JfF {C : Addr} : ∀ vs H Q,rCh C vs H Q → ∀ x dx,H x = none → H dx = none → dx ≠ x → J9z C (.ref x :: (vs ++ [])) (upd (upd H dx (.own x)) x (.ins C dx [])) (fun v H2 => v = .non ∧ Q (.ref x) H2) E0 := by
 rintro _ H Q ⟨h,b,rows,rfl,hb,q⟩ x dx nx nd _
 exact ⟨x,dx,_,b,rows,rfl,Jd,J2a nx nd hb,fun H' b e => ⟨rfl,q x H' (J2q nx nd b) (e.made nx)⟩⟩
theorem Jg3 {C1 C2 C : Addr} : ∀ vs H Q,rLv C1 C2 C vs H Q → ∀ x dx,H x = none → H dx = none → dx ≠ x → J9q C1 C2 C (.ref x :: (vs ++ [])) (upd (upd H dx (.own x)) x (.ins C dx [])) (fun v H2 => v = .non ∧ Q (.ref x) H2) E0 := by
 rintro _ H Q ⟨h,ps,W,lv,rfl,hq,hl,q⟩ x dx nx nd _
 exact ⟨x,dx,h,ps,W,lv,rfl,Jd,hq.same (Jcx nx nd),hl,fun H' b e => ⟨rfl,q x H' (J2q nx nd b) (e.made nx)⟩⟩
noncomputable def notM (W : List Wi) (p d c : Nat) : Nat := ((mkOf W p d).filter fun ms => !decide (c ∈ ms)).length
noncomputable def Jeg : Sp := fun vs H Q _ => ∃ a b c,vs = [a,b,c] ∧ Q (.int 0) H
noncomputable def Jfz : Sp := fun vs H Q _ => ∃ a b c d,vs = [a,b,c,d] ∧ Q (.int 0) H
noncomputable def Jds (C : Addr) : Sp := fun vs H Q _ => ∃ (e : Addr) (p d : Nat) (c x : Nat) (rows : List (List Nat)) (row : List Nat),vs = [.ref e,.int (p : Int),.int (d : Int),T [c]] ∧ ChAt C H e rows ∧ rows[p]? = some row ∧ row[d]? = some x ∧ row.length ≤ 1000 ∧ Q (.int (if x = c then 0 else 1)) H
noncomputable def JdD (C : Addr) : Sp := fun vs H Q _ => ∃ (e : Addr) (p many : Int) (cs : List Int) (lv : Int),vs = [.ref e,.int p,.int many] ∧ LvAt C H e cs lv ∧ 0 ≤ p ∧ p < cs.length ∧ Q (.int (if Jz cs p + many - lv > 0 then Jz cs p + many - lv else 0)) H
section
variable {P : Program} {w : World} {K : PySem.W.Frag} {mg : Str → Option Value} {base : Heap} {Jg J7 J4 Ji J1 J2 Jk Jc Ja Jb Jf J9 : Addr}
local macro_rules | `(tactic| walk_at "lk") => `(tactic| first | exact J67 _ _ _ _ _ | exact J7d _ _ _ _ _ | exact J2r _ _ _ _ _ _ _ _ | exact J3W _ _ _ _ _ _ _ _ | exact Jc1 _ _ _ | exact JdG _ | exact Jar _ _ | exact Jdh _ _)
theorem Jac (tx : Tx K mg Jg J7 J4 Ji J1 J2 Jk Jc Ja Jb Jf J9) : MtG P w K mg base J4 "place_of" 1 ["self","name"] (Jcl J7 J4) := by
 refine tx.J50.g tx.JN.cl J2i (fun _ _ _ _ _ _ us hl => match us,hl with | [_,_],_ => rfl) (fun vs H Q E h => ?_) (fun f cdv A outer s H vs Q E hr h => ?_)
 ·obtain ⟨h,nm,nms,i,rfl,_⟩ := h
  rfl
 ·obtain ⟨h,nm,nms,k,rfl,hC,hk,hb,q⟩ := h
  refine ⟨_,(J6 (J0G PassesOwn.never rfl (J2F (K := K) rfl rfl tx.J0m (J0 (Jt (K := K) rfl (pv 0) rfl) J5)) (J2C rfl (JE (Jm (i := 2) J2i.nd rfl (Or.inl rfl)) (JE (Jm (i := 3) J2i.nd rfl (Or.inl rfl)) J1z))) (Jh (J0E (Js J0P (Jt (K := K) rfl (pv 3) rfl) (pv 1) (Jw _)) (Jh (Jv (pv 2))) JK)))
   (Jh Jcz)),?_⟩
  walk_at "st"
  obtain ⟨d,kk,a1,a2,a3,a4,a5,a6,qs,⟨dx,h1⟩,h2,h3⟩ := hC
  have cH := tx.JN.cl
  have nH := tx.JG
  have cP := tx.J0n.cl
  have nP := tx.JR
  walk_at "rd"
  refine J3f (K := K) (xs := qs) (fun i σ H2 => Here (∃ v1 v2,σ = [some (.ref h),some (T nm),v1,v2] ∧ i ≤ k ∧ Same H H2)) (Here.mk ⟨none,none,rfl,Nat.zero_le _,Same.refl _⟩) (fun i σ H2 _ hv => by obtain ⟨_,_,_,_,s2⟩ := hv.out; exact SqL.of (s2 _ _ h2)) ?_ ?_
  ·rintro i x p σ H2 hx hp hv
   obtain ⟨v1,v2,rfl,hi,s2⟩ := hv.out
   obtain ⟨n2,hn2,p1,sk,m,c,pa,rfl,dx2,hp2⟩ := h3.back hx
   have s3 : Same H2 (upd H2 p (.tup [.int i,.ref p1])) := JB hp _
   have hp3 := s3 _ _ (s2 _ _ hp2)
   walk_at "rd"
   refine ite2 (fun e => ?_) (fun e => ?_)
   ·have e' : n2 = nm := J1S (of_decide_eq_true e)
    subst e'
    have hik : i = k := by
     rcases Nat.lt_or_ge i k with z | z
     ·exact absurd hn2 (hb i z)
     ·omega
    subst hik
    walk_at "rd"
    exact q _ (s2.trans s3)
   ·have e' : ¬ n2 = nm := fun z => e (decide_eq_true (by rw [z]))
    refine Here.mk ⟨_,_,rfl,?_,s2.trans s3⟩
    rcases Nat.lt_or_ge i k with z | z
    ·exact z
    ·have : i = k := by omega
     subst this
     rw [hk] at hn2
     exact absurd (Option.some.inj hn2).symm e'
  ·rintro σ H2 hv
   obtain ⟨v1,v2,rfl,hi,s2⟩ := hv.out
   have := h3.len
   have hkl := (List.getElem?_eq_some_iff.mp hk).1
   exact absurd hi (by omega)
theorem J8r (tx : Tx K mg Jg J7 J4 Ji J1 J2 Jk Jc Ja Jb Jf J9) : FnG P w K mg base "burdens_of" 1 ["house"] (Ja5 J7 J4) := by
 refine tx.J8s.g J7q (fun _ _ _ _ _ _ us hl => match us,hl with | [_],_ => rfl) (fun vs H Q E h => ?_) (fun f cdv A outer s H vs Q E hr h => ?_)
 ·obtain ⟨h,ps,W,rfl,_⟩ := h
  rfl
 ·obtain ⟨h,ps,W,rfl,hQ,hl,q⟩ := h
  refine ⟨_,(Jh (Jv (JP (osc := J3 J19) (ON := ["house"]) (N := ["person"]) (js := [none]) ⟨rfl,by decide +kernel,by decide +kernel,by decide +kernel,rfl,by decide +kernel⟩ rfl rfl rfl (JZ (K := K) rfl (Jt (K := K) rfl (pv 0) rfl)) (fun _ _ _ _ _ => Jm (i := 0) (show List.Nodup (["person"] : List Str) from by decide +kernel) rfl (Or.inl rfl)) (fun _ _ _ _ _ => J0b) (fun _ _ _ _ _ => (Jt (K := K) rfl (pv 0) rfl))))),?_⟩
  walk_at "st"
  obtain ⟨d,k,a1,a2,a3,a4,a5,a6,qs,ws,⟨dx,h1⟩,h2,h3,h4,h5⟩ := hQ
  have cH := tx.JN.cl
  have nH := tx.JG
  have cP := tx.J0n.cl
  have nP := tx.J0x
  have hq := h3.len
  walk_at "rd"
  refine JF ps (fun _ => true) (fun a y _ => y = V.int a.2) (fun σ => ∃ v,σ = [v]) (JL (SqL.of h2)) hq (by omega) ⟨_,rfl⟩ (fun _ _ _ _ _ z => z) (fun i a v σ H' ha hv hσ s' Rf Rt _ hR => ?_) (fun D H' ys hD s' hys hDD => ?_)
  ·obtain ⟨w1,rfl⟩ := hσ
   obtain ⟨y,hy,b,sk,m,pa,rfl,db,hb⟩ := h3.get ha
   rw [hv] at hy
   cases hy
   have hb' := s' _ _ hb
   walk_at "rd"
   exact hR _ _ _ rfl ⟨_,rfl⟩ (Same.refl _) rfl
  ·refine q D H' hD s' ?_
   rw [hDD,hys.eqmap (f := fun a => V.int a.2) (fun a y e => e),List.filter_eq_self.mpr fun _ _ => rfl,List.map_map]
   rfl
theorem putL (a b : V) : putF "level" b (putF "burdens" a []) = fL a b := by
 show putF "level" b ([(("burdens" : Str),a)] : List (Str × V)) = _
 rw [putN (fs := [("burdens",a)]) (show ∀ g ∈ [("burdens" : Str)],g ≠ "level" from by decide +kernel)]
 rfl
theorem J7r (tx : Tx K mg Jg J7 J4 Ji J1 J2 Jk Jc Ja Jb Jf J9) : MtG P w K mg base J1 "__init__" 1 ["self","house","rota"] (J9z J1) := by
 refine tx.J4f.g tx.J1q.cl J41 (fun _ _ _ _ _ _ us hl => match us,hl with | [_,_,_],_ => rfl) (fun vs H Q E h => ?_) (fun f cdv A outer s H vs Q E hr h => ?_)
 ·obtain ⟨p,dx,hv,b,rows,rfl,_⟩ := h
  rfl
 ·obtain ⟨p,dx,hv,b,rows,rfl,hp,hb,q⟩ := h
  refine ⟨_,(Jh (J0s (pv 0) (JX JI rfl tx.J13 JT (J0 (pv 2) J5)) rfl)),?_⟩
  walk_at "st"
  refine ⟨_,rfl,b,_,rfl,.inl (SqL.of hb),fun l nl => ?_⟩
  refine ⟨_,rfl,p,J1,dx,[],rfl,(Jj (Je hp nl)).trans hp,tx.J1q.cl,tx.J0e,(by show 0 < 1000; decide),?_⟩
  have zl : l ≠ p := (Je hp nl).symm
  exact q _ (((But.refl p H).new nl).at) fun H'' hk => ⟨dx,l,hk _ _ (.inr rfl) Jd,hk _ _ (.inl nl) (by rw [Jj zl]; exact Jd)⟩
theorem J8i (tx : Tx K mg Jg J7 J4 Ji J1 J2 Jk Jc Ja Jb Jf J9) : MtG P w K mg base J2 "__init__" 2 ["self","house","level"] (J9q J7 J4 J2) := by
 have J4F := J8r (P := P) (w := w) (base := base) tx
 refine tx.J4C.g tx.J1X.cl J4l (fun _ _ _ _ _ _ us hl => match us,hl with | [_,_,_],_ => rfl) (fun vs H Q E h => ?_) (fun f cdv A outer s H vs Q E hr h => ?_)
 ·obtain ⟨p,dx,h,ps,W,lv,rfl,_⟩ := h
  rfl
 ·obtain ⟨p,dx,h,ps,W,lv,rfl,hp,hQ,hpl,q⟩ := h
  refine ⟨_,(J6 (J0s (pv 0) (JO J4F (hr.mono (by decide)) (J0 (pv 1) J5)) rfl)
   (Jh (J0s (pv 0) (pv 2) rfl))),?_⟩
  walk_at "st"
  clear J4F
  have cE := tx.J1X.cl
  have n1 := tx.J02
  have n2 := tx.J0f
  have z0 : ([] : List (Str × V)).length < 1000 := by decide
  walk_at "rd"
  intro b H1 nb s1 hb
  have hp1 := s1 _ _ hp
  have z1 : (putF "burdens" (.ref b) []).length < 1000 := by show 1 < 1000; decide
  have nbp : b ≠ p := (Je hp nb).symm
  walk_at "rd"
  refine q _ ((((But.refl p H).same s1).at).at) fun H'' hk => ⟨dx,b,hk _ _ (.inr rfl) ?_,hk _ _ (.inl nb) (by rw [Jj nbp,Jj nbp]; exact hb)⟩
  rw [Jd,putL]
theorem Jfx {C : Addr} (tx : Tx K mg Jg J7 J4 Ji J1 J2 Jk Jc Ja Jb Jf J9) (m : MF K C "of_count" "Costs.of_count" JH) (cl : Cls K C) : MtG P w K mg base C "of_count" 1 ["self","p","many"] Jeg := by
 refine m.g cl J4y (fun _ _ _ _ _ _ us hl => match us,hl with | [_,_,_],_ => rfl) (fun vs H Q E h => ?_) (fun f cdv A outer s H vs Q E hr h => ?_)
 ·obtain ⟨a,b,c,rfl,_⟩ := h
  rfl
 ·obtain ⟨a,b,c,rfl,q⟩ := h
  refine ⟨_,(Jh (Jv J8)),?_⟩
  walk_at "st"
  walk_at "rd"
  exact q
theorem Jfy {C : Addr} (tx : Tx K mg Jg J7 J4 Ji J1 J2 Jk Jc Ja Jb Jf J9) (m : MF K C "of_mark" "Costs.of_mark" JJ) (cl : Cls K C) : MtG P w K mg base C "of_mark" 1 ["self","p","day","mark"] Jfz := by
 refine m.g cl J5c (fun _ _ _ _ _ _ us hl => match us,hl with | [_,_,_,_],_ => rfl) (fun vs H Q E h => ?_) (fun f cdv A outer s H vs Q E hr h => ?_)
 ·obtain ⟨a,b,c,d,rfl,_⟩ := h
  rfl
 ·obtain ⟨a,b,c,d,rfl,q⟩ := h
  refine ⟨_,(Jh (Jv J8)),?_⟩
  walk_at "st"
  walk_at "rd"
  exact q
theorem J8B (tx : Tx K mg Jg J7 J4 Ji J1 J2 Jk Jc Ja Jb Jf J9) : MtG P w K mg base J1 "of_mark" 1 ["self","p","day","mark"] (Jds J1) := by
 refine tx.J3B.g tx.J1q.cl J3h (fun _ _ _ _ _ _ us hl => match us,hl with | [_,_,_,_],_ => rfl) (fun vs H Q E h => ?_) (fun f cdv A outer s H vs Q E hr h => ?_)
 ·obtain ⟨e,p,d,c,x,rows,row,rfl,_⟩ := h
  rfl
 ·obtain ⟨e,p,d,c,x,rows,row,rfl,⟨dx,r,h1,h2⟩,hr1,hx,hl,q⟩ := h
  refine ⟨_,(Jh (Jv (J78 (Js J0P (Jo J09 (Jo (Jy (K := K) rfl) (Jt (K := K) rfl (pv 0) rfl) (pv 1) (fun _ _ => rfl)) (pv 2) (fun _ _ => rfl)) (pv 3) (Jw _)) J8 J8))),?_⟩
  walk_at "st"
  have cE := tx.J1q.cl
  have n1 := tx.J0e
  have e1 : atI (rows.map T) (p : Int) = some (T row) := J01 (by rw [List.getElem?_map,hr1]; rfl)
  have e2 : atI row (d : Int) = some x := J01 hx
  walk_at "rd"
  refine ite2 (fun z => ?_) (fun z => ?_)
  ·have z' : x = c := by have := J1S (of_decide_eq_true z); simpa using this
   rw [if_pos z'] at q
   walk_at "rd"
   exact q
  ·have z' : ¬ x = c := fun y => z (decide_eq_true (by rw [y]))
   rw [if_neg z'] at q
   walk_at "rd"
   exact q
theorem J9e (tx : Tx K mg Jg J7 J4 Ji J1 J2 Jk Jc Ja Jb Jf J9) : MtG P w K mg base J2 "of_count" 1 ["self","p","many"] (JdD J2) := by
 refine tx.J3A.g tx.J1X.cl J3n (fun _ _ _ _ _ _ us hl => match us,hl with | [_,_,_],_ => rfl) (fun vs H Q E h => ?_) (fun f cdv A outer s H vs Q E hr h => ?_)
 ·obtain ⟨e,p,many,cs,lv,rfl,_⟩ := h
  rfl
 ·obtain ⟨e,p,many,cs,lv,rfl,⟨dx,b,h1,h2⟩,p0,p1,q⟩ := h
  refine ⟨_,(Jh (Jv (Ju (J5B rfl) rfl tx.J6D JaD (J0 J8 (J0 (Jl J3M (Jl J00 (Jo (Jy (K := K) rfl) (Jt (K := K) rfl (pv 0) rfl) (pv 1) (fun _ _ => rfl)) (pv 2)) (Jt (K := K) rfl (pv 0) rfl)) J5))))),?_⟩
  walk_at "st"
  have cE := tx.J1X.cl
  have n1 := tx.J02
  have n2 := tx.J0f
  have e1 := J1M p0 p1
  walk_at "rd"
  exact q
end
theorem lH_m {m : Str} (a b c d e f g h : V) (h1 : m ≠ "days") (h2 : m ≠ "kinds") (h3 : m ≠ "needs") (h4 : m ≠ "persons") (h5 : m ≠ "leave") (h6 : m ≠ "wishes") (h7 : m ≠ "rules") (h8 : m ≠ "pairs") : List.lookup m (fH a b c d e f g h) = none := by
 rw [Jx h1,Jx h2,Jx h3,Jx h4,Jx h5,Jx h6,Jx h7,Jx h8]
 rfl
theorem J8W (a b c d e f g h : V) : List.lookup ("need" : Str) (fH a b c d e f g h) = none := lH_m _ _ _ _ _ _ _ _ (by decide +kernel) (by decide +kernel) (by decide +kernel) (by decide +kernel) (by decide +kernel) (by decide +kernel) (by decide +kernel) (by decide +kernel)
theorem Jat (a b c d e f g h : V) : List.lookup ("may" : Str) (fH a b c d e f g h) = none := lH_m _ _ _ _ _ _ _ _ (by decide +kernel) (by decide +kernel) (by decide +kernel) (by decide +kernel) (by decide +kernel) (by decide +kernel) (by decide +kernel) (by decide +kernel)
noncomputable def Hk (C1 C2 : Addr) (H : Hp) (h : Addr) (dd : Int) (ks : List Nat) (nds : List Nd) (ps : List Ps) (ls : List (List Nat × Int)) : Prop :=
 ∃ a1 a2 a3 a4 a5 a6 xs ys zs ws,J5R C2 H h dd ks a1 a2 a3 a4 a5 a6 ∧ H a1 = some (.lst xs) ∧ All2 NdAt H nds xs ∧ H a2 = some (.lst ys) ∧ All2 (PsO C1) H ps ys ∧ H a3 = some (.lst zs) ∧ All2 LvT H ls zs ∧ H a4 = some (.lst ws)
theorem Hk.same {C1 C2 : Addr} {H H' : Hp} {h : Addr} {dd : Int} {ks : List Nat} {nds : List Nd} {ps : List Ps} {ls : List (List Nat × Int)} (x : Hk C1 C2 H h dd ks nds ps ls) (s : Same H H') : Hk C1 C2 H' h dd ks nds ps ls := by
 obtain ⟨a1,a2,a3,a4,a5,a6,xs,ys,zs,ws,h1,h2,h3,h4,h5,h6,h7,h8⟩ := x
 exact ⟨a1,a2,a3,a4,a5,a6,xs,ys,zs,ws,h1.keeps s.keeps,s _ _ h2,h3.imp fun a y => NdAt.keeps a y _ _ s.keeps,s _ _ h4,h5.imp fun a y => PsO.keeps a y _ _ s.keeps,s _ _ h6,h7.imp fun a y => LvT.keeps a y _ _ s.keeps,s _ _ h8⟩
noncomputable def mayP (ks : List Nat) (nds : List Nd) (ls : List (List Nat × Int)) (p : Ps) (d : Int) : List Nat := if J4X ls p.nm d = true then [] else (ks.filter fun k => decide (k ∈ p.sk)).filter fun k => decide (1 ≤ (J0F nds d k).2)
theorem JdO {nds : List Nd} (hU : nds.Pairwise J2D) {n : Nd} (h : n ∈ nds) : J0F nds n.day n.kind = (n.least,n.most) := by
 obtain ⟨i,hi⟩ := List.getElem?_of_mem h
 refine J7Y (i := i) (fun j hj m hm => ?_) hi ⟨rfl,rfl⟩
 have h1 := (List.getElem?_eq_some_iff.mp hi).1
 have h2 := (List.getElem?_eq_some_iff.mp hm).1
 have := List.pairwise_iff_getElem.mp hU j i h2 h1 hj
 rw [(List.getElem?_eq_some_iff.mp hi).2,(List.getElem?_eq_some_iff.mp hm).2] at this
 exact this
theorem JdW {ks : List Nat} {nds : List Nd} {ls : List (List Nat × Int)} {p : Ps} {n : Nd} (hU : nds.Pairwise J2D) (hn : n ∈ nds) (hk : n.kind ∈ ks) : decide (n.kind ∈ mayP ks nds ls p n.day) = canB ls p n := by
 unfold mayP canB
 by_cases ha : J4X ls p.nm n.day = true
 ·rw [if_pos ha,ha]
  simp
 ·rw [if_neg ha,Bool.eq_false_iff.mpr ha,Bool.not_false,Bool.and_true]
  have hN := JdO hU hn
  by_cases h1 : n.kind ∈ p.sk <;> by_cases h2 : 0 < n.most
  ·rw [decide_eq_true h1,decide_eq_true h2]
   refine decide_eq_true (List.mem_filter.mpr ⟨List.mem_filter.mpr ⟨hk,decide_eq_true h1⟩,?_⟩)
   rw [hN]
   exact decide_eq_true (by show 1 ≤ n.most; omega)
  ·rw [decide_eq_false h2,Bool.and_false]
   refine decide_eq_false fun z => h2 ?_
   have := of_decide_eq_true (List.mem_filter.mp z).2
   rw [hN] at this
   have : 1 ≤ n.most := this
   omega
  ·rw [decide_eq_false h1,Bool.false_and]
   exact decide_eq_false fun z => h1 (of_decide_eq_true (List.mem_filter.mp (List.mem_filter.mp z).1).2)
  ·rw [decide_eq_false h1,Bool.false_and]
   exact decide_eq_false fun z => h1 (of_decide_eq_true (List.mem_filter.mp (List.mem_filter.mp z).1).2)
noncomputable def Jck (C1 C2 : Addr) : Sp := fun vs H Q _ => ∃ (h : Addr) (d : Int) (k : Nat) (dd : Int) (ks : List Nat) (nds : List Nd) (ps : List Ps) (ls : List (List Nat × Int)),vs = [.ref h,.int d,T [k]] ∧ Hk C1 C2 H h dd ks nds ps ls ∧ ∀ (t : Addr) (H' : Hp),Same H H' → H' t = some (.tup [.int (J0F nds d k).1,.int (J0F nds d k).2]) → Q (.ref t) H'
noncomputable def Jdo (C1 C2 : Addr) : Sp := fun vs H Q _ => ∃ (h : Addr) (p d : Int) (dd : Int) (ks : List Nat) (nds : List Nd) (ps : List Ps) (ls : List (List Nat × Int)) (n : Ps),vs = [.ref h,.int p,.int d] ∧ Hk C1 C2 H h dd ks nds ps ls ∧ 0 ≤ p ∧ ps[p.toNat]? = some n ∧ ks.length ≤ 3 ∧ ∀ H',Same H H' → Q (T (mayP ks nds ls n d)) H'
theorem at0 (a b : V) : atI [a,b] 0 = some a := by simp [atI,ixN]
theorem at1 (a b : V) : atI [a,b] 1 = some b := by simp [atI,ixN]
noncomputable def onT (f : Nat → Bool) : V → Bool
 | .str ⟨⟨[c]⟩⟩ => f c
 | _ => false
theorem JaA (ks : List Nat) (f : Nat → Bool) : (((ks.map fun c => T [c]).filter (onT f)).map (fun x => x)) = (ks.filter f).map fun c => T [c] := by
 rw [List.map_id',List.filter_map]
 rfl
section
variable {P : Program} {w : World} {K : PySem.W.Frag} {mg : Str → Option Value} {base : Heap} {Jg J7 J4 Ji J1 J2 Jk Jc Ja Jb Jf J9 : Addr}
local macro_rules | `(tactic| walk_at "lk") => `(tactic| first | exact J67 _ _ _ _ _ | exact J5C _ _ _ _ _ | exact J4O _ _ _ _ _ | exact J7d _ _ _ _ _ | exact J2r _ _ _ _ _ _ _ _ | exact J3R _ _ _ _ _ _ _ _ | exact J7h _ _ _ _ _ _ _ _ | exact J77 _ _ _ _ _ _ _ _ | exact JbM _ _ _ _ _ _ _ _ | exact J8W _ _ _ _ _ _ _ _ | exact Jat _ _ _ _ _ _ _ _ | exact Or.inr (SqT.of (by with_reducible assumption)))
theorem Jce (tx : Tx K mg Jg J7 J4 Ji J1 J2 Jk Jc Ja Jb Jf J9) : MtG P w K mg base J4 "need" 1 ["self","day","kind"] (Jck J7 J4) := by
 refine tx.J8o.g tx.JN.cl J26 (fun _ _ _ _ _ _ us hl => match us,hl with | [_,_,_],_ => rfl) (fun vs H Q E h => ?_) (fun f cdv A outer s H vs Q E hr h => ?_)
 ·obtain ⟨h,d,k,dd,ks,nds,pns,ls,rfl,_⟩ := h
  rfl
 ·obtain ⟨h,d,k,dd,ks,nds,pns,ls,rfl,⟨a1,a2,a3,a4,a5,a6,xs,ys,zs,ws,⟨dx,h1⟩,h2,h3,_⟩,q⟩ := h
  refine ⟨_,(J6 (J0G PassesOwn.never rfl (JZ (K := K) rfl (Jt (K := K) rfl (pv 0) rfl)) (J2C rfl (JE (Jm (i := 3) J26.nd rfl (Or.inl rfl)) (JE (Jm (i := 4) J26.nd rfl (Or.inl rfl)) (JE (Jm (i := 5) J26.nd rfl (Or.inl rfl)) (JE (Jm (i := 6) J26.nd rfl (Or.inl rfl)) J1z))))) (Jh (J0E (PW.pt (J38 (Js J0P (pv 3) (pv 1) (Jw _)) (J2v (Js J0P (pv 4) (pv 2) (Jw _))))) (Jh (Jv (J0t (J0 (pv 5) (J0 (pv 6) J5))))) JK)))
   (Jh (Jv (J0t (J0 J8 (J0 J8 J5)))))),?_⟩
  walk_at "st"
  have cH := tx.JN.cl
  have nH := tx.J0j
  walk_at "rd"
  refine J9Y (K := K) (xs := xs) (fun i σ H2 => Here (∃ v1 v2 v3 v4,σ = [some (.ref h),some (.int d),some (T [k]),v1,v2,v3,v4] ∧ (∀ j < i,∀ n,nds[j]? = some n → ¬ (n.day = d ∧ n.kind = k)) ∧ H2 = H)) (Here.mk ⟨none,none,none,none,rfl,fun j hj => absurd hj (Nat.not_lt_zero _),rfl⟩) (fun i σ H2 _ hv => by obtain ⟨_,_,_,_,_,_,e⟩ := hv.out; rw [e]; exact SqL.of h2) ?_ ?_
  ·rintro i x σ H2 hx hv
   obtain ⟨v1,v2,v3,v4,rfl,hno,rfl⟩ := hv.out
   obtain ⟨n,hn,t,rfl,ht⟩ := h3.back hx
   have nx : ¬ (n.day = d ∧ n.kind = k) → ∀ j < i + 1,∀ m,nds[j]? = some m → ¬ (m.day = d ∧ m.kind = k) := fun z j hj m hm => by
    rcases Nat.lt_or_ge j i with y | y
    ·exact hno j y m hm
    ·have : j = i := by omega
     subst this
     rw [hn] at hm
     cases hm
     exact z
   walk_at "rd"
   refine ite2 (fun e1 => ?_) (fun e1 => ?_)
   ·have e1' : n.day = d := by have := of_decide_eq_true e1; injection this
    walk_at "rd"
    refine ite2 (fun e2 => ?_) (fun e2 => ?_)
    ·have e2' : n.kind = k := by have := J1S (of_decide_eq_true e2); simpa using this
     walk_at "rd"
     intro t2 ht2
     refine q t2 _ (JB ht2 _) ?_
     rw [Jd,J7Y hno hn ⟨e1',e2'⟩]
    ·exact Here.mk ⟨_,_,_,_,rfl,nx fun z => e2 (decide_eq_true (by rw [z.2])),rfl⟩
   ·walk_at "rd"
    exact Here.mk ⟨_,_,_,_,rfl,nx fun z => e1 (decide_eq_true (by rw [z.1])),rfl⟩
  ·rintro σ H2 hv
   obtain ⟨v1,v2,v3,v4,rfl,hno,rfl⟩ := hv.out
   walk_at "rd"
   intro t2 ht2
   refine q t2 _ (JB ht2 _) ?_
   rw [Jd,Jam (by rw [← h3.len]; exact hno)]
theorem Jef (tx : Tx K mg Jg J7 J4 Ji J1 J2 Jk Jc Ja Jb Jf J9) : MtG P w K mg base J4 "may" 2 ["self","p","day"] (Jdo J7 J4) := by
 have J70 := Jce (P := P) (w := w) (base := base) tx
 refine tx.J9o.g tx.JN.cl J3m (fun _ _ _ _ _ _ us hl => match us,hl with | [_,_,_],_ => rfl) (fun vs H Q E h => ?_) (fun f cdv A outer s H vs Q E hr h => ?_)
 ·obtain ⟨h,p,d,dd,ks,nds,pns,ls,n,rfl,_⟩ := h
  rfl
 ·obtain ⟨h,p,d,dd,ks,nds,pns,ls,n,rfl,hs,hp0,hn,hkl,q⟩ := h
  have hs' := hs
  obtain ⟨a1,a2,a3,a4,a5,a6,xs,ys,zs,ws,⟨dx,h1⟩,h2,h3,h4,h5,h6,h7,h8⟩ := hs'
  refine ⟨_,(J6 (Jq (i := 3) J3m.nd rfl (Or.inr rfl) (Jo (Jy (K := K) rfl) (Jt (K := K) rfl (pv 0) rfl) (pv 1) (fun _ _ => rfl)))
   (J6 (J0E (Js (J8M (K := K) rfl (J86 hr)) (J0t (J0 (Jt (K := K) rfl (pv 3) rfl) (J0 (pv 2) J5))) (Jt (K := K) rfl (pv 0) rfl) rfl) (Jh (Jv (JU (l := []) (by decide +kernel)))) JK)
   (J6 (J3o (k := 4) (osc := J3 J17) (ON := ["self","p","day","person","able"]) (N := ["kind","person"]) (js := [none,some 3]) J3m.nd rfl (Or.inl rfl) ⟨rfl,by decide +kernel,by decide +kernel,by decide +kernel,rfl,by decide +kernel⟩ rfl rfl rfl (J5E (Jt (K := K) rfl (pv 0) rfl)) (fun _ _ _ _ _ => Jm (i := 0) (show List.Nodup (["kind","person"] : List Str) from by decide +kernel) rfl (Or.inl rfl)) (fun _ _ _ _ _ => J0o (Js Jah (pv 0) (Jt (K := K) rfl (pv 1) rfl) rfl)) (fun _ _ _ _ _ => (pv 0)))
   (Jh (Jv (J3O (K := K) rfl (JU (l := []) (by decide +kernel)) (J0 (JP (osc := J3 J17) (ON := ["self","p","day","person","able"]) (N := ["kind","day","self"]) (js := [none,some 2,some 0]) ⟨rfl,by decide +kernel,by decide +kernel,by decide +kernel,rfl,by decide +kernel⟩ rfl rfl rfl (JZ (K := K) rfl (pv 4)) (fun _ _ _ _ _ => Jm (i := 0) (show List.Nodup (["kind","day","self"] : List Str) from by decide +kernel) rfl (Or.inl rfl)) (fun _ _ _ _ _ => J0o (Js JfL (Jo (JC (K := K) rfl) (J71 J70 (hr.mono (by decide)) (pv 2) (J0 (pv 1) (J0 (pv 0) J5))) J8 (fun _ _ => rfl)) J8 (Jw _))) (fun _ _ _ _ _ => (pv 0))) J5))))))),?_⟩
  walk_at "st"
  clear J70
  have cH := tx.JN.cl
  have nH1 := tx.JG
  have nH2 := tx.J0U
  have nH3 := tx.J0T
  have cP := tx.J0n.cl
  have nP1 := tx.JR
  have nP2 := tx.J0q
  obtain ⟨y,hy,pa,rfl,dxp,hp⟩ := h5.get hn
  have hix : atI ys p = some (.ref pa) := by have := J01 hy; rwa [Int.toNat_of_nonneg hp0] at this
  walk_at "rd"
  intro t ht
  obtain ⟨H1,e1,ht1,s1⟩ := newt (xs := [T n.nm,.int d]) ht
  rw [← e1]
  have k1 := s1 _ _ h1
  have k6 := s1 _ _ h6
  have kp := s1 _ _ hp
  have k7 := Jb0 (K := K) (h7.imp fun a y => LvT.keeps a y _ _ s1.keeps)
  have fl : ([T n.nm,V.int d] : List V).all J15 = true := rfl
  walk_at "rd"
  refine ite2 (fun e => ?_) (fun e => ?_)
  ·have e' : J4X ls n.nm d = true := e
   walk_at "rd"
   have := q H1 s1
   unfold mayP at this
   rw [if_pos e'] at this
   exact this
  have e' : ¬ J4X ls n.nm d = true := e
  have q' := q
  unfold mayP at q'
  rw [if_neg e'] at q'
  clear e e' q k6 k7 fl ht1 e1 ht h2 h3 h4 h5 h6 h7
  walk_at "rd"
  refine J8G (onT fun k => decide (k ∈ n.sk)) (fun x => x) (J3Z ks) ?_ (fun x hx H' s' R hR => ?_) (fun x hx hpx H' s' R hR => ?_) (fun ab H2 nab s2 hab => ?_)
  ·rw [List.length_map]; omega
  ·obtain ⟨k,_,rfl⟩ := List.mem_map.mp hx
   have kp' := s' _ _ kp
   walk_at "rd"
   exact hR H' (Same.refl _)
  ·walk_at "rd"
   exact hR H' (Same.refl _)
  rw [JaA] at hab
  have hl := List.length_filter_le (fun k => decide (k ∈ n.sk)) ks
  generalize ks.filter (fun k => decide (k ∈ n.sk)) = as at hab q' hl
  have hs2 := hs.same (s1.trans s2)
  walk_at "rd"
  refine JF as (fun k => decide (1 ≤ (J0F nds d k).2)) (fun k y _ => y = T [k]) (fun σ => ∃ v,σ = [v,some (.int d),some (.ref h)]) (JL (SqL.of hab)) (by rw [List.length_map]) (by omega) ⟨_,rfl⟩ (fun _ _ _ _ _ z => z) (fun i k v σ H' hk hv hσ s' Rf Rt hF hR => ?_) (fun D H3 rs nD s3 hrs hD => ?_)
  ·obtain ⟨w1,rfl⟩ := hσ
   rw [List.getElem?_map,hk] at hv
   cases hv
   have hs' := hs2.same s'
   have k1' := s' _ _ (s2 _ _ k1)
   walk_at "rd"
   intro t2 H4 s4 ht2
   have e2 := at1 (V.int (J0F nds d k).1) (V.int (J0F nds d k).2)
   walk_at "rd"
   refine ite2 (fun e => ?_) (fun e => ?_)
   ·walk_at "rd"
    exact hR _ _ _ e ⟨_,rfl⟩ s4 rfl
   ·exact hF _ _ (Bool.eq_false_iff.mpr e) ⟨_,rfl⟩ s4
  have hl2 := List.length_filter_le (fun k => decide (1 ≤ (J0F nds d k).2)) as
  have er := hrs.eqmap (f := fun k => T [k]) (fun a y e => e)
  generalize as.filter (fun k => decide (1 ≤ (J0F nds d k).2)) = bs at hl2 er q'
  have hD3 : SqL K H3 D ((bs.map fun c => [c]).map T) := by rw [List.map_map]; refine SqL.of ?_; rw [hD,er]; rfl
  have hjl : (((bs.map fun c => [c]).map List.length).sum + (bs.map fun c => [c]).length * ([] : List Nat).length ≤ 16777216) := by
   rw [J3d,List.length_map,List.length_nil,Nat.mul_zero]
   omega
  walk_at "rd"
  rw [J2G,J2E]
  exact q' H3 ((s1.trans s2).trans s3)
end
noncomputable def Jcc : Sp := fun vs H Q _ => ∃ (t : Addr) (n : Nd) (z : Int),vs = [.ref t,.int z] ∧ NdAt n (.ref t) H ∧ (-(2 ^ 64) < n.least ∧ n.least < 2 ^ 64) ∧ (-(2 ^ 64) < n.most ∧ n.most < 2 ^ 64) ∧ Q (.int (if z * n.most < z * n.least then z * n.most else z * n.least)) H
noncomputable def Jey (C1 C2 : Addr) : Sp := fun vs H Q _ => ∃ (h pl : Addr) (dd : Int) (ks : List Nat) (nds : List Nd) (ps : List Ps) (ls : List (List Nat × Int)) (ods : List Int),vs = [.ref h,.ref pl] ∧ Hk C1 C2 H h dd ks nds ps ls ∧ H pl = some (.lst (ods.map V.int)) ∧ nds.Pairwise J2D ∧ nds.length ≤ 21 ∧ ods.length = nds.length ∧
 ∀ D H' kvs,H D = none → Same H H' → H' D = some (.dT kvs) → (∀ n z,(n,z) ∈ nds.zip ods → valV kvs (kd n.day n.kind) = some (.int z)) → Q (.ref D) H'
noncomputable def JdB (P : Program) (w : World) (K : PySem.W.Frag) (mg : Str → Option Value) (base : Heap) (C1 C2 : Addr) : Sp := fun vs H Q _ => ∃ (h c : Addr) (p z : Int) (dd : Int) (ks : List Nat) (nds : List Nd) (ps : List Ps) (ls : List (List Nat × Int)) (f : Int → Int → Int) (g : Int → Int → Nat → Int) (n : Ps),vs = [.ref h,.ref c,.int p,.int z] ∧ Hk C1 C2 H h dd ks nds ps ls ∧ CoQ P w K mg base H c f g ps.length dd ∧ 0 ≤ p ∧ ps[p.toNat]? = some n ∧ 0 ≤ n.most ∧ n.most ≤ 9 ∧ ∀ H',Same H H' → Q (.int (minI (cntL f z p n.most))) H'
noncomputable def dayL (g : Int → Int → Nat → Int) (p d z : Int) (ms : List Nat) (ch : Nat → Int) : List Int := g p d 45 :: ms.map fun k => g p d k + z - ch k
noncomputable def Jdr (P : Program) (w : World) (K : PySem.W.Frag) (mg : Str → Option Value) (base : Heap) (C1 C2 : Addr) : Sp := fun vs H Q _ => ∃ (h c D : Addr) (p d z : Int) (dd : Int) (ks : List Nat) (nds : List Nd) (ps : List Ps) (ls : List (List Nat × Int)) (f : Int → Int → Int) (g : Int → Int → Nat → Int) (n : Ps) (kvs : List (List Key × V)) (ch : Nat → Int),vs = [.ref h,.ref c,.int p,.int d,.int z,.ref D] ∧ Hk C1 C2 H h dd ks nds ps ls ∧ CoQ P w K mg base H c f g ps.length dd ∧ 0 ≤ p ∧ ps[p.toNat]? = some n ∧ 0 ≤ d ∧ d < dd ∧ ks.length ≤ 3 ∧ H D = some (.dT kvs) ∧ (∀ k ∈ mayP ks nds ls n d,valV kvs (kd d k) = some (.int (ch k))) ∧ ∀ H',Same H H' → Q (.int (minI (dayL g p d z (mayP ks nds ls n d) ch))) H'
theorem Jdk (a b c d e f g h : V) : List.lookup ("days" : Str) (fH a b c d e f g h) = some a := J1h
theorem Je2 (ks : List Nat) (nds : List Nd) (ls : List (List Nat × Int)) (p : Ps) (d : Int) : (mayP ks nds ls p d).length ≤ ks.length := by
 unfold mayP
 split
 ·exact Nat.zero_le _
 ·exact Nat.le_trans (List.length_filter_le _ _) (List.length_filter_le _ _)
noncomputable abbrev fPr (a b : V) : List (Str × V) := [("persons",a),("needs",b)]
theorem J9L (a b : V) : List.lookup ("persons" : Str) (fPr a b) = some a := J1h
theorem JbR (a b : V) : List.lookup ("needs" : Str) (fPr a b) = some b := by rw [Jx (by decide +kernel),J1h]
theorem JbQ (a b : V) : List.lookup ("floor" : Str) (fPr a b) = none := by rw [Jx (by decide +kernel),Jx (by decide +kernel)]; rfl
theorem JfZ (a b : V) : putF "needs" b (putF "persons" a []) = fPr a b := by
 show putF "needs" b ([(("persons" : Str),a)] : List (Str × V)) = _
 rw [putN (fs := [("persons",a)]) (show ∀ g ∈ [("persons" : Str)],g ≠ "needs" from by decide +kernel)]
 rfl
noncomputable def J7R (C : Addr) : Sp := fun vs H Q _ => ∃ p dx l1 l2 xs ys,vs = [.ref p,.ref l1,.ref l2] ∧ H p = some (.ins C dx []) ∧ H l1 = some (.lst xs) ∧ H l2 = some (.lst ys) ∧ ∀ H' a b,But p H H' → H' p = some (.ins C dx (fPr (.ref a) (.ref b))) → H' a = some (.lst xs) → H' b = some (.lst ys) → H a = none → H b = none → Q .non H'
noncomputable def rPri (C : Addr) : List V → Hp → VK → Prop := fun vs H Q => ∃ l1 l2 xs ys,vs = [.ref l1,.ref l2] ∧ H l1 = some (.lst xs) ∧ H l2 = some (.lst ys) ∧ ∀ p dx a b H',Same H H' → H' p = some (.ins C dx (fPr (.ref a) (.ref b))) → H' a = some (.lst xs) → H' b = some (.lst ys) → H a = none → H b = none → Q (.ref p) H'
theorem Jfn {C : Addr} : ∀ vs H Q,rPri C vs H Q → ∀ x dx,H x = none → H dx = none → dx ≠ x → J7R C (.ref x :: (vs ++ [])) (upd (upd H dx (.own x)) x (.ins C dx [])) (fun v H2 => v = .non ∧ Q (.ref x) H2) E0 := by
 rintro _ H Q ⟨l1,l2,xs,ys,rfl,h1,h2,q⟩ x dx nx nd _
 exact ⟨x,dx,l1,l2,xs,ys,rfl,Jd,J2a nx nd h1,J2a nx nd h2,fun H' a b bt e e1 e2 n1 n2 => ⟨rfl,q x dx a b H' (J2q nx nd bt) e e1 e2 (J16 n1) (J16 n2)⟩⟩
noncomputable def ndM (a : Nd × Int) : Int := if a.2 * a.1.most < a.2 * a.1.least then a.2 * a.1.most else a.2 * a.1.least
noncomputable def dayM (g : Int → Int → Nat → Int) (ks : List Nat) (nds : List Nd) (ls : List (List Nat × Int)) (ods : List Int) (n : Ps) (i z d : Int) : Int := minI (dayL g i d z (mayP ks nds ls n d) (chgF nds ods d))
noncomputable def perM (f : Int → Int → Int) (g : Int → Int → Nat → Int) (dd : Int) (ks : List Nat) (nds : List Nd) (ls : List (List Nat × Int)) (ods : List Int) (n : Ps) (i z : Int) : Int := minI (cntL f z i n.most) + ((List.range dd.toNat).map fun (j : Nat) => dayM g ks nds ls ods n i z (0 + (j : Int))).sum
noncomputable def dft : Ps := ⟨[],[],0,0,[]⟩
noncomputable def J8P (f : Int → Int → Int) (g : Int → Int → Nat → Int) (dd : Int) (ks : List Nat) (nds : List Nd) (ps : List Ps) (ls : List (List Nat × Int)) (prs ods : List Int) : Int := ((nds.zip ods).map ndM).sum + ((List.range ps.length).map fun (i : Nat) => perM f g dd ks nds ls ods (ps.getD i dft) (i : Int) (prs.getD i 0)).sum
noncomputable def Jbh (P : Program) (w : World) (K : PySem.W.Frag) (mg : Str → Option Value) (base : Heap) (C1 C2 C3 : Addr) : Sp := fun vs H Q _ => ∃ (pp h c a b dx : Addr) (dd : Int) (ks : List Nat) (nds : List Nd) (ps : List Ps) (ls : List (List Nat × Int)) (f : Int → Int → Int) (g : Int → Int → Nat → Int) (prs ods : List Int),vs = [.ref pp,.ref h,.ref c] ∧ H pp = some (.ins C3 dx (fPr (.ref a) (.ref b))) ∧ H a = some (.lst (prs.map V.int)) ∧ H b = some (.lst (ods.map V.int)) ∧ Hk C1 C2 H h dd ks nds ps ls ∧ CoQ P w K mg base H c f g ps.length dd ∧ nds.Pairwise J2D ∧ nds.length ≤ 21 ∧ (∀ n ∈ nds,(-(2 ^ 64) < n.least ∧ n.least < 2 ^ 64) ∧ (-(2 ^ 64) < n.most ∧ n.most < 2 ^ 64)) ∧ ps.length ≤ 5 ∧ (∀ n ∈ ps,0 ≤ n.most ∧ n.most ≤ 9) ∧ ks.length ≤ 3 ∧ 0 ≤ dd ∧ dd ≤ 7 ∧ ∀ H',Same H H' → Q (.int (if prs.length = ps.length ∧ ods.length = nds.length then J8P f g dd ks nds ps ls prs ods else 0)) H'
theorem JdQ {ks : List Nat} {nds : List Nd} {ls : List (List Nat × Int)} {ods : List Int} {n : Ps} {d : Int} {kvs : List (List Key × V)} (hU : nds.Pairwise J2D) (hl : ods.length = nds.length) (hkv : ∀ n z,(n,z) ∈ nds.zip ods → valV kvs (kd n.day n.kind) = some (.int z)) : ∀ k ∈ mayP ks nds ls n d,valV kvs (kd d k) = some (.int (chgF nds ods d k)) := fun k hk => by
 unfold mayP at hk
 split at hk
 ·cases hk
 ·obtain ⟨m,hm,e1,e2,_⟩ := J9M (of_decide_eq_true (List.mem_filter.mp hk).2)
  obtain ⟨i,hi⟩ := List.getElem?_of_mem hm
  have hil := (List.getElem?_eq_some_iff.mp hi).1
  have ho : ods[i]? = some (ods[i]'(by omega)) := List.getElem?_eq_getElem (by omega)
  have hz : (m,ods[i]'(by omega)) ∈ nds.zip ods := List.mem_of_getElem? (List.getElem?_zip_eq_some.mpr ⟨hi,ho⟩)
  have c1 := hkv _ _ hz
  have c2 := Jdb hU hz
  rw [e1,e2] at c1 c2
  rw [c2]
  exact c1
section
variable {P : Program} {w : World} {K : PySem.W.Frag} {mg : Str → Option Value} {base : Heap} {Jg J7 J4 Ji J1 J2 Jk Jc Ja Jb Jf J9 : Addr}
local macro_rules | `(tactic| walk_at "lk") => `(tactic| first | exact J4O _ _ _ _ _ | exact J2r _ _ _ _ _ _ _ _ | exact J3R _ _ _ _ _ _ _ _ | exact Jat _ _ _ _ _ _ _ _ | exact Jdk _ _ _ _ _ _ _ _ | exact J9L _ _ | exact JbR _ _)
theorem J60 (tx : Tx K mg Jg J7 J4 Ji J1 J2 Jk Jc Ja Jb Jf J9) : FnG P w K mg base "floor_of_need" 1 ["need","price"] Jcc := by
 refine tx.J61.g J51 (fun _ _ _ _ _ _ us hl => match us,hl with | [_,_],_ => rfl) (fun vs H Q E h => ?_) (fun f cdv A outer s H vs Q E hr h => ?_)
 ·obtain ⟨t,n,z,rfl,_⟩ := h
  rfl
 ·obtain ⟨t,n,z,rfl,⟨t',e,ht⟩,hl,hm,q⟩ := h
  cases e
  refine ⟨_,(Jh (Jv (Ju (J82 rfl) rfl tx.J5N J8L (J0 (Jl J1P (pv 1) (Jo (JC (K := K) rfl) (pv 0) J8 (fun _ _ => rfl))) (J0 (Jl J1P (pv 1) (Jo (JC (K := K) rfl) (pv 0) J8 (fun _ _ => rfl))) J5))))),?_⟩
  walk_at "st"
  have b2 : atI [V.int n.day,T [n.kind],.int n.least,.int n.most] 2 = some (.int n.least) := by simp [atI,ixN]
  have b3 : atI [V.int n.day,T [n.kind],.int n.least,.int n.most] 3 = some (.int n.most) := by simp [atI,ixN]
  have c1 : CMul z n.least := .inr hl
  have c2 : CMul z n.most := .inr hm
  walk_at "rd"
  exact q
theorem Jbi (tx : Tx K mg Jg J7 J4 Ji J1 J2 Jk Jc Ja Jb Jf J9) : FnG P w K mg base "charges_by_place" 1 ["house","prices"] (Jey J7 J4) := by
 refine tx.J4k.g J0Y (fun _ _ _ _ _ _ us hl => match us,hl with | [_,_],_ => rfl) (fun vs H Q E h => ?_) (fun f cdv A outer s H vs Q E hr h => ?_)
 ·obtain ⟨h,pl,dd,ks,nds,ps,ls,ods,rfl,_⟩ := h
  rfl
 ·obtain ⟨h,pl,dd,ks,nds,ps,ls,ods,rfl,⟨a1,a2,a3,a4,a5,a6,xs,ys,zs,ws,⟨dx,h1⟩,h2,h3,_⟩,hpl,hU,hn21,hol,q⟩ := h
  refine ⟨_,(J6 (Jq (i := 2) J0Y.nd rfl (Or.inl rfl) Jcr)
   (J6 (J0G PassesOwn.never rfl (J4W (K := K) rfl rfl tx.J42 (J0 (Jt (K := K) rfl (pv 0) rfl) (J0 (pv 1) J5))) (J2C rfl (JE (Jm (i := 3) J0Y.nd rfl (Or.inl rfl)) (JE (Jm (i := 4) J0Y.nd rfl (Or.inl rfl)) J1z))) (Jh (JdM (J86 hr) (pv 2) (J0t (J0 (Jo (JC (K := K) rfl) (pv 3) J8 (fun _ _ => rfl)) (J0 (Jo (JC (K := K) rfl) (pv 3) J8 (fun _ _ => rfl)) J5))) (pv 4) rfl)))
   (Jh (Jv (pv 2))))),?_⟩
  walk_at "st"
  have cH := tx.JN.cl
  have nH := tx.J0j
  have hxl := h3.len
  walk_at "rd"
  intro D nD
  have s1 : Same H (upd H D (.dT [])) := JB nD _
  have h11 := s1 _ _ h1
  have h21 := s1 _ _ h2
  have hpl1 := s1 _ _ hpl
  have yD : upd H D (.dT []) D = some (.dT []) := Jd
  generalize upd H D (.dT []) = H1 at s1 h11 h21 hpl1 yD ⊢
  walk_at "rd"
  refine J9N (K := K) (xs := xs) (ys := ods.map V.int) (fun i σ H2 => Here (∃ v1 v2 kvs,σ = [some (.ref h),some (.ref pl),some (.ref D),v1,v2] ∧ Same H H2 ∧ H2 D = some (.dT kvs) ∧ kvs.length ≤ i ∧ ∀ (j : Nat) (n : Nd) (z : Int),j < i → nds[j]? = some n → ods[j]? = some z → valV kvs (kd n.day n.kind) = some (.int z))) (Here.mk ⟨none,none,[],rfl,s1,yD,Nat.le_refl _,fun j n z hj => absurd hj (Nat.not_lt_zero _)⟩) (fun i σ H2 _ _ hv => by obtain ⟨_,_,_,_,s2,_⟩ := hv.out; exact ⟨SqL.of (s2 _ _ h2),SqL.of (s2 _ _ hpl)⟩) ?_ ?_
  ·rintro i x y p σ H2 hx hy hp hv
   obtain ⟨v1,v2,kvs,rfl,s2,yD2,hkl,hk⟩ := hv.out
   obtain ⟨n,hn,t,rfl,ht⟩ := h3.back hx
   obtain ⟨z,hz,rfl⟩ : ∃ z,ods[i]? = some z ∧ y = .int z := by
    rw [List.getElem?_map] at hy
    cases h : ods[i]? with
    | none => rw [h] at hy; cases hy
    | some cc => rw [h] at hy; exact ⟨cc,rfl,(Option.some.inj hy).symm⟩
   have hin := (List.getElem?_eq_some_iff.mp hn).1
   obtain ⟨H3,e3,yp,s3⟩ := newt (xs := [V.ref t,V.int z]) hp
   rw [← e3]
   have ht3 := s3 _ _ (s2 _ _ ht)
   have yD3 := s3 _ _ yD2
   have b0 : atI [V.int n.day,T [n.kind],.int n.least,.int n.most] 0 = some (.int n.day) := by simp [atI,ixN]
   have b1 : atI [V.int n.day,T [n.kind],.int n.least,.int n.most] 1 = some (T [n.kind]) := by simp [atI,ixN]
   walk_at "rd"
   intro t2 ft2
   obtain ⟨H4,e4,yt2,s4⟩ := newt (xs := [V.int n.day,T [n.kind]]) ft2
   rw [← e4]
   have yD4 := s4 _ _ yD3
   refine ⟨D,_,rfl,DPut.t (k := kd n.day n.kind) yD4 yt2 (Nat.lt_of_le_of_lt (show kvs.length ≤ 20 by omega) (by decide)),?_⟩
   refine Here.mk ⟨_,_,putK kvs (kd n.day n.kind) (.int z),rfl,(((s2.trans s3).trans s4)).upd nD,Jd,Nat.le_trans (J3P _ _ _) (by omega),fun j m z' hj hm hz' => ?_⟩
   rw [JcD]
   by_cases e : j = i
   ·subst e
    rw [hn] at hm
    cases hm
    rw [hz] at hz'
    cases hz'
    rw [if_pos rfl]
   ·have hji : j < i := by omega
    have hjn := (List.getElem?_eq_some_iff.mp hm).1
    have ha := List.pairwise_iff_getElem.mp hU j i hjn hin hji
    rw [(List.getElem?_eq_some_iff.mp hm).2,(List.getElem?_eq_some_iff.mp hn).2] at ha
    rw [if_neg fun z => ha (JeM z)]
    exact hk j m z' hji hm hz'
  ·rintro i σ H2 hi hv
   obtain ⟨v1,v2,kvs,rfl,s2,yD2,hkl,hk⟩ := hv.out
   rw [List.length_map] at hi
   have hi' : i = nds.length := by omega
   walk_at "rd"
   refine q D H2 kvs nD s2 yD2 fun n z hnz => ?_
   obtain ⟨j,hj⟩ := List.getElem?_of_mem hnz
   obtain ⟨j1,j2⟩ := List.getElem?_zip_eq_some.mp hj
   exact hk j n z (by have := (List.getElem?_eq_some_iff.mp j1).1; omega) j1 j2
theorem J4B (tx : Tx K mg Jg J7 J4 Ji J1 J2 Jk Jc Ja Jb Jf J9) : FnG P w K mg base "floor_of_counts" 2 ["house","costs","p","price"] (JdB P w K mg base J7 J4) := by
 refine tx.J4J.g J2H (fun _ _ _ _ _ _ us hl => match us,hl with | [_,_,_,_],_ => rfl) (fun vs H Q E h => ?_) (fun f cdv A outer s H vs Q E hr h => ?_)
 ·obtain ⟨h,c,p,z,dd,ks,nds,ps,ls,f,g,n,rfl,_⟩ := h
  rfl
 ·obtain ⟨h,c,p,z,dd,ks,nds,ps,ls,f,g,n,rfl,⟨a1,a2,a3,a4,a5,a6,xs,ys,zs,ws,⟨dx,h1⟩,h2,h3,h4,h5,_⟩,hC,hp0,hn,m0,m6,q⟩ := h
  refine ⟨_,(J6 (Jq (i := 4) J2H.nd rfl (Or.inl rfl) (Jt (K := K) rfl (Jo (Jy (K := K) rfl) (Jt (K := K) rfl (pv 0) rfl) (pv 2) (fun _ _ => rfl)) rfl))
   (Jh (Jv (Ju (J7T (K := K) rfl rfl) rfl tx.J5N J8L (J0 (JP (osc := J3 J07) (ON := ["house","costs","p","price","most"]) (N := ["many","p","price","costs"]) (js := [none,some 2,some 3,some 1]) ⟨rfl,by decide +kernel,by decide +kernel,by decide +kernel,rfl,by decide +kernel⟩ rfl rfl rfl (J03 rfl tx.J0i (J0 (Jl J00 (pv 4) J8) J5)) (fun _ _ _ _ _ => Jm (i := 0) (show List.Nodup (["many","p","price","costs"] : List Str) from by decide +kernel) rfl (Or.inl rfl)) (fun _ _ _ _ _ => J0b) (fun _ _ _ _ _ => (Jl J3M (J2s (P := P) (w := w) (K := K) (mg := mg) (base := base) hr (pv 3) (J0 (pv 1) (J0 (pv 0) J5)) rfl rfl rfl rfl rfl) (Jl J1P (pv 2) (pv 0))))) J5))))),?_⟩
  walk_at "st"
  have cH := tx.JN.cl
  have nH1 := tx.JG
  have cP := tx.J0n.cl
  have nP1 := tx.J0u
  obtain ⟨y,hy,pa,rfl,dxp,hp⟩ := h5.get hn
  have hix : atI ys p = some (.ref pa) := by have := J01 hy; rwa [Int.toNat_of_nonneg hp0] at this
  have hpn := (List.getElem?_eq_some_iff.mp hn).1
  walk_at "rd"
  refine JF (List.range (n.most + 1).toNat) (fun _ => true) (fun (i : Nat) y _ => y = .int (f p (0 + (i : Int)) - z * (0 + (i : Int)))) (fun σ => ∃ v,σ = [v,some (.int p),some (.int z),some (.ref c)]) (J1O 0 (n.most + 1).toNat) (by rw [List.length_map]) (by rw [List.length_range]; omega) ⟨_,rfl⟩ (fun _ _ _ _ _ z => z) (fun i a v σ H' ha hv hσ s' Rf Rt _ hR => ?_) (fun D H2 us nD s2 hus hD => ?_)
  ·obtain ⟨w1,rfl⟩ := hσ
   rw [List.getElem?_map,ha] at hv
   cases hv
   obtain ⟨ea,hal⟩ := J2R ha
   obtain ⟨C,dxc,fs,ps1,ps2,sp1,sp2,hc,l1,l2,M1,M2,A1,A2⟩ := hC.same s'
   have k1 : 1 ≤ 1 := Nat.le_refl _
   have AA := A1 p (0 + (a : Int)) hp0 (by omega) (by omega) (by omega)
   have cm : CMul z (0 + (a : Int)) := .inr ⟨by omega,by omega⟩
   walk_at "rd"
   refine AA _ _ (Same.refl _) fun H3 s3 => ?_
   walk_at "rd"
   exact hR _ _ _ rfl ⟨_,rfl⟩ s3 rfl
  rw [List.filter_eq_self.mpr fun _ _ => rfl] at hus
  have eu : us = (cntL f z p n.most).map V.int := by
   unfold cntL
   rw [List.map_map]
   exact hus.eqmap fun a y h => h
  rw [eu] at hD
  have hq : SqL K H2 D ((cntL f z p n.most).map V.int) := SqL.of hD
  have hl : 0 < (cntL f z p n.most).length := by
   unfold cntL
   rw [List.length_map,List.length_range]
   omega
  walk_at "rd"
  refine fun M m1 m2 => ?_
  have := q H2 s2
  rw [Ja4.eq ⟨m1,m2⟩] at this
  exact this
theorem J6y (tx : Tx K mg Jg J7 J4 Ji J1 J2 Jk Jc Ja Jb Jf J9) : FnG P w K mg base "floor_of_day" 3 ["house","costs","p","day","price","charges"] (Jdr P w K mg base J7 J4) := by
 have J9i := Jef (P := P) (w := w) (base := base) tx
 refine tx.J6V.g J2A (fun _ _ _ _ _ _ us hl => match us,hl with | [_,_,_,_,_,_],_ => rfl) (fun vs H Q E h => ?_) (fun f cdv A outer s H vs Q E hr h => ?_)
 ·obtain ⟨h,c,D,p,d,z,dd,ks,nds,ps,ls,f,g,n,kvs,ch,rfl,_⟩ := h
  rfl
 ·obtain ⟨h,c,D,p,d,z,dd,ks,nds,ps,ls,f,g,n,kvs,ch,rfl,hK,hC,hp0,hn,d0,d1,hkl,hD,hch,q⟩ := h
  refine ⟨_,(J6 (Jq (i := 6) J2A.nd rfl (Or.inl rfl) (J71 J9i (hr.mono (by decide)) (pv 0) (J0 (pv 2) (J0 (pv 3) J5))))
   (J6 (J3o (k := 7) (osc := J3 J0D) (ON := ["house","costs","p","day","price","charges","kinds","duties"]) (N := ["kind","price","charges","p","day","costs"]) (js := [none,some 4,some 5,some 2,some 3,some 1]) J2A.nd rfl (Or.inl rfl) ⟨rfl,by decide +kernel,by decide +kernel,by decide +kernel,rfl,by decide +kernel⟩ rfl rfl rfl (J5E (pv 6)) (fun _ _ _ _ _ => Jm (i := 0) (show List.Nodup (["kind","price","charges","p","day","costs"] : List Str) from by decide +kernel) rfl (Or.inl rfl)) (fun _ _ _ _ _ => J0b) (fun _ _ _ _ _ => (Jl J3M (Jl J00 (J2s (P := P) (w := w) (K := K) (mg := mg) (base := base) hr (pv 5) (J0 (pv 3) (J0 (pv 4) (J0 (pv 0) J5))) rfl rfl rfl rfl rfl) (pv 1)) (JdS (J86 hr) (pv 2) (J0t (J0 (pv 4) (J0 (pv 0) J5))) (fun _ _ => rfl)))))
   (Jh (Jv (Ju (J7T (K := K) rfl rfl) rfl tx.J5N J8L (J0 (Jl Jfp (J0X (J0 (J2s (P := P) (w := w) (K := K) (mg := mg) (base := base) hr (pv 1) (J0 (pv 2) (J0 (pv 3) (J0 (JU (l := [45]) (by decide +kernel)) J5))) rfl rfl rfl rfl rfl) J5)) (pv 7)) J5)))))),?_⟩
  walk_at "st"
  clear J9i
  have hpn := (List.getElem?_eq_some_iff.mp hn).1
  have hml := Je2 ks nds ls n d
  obtain ⟨dxh,hh⟩ : ∃ a1 a2 a3 a4 a5 a6 dxh,H h = some (.ins J4 dxh (fH (.int dd) (T ks) (.ref a1) (.ref a2) (.ref a3) (.ref a4) (.ref a5) (.ref a6))) := by
   obtain ⟨a1,a2,a3,a4,a5,a6,xs,ys,zs,ws,⟨dx,h1⟩,_⟩ := hK
   exact ⟨a1,a2,a3,a4,a5,a6,dx,h1⟩
  obtain ⟨a2,a3,a4,a5,a6,dxx,h1⟩ := hh
  walk_at "rd"
  intro H1 s1
  generalize mayP ks nds ls n d = ms at hml hch q ⊢
  have hD1 := s1 _ _ hD
  walk_at "rd"
  refine JF ms (fun _ => true) (fun (k : Nat) y _ => y = .int (g p d k + z - ch k)) (fun σ => ∃ v,σ = [v,some (.int z),some (.ref D),some (.int p),some (.int d),some (.ref c)]) (J3Z ms) (by rw [List.length_map]) (by omega) ⟨_,rfl⟩ (fun _ _ _ _ _ z => z) (fun i k v σ H' hk hv hσ s' Rf Rt _ hR => ?_) (fun D2 H2 us nD s2 hus hD2 => ?_)
  ·obtain ⟨w1,rfl⟩ := hσ
   rw [List.getElem?_map,hk] at hv
   cases hv
   obtain ⟨C,dxc,fs,ps1,ps2,sp1,sp2,hc,l1,l2,M1,M2,A1,A2⟩ := hC.same (s1.trans s')
   have k1 : 1 ≤ 2 := by decide
   have AA := A2 p d k hp0 (by omega) d0 d1
   walk_at "rd"
   refine AA _ _ (Same.refl _) fun H3 s3 => ?_
   have hD3 := s3 _ _ (s' _ _ hD1)
   walk_at "rd"
   intro t ft
   obtain ⟨H4,e4,yt,s4⟩ := newt (xs := [V.int d,T [k]]) ft
   rw [← e4]
   refine ⟨D,.int (ch k),rfl,?_,?_⟩
   ·rw [← hch k (List.mem_of_getElem? hk)]
    exact DGet.t (k := kd d k) (s4 _ _ hD3) yt
   ·walk_at "rd"
    exact hR _ _ _ rfl ⟨_,rfl⟩ (s3.trans s4) rfl
  rw [List.filter_eq_self.mpr fun _ _ => rfl] at hus
  have eu : us = (ms.map fun k => g p d k + z - ch k).map V.int := by
   rw [List.map_map]
   exact hus.eqmap fun a y h => h
  rw [eu] at hD2
  obtain ⟨C,dxc,fs,ps1,ps2,sp1,sp2,hc,l1,l2,M1,M2,A1,A2⟩ := hC.same (s1.trans s2)
  have k1 : 1 ≤ 2 := by decide
  have AA := A2 p d 45 hp0 (by omega) d0 d1
  walk_at "rd"
  refine AA _ _ (Same.refl _) fun H3 s3 => ?_
  have hD3 := s3 _ _ hD2
  walk_at "rd"
  intro l4 f4
  obtain ⟨H4,e4,y4,s4⟩ := newl (xs := [V.int (g p d 45)]) f4
  rw [← e4]
  have hD4 := s4 _ _ hD3
  walk_at "rd"
  intro l5 f5
  obtain ⟨H5,e5,y5,s5⟩ := newl (xs := [V.int (g p d 45)] ++ (ms.map fun k => g p d k + z - ch k).map V.int) f5
  rw [← e5]
  have hq : SqL K H5 l5 ((dayL g p d z ms ch).map V.int) := SqL.of y5
  have hl : 0 < (dayL g p d z ms ch).length := Nat.succ_pos _
  walk_at "rd"
  refine fun M m1 m2 => ?_
  have := q H5 ((((s1.trans s2).trans s3).trans s4).trans s5)
  rw [Ja4.eq ⟨m1,m2⟩] at this
  exact this
theorem J7t (tx : Tx K mg Jg J7 J4 Ji J1 J2 Jk Jc Ja Jb Jf J9) : MtG P w K mg base Ja "__init__" 1 ["self","persons","needs"] (J7R Ja) := by
 refine tx.J7x.g tx.J3F.cl J6X (fun _ _ _ _ _ _ us hl => match us,hl with | [_,_,_],_ => rfl) (fun vs H Q E h => ?_) (fun f cdv A outer s H vs Q E hr h => ?_)
 ·obtain ⟨p,dx,l1,l2,xs,ys,rfl,_⟩ := h
  rfl
 ·obtain ⟨p,dx,l1,l2,xs,ys,rfl,hp,h1,h2,q⟩ := h
  refine ⟨_,(J6 (J0s (pv 0) (JX JI rfl tx.J13 JT (J0 (pv 1) J5)) rfl)
   (Jh (J0s (pv 0) (JX JI rfl tx.J13 JT (J0 (pv 2) J5)) rfl))),?_⟩
  walk_at "st"
  have cE := tx.J3F.cl
  have n1 := tx.J0v
  have n2 := tx.J0Z
  have z0 : ([] : List (Str × V)).length < 1000 := by decide
  have I1 : SqL K H l1 xs ∨ SqT K H l1 xs := .inl (SqL.of h1)
  walk_at "rd"
  intro a1 f1
  obtain ⟨H1,e1,y1,s1⟩ := newl (xs := xs) f1
  rw [← e1]
  have hp1 := s1 _ _ hp
  have nl2 : l2 ≠ p := Jb5 h2 hp (fun z => by cases z)
  have na1 : a1 ≠ p := (Je hp f1).symm
  have h21 : upd H1 p (.ins Ja dx (putF "persons" (.ref a1) [])) l2 = some (.lst ys) := by rw [Jj nl2]; exact s1 _ _ h2
  have I2 : SqL K (upd H1 p (.ins Ja dx (putF "persons" (.ref a1) []))) l2 ys ∨ SqT K (upd H1 p (.ins Ja dx (putF "persons" (.ref a1) []))) l2 ys := .inl (SqL.of h21)
  have y11 : upd H1 p (.ins Ja dx (putF "persons" (.ref a1) [])) a1 = some (.lst xs) := by rw [Jj na1]; exact y1
  walk_at "rd"
  have B1 : But p H (upd H1 p (.ins Ja dx (putF "persons" (.ref a1) []))) := ((But.refl p H).same s1).at
  have hpp : upd H1 p (.ins Ja dx (putF "persons" (.ref a1) [])) p = some (.ins Ja dx (putF "persons" (.ref a1) [])) := Jd
  have hfr : ∀ a,upd H1 p (.ins Ja dx (putF "persons" (.ref a1) [])) a = none → H a = none := fun a e => by
   have na : a ≠ p := fun z => by rw [z,Jd] at e; cases e
   rw [Jj na] at e
   exact s1.free e
  generalize upd H1 p (.ins Ja dx (putF "persons" (.ref a1) [])) = H2 at h21 y11 B1 hpp hfr ⊢
  intro a2 f2
  obtain ⟨H3,e3,y3,s3⟩ := newl (xs := ys) f2
  rw [← e3]
  have hp3 := s3 _ _ hpp
  have y13 := s3 _ _ y11
  have na2 : a2 ≠ p := (Je hpp f2).symm
  have z1 : (putF "persons" (.ref a1) []).length < 1000 := by show 1 < 1000; decide
  walk_at "rd"
  refine q _ a1 a2 ((B1.same s3).at) ?_ ?_ ?_ f1 (hfr _ f2)
  ·rw [Jd,JfZ]
  ·rw [Jj na1]; exact y13
  ·rw [Jj na2]; exact y3
theorem JdA (tx : Tx K mg Jg J7 J4 Ji J1 J2 Jk Jc Ja Jb Jf J9) : MtG P w K mg base Ja "floor" 4 ["self","house","costs"] (Jbh P w K mg base J7 J4 Ja) := by
 have J3w := J60 (P := P) (w := w) (base := base) tx
 have J2O := Jbi (P := P) (w := w) (base := base) tx
 have J2T := J4B (P := P) (w := w) (base := base) tx
 have J3I := J6y (P := P) (w := w) (base := base) tx
 refine tx.J6C.g tx.J3F.cl J0r (fun _ _ _ _ _ _ us hl => match us,hl with | [_,_,_],_ => rfl) (fun vs H Q E h => ?_) (fun f cdv A outer s H vs Q E hr h => ?_)
 ·obtain ⟨pp,h,c,a,b,dx,dd,ks,nds,ps,ls,f,g,prs,ods,rfl,_⟩ := h
  rfl
 ·obtain ⟨pp,h,c,a,b,dx,dd,ks,nds,ps,ls,f,g,prs,ods,rfl,hpp,ha,hb,hK,hC,hU,hn21,hsm,hp5,hps,hk3,dd0,dd7,q⟩ := h
  refine ⟨_,(J6 (J0E (PW.pt (J3z (Js J2U (Ju (JD (K := K) rfl) rfl tx.J0g PySem.boot_len (J0 (Jt (K := K) rfl (pv 0) rfl) J5)) (Ju (JD (K := K) rfl) rfl tx.J0g PySem.boot_len (J0 (Jt (K := K) rfl (pv 1) rfl) J5)) (Jw _)) (J3p (Js J2U (Ju (JD (K := K) rfl) rfl tx.J0g PySem.boot_len (J0 (Jt (K := K) rfl (pv 0) rfl) J5)) (Ju (JD (K := K) rfl) rfl tx.J0g PySem.boot_len (J0 (Jt (K := K) rfl (pv 1) rfl) J5)) (Jw _))))) (Jh (Jv J8)) JK)
   (J6 (Jq (i := 3) J0r.nd rfl (Or.inl rfl) (Ju (J3e (K := K) rfl rfl) rfl tx.J4H J7b (J0 (JP (osc := J3 J0l) (ON := ["self","house","costs","total","charges","p","price"]) (N := ["need","price"]) (js := [none,none]) ⟨rfl,by decide +kernel,by decide +kernel,by decide +kernel,rfl,by decide +kernel⟩ rfl rfl rfl (J4W (K := K) rfl rfl tx.J42 (J0 (Jt (K := K) rfl (pv 1) rfl) (J0 (Jt (K := K) rfl (pv 0) rfl) J5))) (fun _ _ _ _ _ => J3S (K := K) (i := 0) (j := 1) rfl rfl (show List.Nodup (["need","price"] : List Str) from by decide +kernel) rfl rfl (Or.inl rfl) (Or.inl rfl)) (fun _ _ _ _ _ => J0b) (fun _ _ _ _ _ => (JO J3w (hr.mono (by decide)) (J0 (pv 0) (J0 (pv 1) J5))))) J5)))
   (J6 (Jq (i := 4) J0r.nd rfl (Or.inr rfl) (JO J2O (hr.mono (by decide)) (J0 (pv 1) (J0 (Jt (K := K) rfl (pv 0) rfl) J5))))
   (J6 (J0G PassesOwn.never rfl (J2F (K := K) rfl rfl tx.J0m (J0 (Jt (K := K) rfl (pv 0) rfl) J5)) (J2C rfl (JE (Jm (i := 5) J0r.nd rfl (Or.inr rfl)) (JE (Jm (i := 6) J0r.nd rfl (Or.inr rfl)) J1z))) (J6 (J2S (i := 3) J0r.nd rfl (Or.inl rfl) (JO J2T (hr.mono (by decide)) (J0 (pv 1) (J0 (pv 2) (J0 (pv 5) (J0 (pv 6) J5))))) J8Z)
   (Jh (J2S (i := 3) J0r.nd rfl (Or.inl rfl) (Ju (J3e (K := K) rfl rfl) rfl tx.J4H J7b (J0 (JP (osc := J3 J0l) (ON := ["self","house","costs","total","charges","p","price"]) (N := ["day","house","costs","p","price","charges"]) (js := [none,some 1,some 2,some 5,some 6,some 4]) ⟨rfl,by decide +kernel,by decide +kernel,by decide +kernel,rfl,by decide +kernel⟩ rfl rfl rfl (J03 rfl tx.J0i (J0 (Jt (K := K) rfl (pv 1) rfl) J5)) (fun _ _ _ _ _ => Jm (i := 0) (show List.Nodup (["day","house","costs","p","price","charges"] : List Str) from by decide +kernel) rfl (Or.inl rfl)) (fun _ _ _ _ _ => J0b) (fun _ _ _ _ _ => (JO J3I (hr.mono (by decide)) (J0 (pv 1) (J0 (pv 2) (J0 (pv 3) (J0 (pv 0) (J0 (pv 4) (J0 (pv 5) J5))))))))) J5)) J8Z))))
   (Jh (Jv (pv 3))))))),?_⟩
  walk_at "st"
  clear J3w J2O J2T J3I
  obtain ⟨a1,a2,a3,a4,a5,a6,xs,ys,zs,ws,⟨dxh,h1⟩,h2,h3,h4,h5,h6,h7,h8⟩ := id hK
  have cH := tx.JN.cl
  have nH1 := tx.JG
  have nH2 := tx.J0j
  have nH3 := tx.J1d
  have cE := tx.J3F.cl
  have n1 := tx.J0v
  have n2 := tx.J0Z
  have lx := h3.len
  have ly := h5.len
  have lp : (prs.map V.int).length = prs.length := List.length_map _
  have lo : (ods.map V.int).length = ods.length := List.length_map _
  walk_at "rd"
  rw [lp,ly]
  refine ite2 (fun e => ?_) (fun e => ?_)
  ·have e' : ¬ prs.length = ps.length := fun z => by rw [z] at e; simp at e
   walk_at "rd"
   have := q H (Same.refl _)
   rw [if_neg fun z => e' z.1] at this
   exact this
  have e1' : prs.length = ps.length := by
   have : ((prs.length : Nat) : Int) = ((ps.length : Nat) : Int) := by simpa using e
   omega
  walk_at "rd"
  rw [lo,lx]
  refine ite2 (fun e => ?_) (fun e => ?_)
  ·have e' : ¬ ods.length = nds.length := fun z => by rw [z] at e; simp at e
   walk_at "rd"
   have := q H (Same.refl _)
   rw [if_neg fun z => e' z.2] at this
   exact this
  have e2' : ods.length = nds.length := by
   have : ((ods.length : Nat) : Int) = ((nds.length : Nat) : Int) := by simpa using e
   omega
  have q' : ∀ H',Same H H' → Q (.int (J8P f g dd ks nds ps ls prs ods)) H' := fun H' s' => by have := q H' s'; rwa [if_pos ⟨e1',e2'⟩] at this
  clear q
  walk_at "rd"
  refine J72 (nds.zip ods) (fun _ => true) (fun a y _ => y = V.int (ndM a)) (fun σ => ∃ v1 v2,σ = [v1,v2]) (SqL.of h2) (SqL.of hb) (by rw [List.length_zip]; omega) (by rw [List.length_map,List.length_zip]; omega) (by rw [List.length_zip]; omega) ⟨_,_,rfl⟩ (fun _ _ _ _ _ z => z) (fun i x u v p σ H' hx hu hv hσ s' hp Rf Rt _ hR => ?_) (fun D1 H1 us nD1 s1 hus hD1 => ?_)
  ·obtain ⟨v1,v2,rfl⟩ := hσ
   obtain ⟨x1,x2⟩ := List.getElem?_zip_eq_some.mp hx
   obtain ⟨n,hn,t,rfl,ht⟩ := h3.back hu
   rw [x1] at hn
   cases hn
   rw [List.getElem?_map,x2] at hv
   cases hv
   obtain ⟨b1,b2⟩ := hsm x.1 (List.mem_of_getElem? x1)
   obtain ⟨H3,e3,yp,s3⟩ := newt (xs := [V.ref t,V.int x.2]) hp
   have e3' : upd H' p (.tup [V.ref t,V.int x.2]) = H3 := e3.symm
   rw [e3']
   have hN : NdAt x.1 (.ref t) H3 := ⟨t,rfl,s3 _ _ (s' _ _ ht)⟩
   walk_at "rd"
   exact hR _ _ _ rfl ⟨_,_,rfl⟩ s3 rfl
  rw [List.filter_eq_self.mpr fun _ _ => rfl] at hus
  have eu : us = ((nds.zip ods).map ndM).map V.int := by
   rw [List.map_map]
   exact hus.eqmap fun a y h => h
  rw [eu] at hD1
  have hq1 : SqL K H1 D1 (((nds.zip ods).map ndM).map V.int) := SqL.of hD1
  have hK1 := hK.same s1
  have hpp1 := s1 _ _ hpp
  have hb1 := s1 _ _ hb
  have hF : J8P f g dd ks nds ps ls prs ods = ((nds.zip ods).map ndM).sum + ((List.range ps.length).map fun (i : Nat) => perM f g dd ks nds ls ods (ps.getD i dft) (i : Int) (prs.getD i 0)).sum := rfl
  generalize ((nds.zip ods).map ndM) = ns at hq1 hD1 hF
  walk_at "rd"
  intro D H2 kvs nD s2 hD hkv
  have S2 := s1.trans s2
  have hpp2 := S2 _ _ hpp
  have ha2 := S2 _ _ ha
  have qa2 : SqL K H2 a (prs.map V.int) := SqL.of ha2
  clear hus eu hD1 hq1 hpp1 hb1 hK1
  walk_at "rd"
  refine J3f (K := K) (xs := prs.map V.int) (fun i σ H3 => Here (∃ v5 v6,σ = [some (.ref pp),some (.ref h),some (.ref c),some (.int (ns.sum + ((List.range i).map fun (i : Nat) => perM f g dd ks nds ls ods (ps.getD i dft) (i : Int) (prs.getD i 0)).sum)),some (.ref D),v5,v6] ∧ Same H2 H3)) (Here.mk ⟨_,_,by rw [List.range_zero,List.map_nil,List.sum_nil,Int.add_zero],Same.refl _⟩) (fun i σ H3 _ hv => by obtain ⟨_,_,_,s3⟩ := hv.out; exact SqL.of (s3 _ _ ha2)) ?_ ?_
  ·rintro i x p σ H3 hx hp hv
   obtain ⟨v5,v6,rfl,s3⟩ := hv.out
   obtain ⟨z,hz,rfl⟩ : ∃ z,prs[i]? = some z ∧ x = .int z := by
    rw [List.getElem?_map] at hx
    cases h : prs[i]? with
    | none => rw [h] at hx; cases hx
    | some cc => rw [h] at hx; exact ⟨cc,rfl,(Option.some.inj hx).symm⟩
   have hil := (List.getElem?_eq_some_iff.mp hz).1
   have hn : ps[i]? = some (ps[i]'(by omega)) := List.getElem?_eq_getElem (by omega)
   generalize ps[i]'(by omega) = n at hn
   obtain ⟨m0,m6⟩ := hps n (List.mem_of_getElem? hn)
   have hnn : ps[((i : Nat) : Int).toNat]? = some n := by rw [Int.toNat_natCast]; exact hn
   have i0 : (0 : Int) ≤ ((i : Nat) : Int) := by omega
   have stp : ns.sum + ((List.range i).map fun (i : Nat) => perM f g dd ks nds ls ods (ps.getD i dft) (i : Int) (prs.getD i 0)).sum + minI (cntL f z (i : Int) n.most) + ((List.range dd.toNat).map fun (j : Nat) => dayM g ks nds ls ods n (i : Int) z (0 + (j : Int))).sum = ns.sum + ((List.range (i + 1)).map fun (i : Nat) => perM f g dd ks nds ls ods (ps.getD i dft) (i : Int) (prs.getD i 0)).sum := by
    rw [List.range_succ,List.map_append,List.sum_append,List.map_singleton,List.sum_singleton,List.getD_eq_getElem?_getD,List.getD_eq_getElem?_getD,hn,hz]
    show _ = _ + (_ + perM f g dd ks nds ls ods n (i : Int) z)
    unfold perM
    omega
   generalize ((List.range i).map fun (i : Nat) => perM f g dd ks nds ls ods (ps.getD i dft) (i : Int) (prs.getD i 0)).sum = S0 at stp ⊢
   generalize ((List.range (i + 1)).map fun (i : Nat) => perM f g dd ks nds ls ods (ps.getD i dft) (i : Int) (prs.getD i 0)).sum = S1 at stp ⊢
   obtain ⟨H4,e4,yp,s4⟩ := newt (xs := [V.int (i : Nat),V.int z]) hp
   have e4' : upd H3 p (.tup [V.int (i : Nat),V.int z]) = H4 := e4.symm
   rw [e4']
   have S4 := (S2.trans s3).trans s4
   have hK4 := hK.same S4
   have hC4 := hC.same S4
   walk_at "rd"
   intro H5 s5
   have S5 := S4.trans s5
   have h15 := S5 _ _ h1
   walk_at "rd"
   refine JF (List.range dd.toNat) (fun _ => true) (fun (j : Nat) y _ => y = .int (dayM g ks nds ls ods n (i : Int) z (0 + (j : Int)))) (fun σ => ∃ v,σ = [v,some (.ref h),some (.ref c),some (.int (i : Int)),some (.int z),some (.ref D)]) (J1O 0 dd.toNat) (by rw [List.length_map]) (by rw [List.length_range]; omega) ⟨_,rfl⟩ (fun _ _ _ _ _ z => z) (fun j0 j v σ H' hj hv hσ s' Rf Rt _ hR => ?_) (fun D6 H6 us nD6 s6 hus hD6 => ?_)
   ·obtain ⟨w1,rfl⟩ := hσ
    rw [List.getElem?_map,hj] at hv
    cases hv
    obtain ⟨ej,hjl⟩ := J2R hj
    have S6 := S5.trans s'
    have hK6 := hK.same S6
    have hC6 := hC.same S6
    have hD' := ((s3.trans s4).trans (s5.trans s')) _ _ hD
    have hch := JdQ (ks := ks) (ls := ls) (n := n) (d := 0 + (j : Int)) hU e2' hkv
    have j0' : (0 : Int) ≤ 0 + (j : Int) := by omega
    have j1' : 0 + (j : Int) < dd := by omega
    walk_at "rd"
    intro H7 s7
    exact hR _ _ _ rfl ⟨_,rfl⟩ s7 rfl
   rw [List.filter_eq_self.mpr fun _ _ => rfl] at hus
   have eu : us = ((List.range dd.toNat).map fun (j : Nat) => dayM g ks nds ls ods n (i : Int) z (0 + (j : Int))).map V.int := by
    rw [List.map_map]
    exact hus.eqmap fun a y h => h
   rw [eu] at hD6
   have hq6 : SqL K H6 D6 (((List.range dd.toNat).map fun (j : Nat) => dayM g ks nds ls ods n (i : Int) z (0 + (j : Int))).map V.int) := SqL.of hD6
   walk_at "rd"
   refine Here.mk ⟨some (.int (i : Nat)),some (.int z),?_,((s3.trans s4).trans s5).trans s6⟩
   show ([some (.ref pp),some (.ref h),some (.ref c),some (.int (ns.sum + S0 + minI (cntL f z (i : Int) n.most) + ((List.range dd.toNat).map fun (j : Nat) => dayM g ks nds ls ods n (i : Int) z (0 + (j : Int))).sum)),some (.ref D),some (.int (i : Nat)),some (.int z)] : St) = _
   rw [stp]
  ·rintro σ H3 hv
   obtain ⟨v5,v6,rfl,s3⟩ := hv.out
   rw [List.length_map,e1',← hF]
   walk_at "rd"
   exact q' H3 (S2.trans s3)
end
theorem lPl (v : V) : List.lookup ("places" : Str) [(("places" : Str),v)] = some v := J1h
theorem lPf (v : V) : List.lookup ("floor" : Str) [(("places" : Str),v)] = none := by
 rw [Jx (by decide +kernel)]
 rfl
noncomputable def PlT : Int × List Nat → V → Hp → Prop := fun l y H => ∃ t,y = .ref t ∧ H t = some (.tup [.int l.1,T l.2])
theorem PlT.keeps (n : Int × List Nat) (y : V) (Ha Hb : Hp) (k : JY Ha Hb) (h : PlT n y Ha) : PlT n y Hb := let ⟨t,e,h⟩ := h; ⟨t,e,k _ _ h fun zs z => by cases z⟩
noncomputable def plI (l : Int × List Nat) : List V := [.int l.1,T l.2]
theorem Jeu {K : PySem.W.Frag} {H : Hp} : ∀ {ls : List (Int × List Nat)} {vs : List V},All2 PlT H ls vs → All2 (TpAt K) H (ls.map plI) vs
 | [],[],_ => trivial
 | l :: ls,v :: vs,h => ⟨by obtain ⟨t,e,h⟩ := h.1; exact ⟨t,e,SqT.of h,rfl⟩,Jeu h.2⟩
 | [],_ :: _,h => h.elim
 | _ :: _,[],h => h.elim
noncomputable def inP (pc : List (Int × List Nat)) (n : Nd) : Bool := (pc.map plI).any fun ys => eqVs ys [.int n.day,T [n.kind]]
structure PlOk (ks : List Nat) (nds : List Nd) (ps : List Ps) : Prop where
 k3 : ks.length ≤ 3
 n21 : nds.length ≤ 21
 p5 : ps.length ≤ 5
 u : nds.Pairwise J2D
 k : ∀ n ∈ nds,n.kind ∈ ks
noncomputable def Jdz (C1 C2 : Addr) : Sp := fun vs H Q _ => ∃ (h al : Addr) (p : Int) (dd : Int) (ks : List Nat) (nds held : List Nd) (ps : List Ps) (ls : List (List Nat × Int)) (n : Ps) (as : List V),vs = [.ref h,.int p,.ref al] ∧ Hk C1 C2 H h dd ks nds ps ls ∧ 0 ≤ p ∧ ps[p.toNat]? = some n ∧ ks.length ≤ 3 ∧ H al = some (.lst as) ∧ All2 NdAt H held as ∧ held.length ≤ 21 ∧ nds.Pairwise J2D ∧ (∀ n ∈ held,n ∈ nds ∧ n.kind ∈ ks) ∧ ∀ H',Same H H' → Q (.int (canP ls held n)) H'
noncomputable def J7S (C : Addr) : Sp := fun vs H Q _ => ∃ p dx l xs,vs = [.ref p,.ref l] ∧ H p = some (.ins C dx []) ∧ H l = some (.lst xs) ∧ ∀ H' a,But p H H' → H' p = some (.ins C dx [("places",.ref a)]) → H' a = some (.lst xs) → H a = none → Q .non H'
noncomputable def rPla (C : Addr) : List V → Hp → VK → Prop := fun vs H Q => ∃ l xs,vs = [.ref l] ∧ H l = some (.lst xs) ∧ ∀ p dx a H',Same H H' → H' p = some (.ins C dx [("places",.ref a)]) → H' a = some (.lst xs) → H a = none → Q (.ref p) H'
theorem JeI {C : Addr} : ∀ vs H Q,rPla C vs H Q → ∀ x dx,H x = none → H dx = none → dx ≠ x → J7S C (.ref x :: (vs ++ [])) (upd (upd H dx (.own x)) x (.ins C dx [])) (fun v H2 => v = .non ∧ Q (.ref x) H2) E0 := by
 rintro _ H Q ⟨l,xs,rfl,hl,q⟩ x dx nx nd _
 exact ⟨x,dx,l,xs,rfl,Jd,J2a nx nd hl,fun H' a b e e1 n1 => ⟨rfl,q x dx a H' (J2q nx nd b) e e1 (J16 n1)⟩⟩
noncomputable def Jaf (C1 C2 C3 : Addr) : Sp := fun vs H Q _ => ∃ (pp h a dx : Addr) (c : V) (dd : Int) (ks : List Nat) (nds : List Nd) (ps : List Ps) (ls : List (List Nat × Int)) (pc : List (Int × List Nat)) (as : List V),vs = [.ref pp,.ref h,c] ∧ H pp = some (.ins C3 dx [("places",.ref a)]) ∧ H a = some (.lst as) ∧ All2 PlT H pc as ∧ Hk C1 C2 H h dd ks nds ps ls ∧ PlOk ks nds ps ∧ pc.length ≤ 100 ∧
 ∀ H',Same H H' → Q (if canF ls ps (nds.filter (inP pc)) < J5z (nds.filter (inP pc)) then .non else .int 0) H'
section
variable {P : Program} {w : World} {K : PySem.W.Frag} {mg : Str → Option Value} {base : Heap} {Jg J7 J4 Ji J1 J2 Jk Jc Ja Jb Jf J9 : Addr}
local macro_rules | `(tactic| walk_at "lk") => `(tactic| first | exact J4O _ _ _ _ _ | exact J2r _ _ _ _ _ _ _ _ | exact J3R _ _ _ _ _ _ _ _ | exact Jat _ _ _ _ _ _ _ _ | exact lPl _ | exact lPf _ | exact Or.inr (SqT.of (by with_reducible assumption)))
theorem J8e (tx : Tx K mg Jg J7 J4 Ji J1 J2 Jk Jc Ja Jb Jf J9) : FnG P w K mg base "able_to_do" 3 ["house","p","asked"] (Jdz J7 J4) := by
 have J9i := Jef (P := P) (w := w) (base := base) tx
 refine tx.J8m.g J44 (fun _ _ _ _ _ _ us hl => match us,hl with | [_,_,_],_ => rfl) (fun vs H Q E h => ?_) (fun f cdv A outer s H vs Q E hr h => ?_)
 ·obtain ⟨h,al,p,dd,ks,nds,held,ps,ls,n,as,rfl,_⟩ := h
  rfl
 ·obtain ⟨h,al,p,dd,ks,nds,held,ps,ls,n,as,rfl,hs,hp0,hn,hkl,hal,aH,hhl,hU,hin,q⟩ := h
  refine ⟨_,(J6 (J3o (k := 3) (osc := J3 J1f) (ON := ["house","p","asked","days"]) (N := ["day","kind","least","most","p","house"]) (js := [none,none,none,none,some 1,some 0]) J44.nd rfl (Or.inl rfl) ⟨rfl,by decide +kernel,by decide +kernel,by decide +kernel,rfl,by decide +kernel⟩ rfl rfl rfl (JZ (K := K) rfl (pv 2)) (fun _ _ _ _ _ => J8N (K := K) (n := 4) rfl rfl (JE (Jm (i := 0) (show List.Nodup (["day","kind","least","most","p","house"] : List Str) from by decide +kernel) rfl (Or.inl rfl)) (JE (Jm (i := 1) (show List.Nodup (["day","kind","least","most","p","house"] : List Str) from by decide +kernel) rfl (Or.inl rfl)) (JE (Jm (i := 2) (show List.Nodup (["day","kind","least","most","p","house"] : List Str) from by decide +kernel) rfl (Or.inl rfl)) (JE (Jm (i := 3) (show List.Nodup (["day","kind","least","most","p","house"] : List Str) from by decide +kernel) rfl (Or.inl rfl)) J1z))))) (fun _ _ _ _ _ => J0o (Js Jah (pv 1) (J71 J9i (hr.mono (by decide)) (pv 5) (J0 (pv 4) (J0 (pv 0) J5))) rfl)) (fun _ _ _ _ _ => (pv 0)))
   (Jh (Jv (Ju (J82 rfl) rfl tx.J5N J8L (J0 (Jt (K := K) rfl (Jo (Jy (K := K) rfl) (Jt (K := K) rfl (pv 0) rfl) (pv 1) (fun _ _ => rfl)) rfl) (J0 (Ju J9G rfl tx.J0g PySem.boot_len (J0 (JX (Jbw (K := K) rfl rfl) rfl tx.J97 Jc2 (J0 (pv 3) J5)) J5)) J5)))))),?_⟩
  walk_at "st"
  clear J9i
  have hs' := hs
  obtain ⟨a1,a2,a3,a4,a5,a6,xs,ys,zs,ws0,⟨dx,h1⟩,h2,h3,h4,h5,h6,h7,h8⟩ := hs'
  have cH := tx.JN.cl
  have nH1 := tx.JG
  have cP := tx.J0n.cl
  have nP1 := tx.J0u
  obtain ⟨y,hy,pa,rfl,dxp,hp⟩ := h5.get hn
  have hix : atI ys p = some (.ref pa) := by have := J01 hy; rwa [Int.toNat_of_nonneg hp0] at this
  walk_at "rd"
  refine JF held (canB ls n) (fun m y _ => y = .int m.day) (fun σ => ∃ v1 v2 v3 v4,σ = [v1,v2,v3,v4,some (.int p),some (.ref h)]) (JL (SqL.of hal)) aH.len (by omega) ⟨_,_,_,_,rfl⟩ (fun _ _ _ _ _ z => z) (fun i m v σ H' hm hv hσ s' Rf Rt hF hR => ?_) (fun D H2 rs nD s2 hrs hD => ?_)
  ·obtain ⟨w1,w2,w3,w4,rfl⟩ := hσ
   obtain ⟨m',hm',t,rfl,ht⟩ := aH.back hv
   rw [hm] at hm'
   cases hm'
   obtain ⟨i1,i2⟩ := hin m (List.mem_of_getElem? hm)
   have hc := JdW (ls := ls) (p := n) hU i1 i2
   have ht' := s' _ _ ht
   have hs' := hs.same s'
   have h1' := s' _ _ h1
   walk_at "rd"
   intro H3 s3
   walk_at "rd"
   rw [hc]
   refine ite2 (fun e => ?_) (fun e => ?_)
   ·walk_at "rd"
    exact hR _ _ _ e ⟨_,_,_,_,rfl⟩ s3 rfl
   ·exact hF _ _ (Bool.eq_false_iff.mpr e) ⟨_,_,_,_,rfl⟩ s3
  have er : rs = ((held.filter (canB ls n)).map (·.day)).map V.int := by
   rw [List.map_map]
   exact hrs.eqmap fun a y h => h
  rw [er] at hD
  have hdl : ((held.filter (canB ls n)).map (·.day)).length ≤ 1000 := by
   rw [List.length_map]
   have := List.length_filter_le (canB ls n) held
   omega
  have qD : SqL K H2 D (((held.filter (canB ls n)).map (·.day)).map V.int) := SqL.of hD
  have k1 := s2 _ _ h1
  have k4 := s2 _ _ h4
  have kp := s2 _ _ hp
  walk_at "rd"
  intro st S fst
  walk_at "rd"
  exact q _ (s2.trans (JB fst _))
theorem J7n (tx : Tx K mg Jg J7 J4 Ji J1 J2 Jk Jc Ja Jb Jf J9) : MtG P w K mg base Jc "__init__" 1 ["self","places"] (J7S Jc) := by
 refine tx.J7w.g tx.J3D.cl J6P (fun _ _ _ _ _ _ us hl => match us,hl with | [_,_],_ => rfl) (fun vs H Q E h => ?_) (fun f cdv A outer s H vs Q E hr h => ?_)
 ·obtain ⟨p,dx,l,xs,rfl,_⟩ := h
  rfl
 ·obtain ⟨p,dx,l,xs,rfl,hp,hl,q⟩ := h
  refine ⟨_,(Jh (J0s (pv 0) (JX JI rfl tx.J13 JT (J0 (pv 1) J5)) rfl)),?_⟩
  walk_at "st"
  refine ⟨_,rfl,l,xs,rfl,.inl (SqL.of hl),fun a1 n1 => ?_⟩
  refine ⟨_,rfl,p,Jc,dx,[],rfl,(Jj (Je hp n1)).trans hp,tx.J3D.cl,tx.J0J,(by show 0 < 1000; decide),?_⟩
  have z1 : a1 ≠ p := (Je hp n1).symm
  exact q _ a1 ((But.refl p H).new n1).at Jd (by rw [Jj z1]; exact Jd) n1
theorem Jbl (tx : Tx K mg Jg J7 J4 Ji J1 J2 Jk Jc Ja Jb Jf J9) : MtG P w K mg base Jc "floor" 4 ["self","house","costs"] (Jaf J7 J4 Jc) := by
 have J4z := J8e (P := P) (w := w) (base := base) tx
 refine tx.J6u.g tx.J3D.cl J29 (fun _ _ _ _ _ _ us hl => match us,hl with | [_,_,_],_ => rfl) (fun vs H Q E h => ?_) (fun f cdv A outer s H vs Q E hr h => ?_)
 ·obtain ⟨pp,h,a,dx,c,dd,ks,nds,ps,ls,pc,as,rfl,_⟩ := h
  rfl
 ·obtain ⟨pp,h,a,dx,c,dd,ks,nds,ps,ls,pc,as,rfl,hpp,ha,aP,hs,hok,hpc,q⟩ := h
  refine ⟨_,(J6 (Jq (i := 3) J29.nd rfl (Or.inr rfl) (JP (osc := J3 J06) (ON := ["self","house","costs","asked","least","able"]) (N := ["need","self"]) (js := [none,some 0]) ⟨rfl,by decide +kernel,by decide +kernel,by decide +kernel,rfl,by decide +kernel⟩ rfl rfl rfl (JZ (K := K) rfl (Jt (K := K) rfl (pv 1) rfl)) (fun _ _ _ _ _ => Jm (i := 0) (show List.Nodup (["need","self"] : List Str) from by decide +kernel) rfl (Or.inl rfl)) (fun _ _ _ _ _ => J0o (Js (J8M (K := K) rfl (J86 hr)) (J0t (J0 (Jo (JC (K := K) rfl) (pv 0) J8 (fun _ _ => rfl)) (J0 (Jo (JC (K := K) rfl) (pv 0) J8 (fun _ _ => rfl)) J5))) (Jt (K := K) rfl (pv 1) rfl) rfl)) (fun _ _ _ _ _ => (pv 0))))
   (J6 (Jq (i := 4) J29.nd rfl (Or.inl rfl) (Ju (J3e (K := K) rfl rfl) rfl tx.J4H J7b (J0 (JP (osc := J3 J06) (ON := ["self","house","costs","asked","least","able"]) (N := ["need"]) (js := [none]) ⟨rfl,by decide +kernel,by decide +kernel,by decide +kernel,rfl,by decide +kernel⟩ rfl rfl rfl (JZ (K := K) rfl (pv 3)) (fun _ _ _ _ _ => Jm (i := 0) (show List.Nodup (["need"] : List Str) from by decide +kernel) rfl (Or.inl rfl)) (fun _ _ _ _ _ => J0b) (fun _ _ _ _ _ => (Jo (JC (K := K) rfl) (pv 0) J8 (fun _ _ => rfl)))) J5)))
   (J6 (Jq (i := 5) J29.nd rfl (Or.inl rfl) (Ju (J3e (K := K) rfl rfl) rfl tx.J4H J7b (J0 (JP (osc := J3 J06) (ON := ["self","house","costs","asked","least","able"]) (N := ["p","house","asked"]) (js := [none,some 1,some 3]) ⟨rfl,by decide +kernel,by decide +kernel,by decide +kernel,rfl,by decide +kernel⟩ rfl rfl rfl (J03 rfl tx.J0i (J0 (Ju (JD (K := K) rfl) rfl tx.J0g PySem.boot_len (J0 (Jt (K := K) rfl (pv 1) rfl) J5)) J5)) (fun _ _ _ _ _ => Jm (i := 0) (show List.Nodup (["p","house","asked"] : List Str) from by decide +kernel) rfl (Or.inl rfl)) (fun _ _ _ _ _ => J0b) (fun _ _ _ _ _ => (JO J4z (hr.mono (by decide)) (J0 (pv 1) (J0 (pv 0) (J0 (pv 2) J5)))))) J5)))
   (Jh (Jv (J78 (Js J3Q (pv 4) (pv 5) (Jw _)) Jao J8)))))),?_⟩
  walk_at "st"
  clear J4z
  have hs' := hs
  obtain ⟨a1,a2,a3,a4,a5,a6,xs,ys,zs,ws0,⟨dxh,h1⟩,h2,h3,h4,h5,h6,h7,h8⟩ := hs'
  have cH := tx.JN.cl
  have nH1 := tx.JG
  have nH2 := tx.J0j
  have cL := tx.J3D.cl
  have nL := tx.J0J
  have n21 := hok.n21
  have p5 := hok.p5
  have k3 := hok.k3
  walk_at "rd"
  refine JF nds (inP pc) NdAt (fun σ => ∃ v,σ = [v,some (.ref pp)]) (JL (SqL.of h2)) h3.len (by omega) ⟨_,rfl⟩ NdAt.keeps (fun i m v σ H' hm hv hσ s' Rf Rt hF hR => ?_) (fun D H2 rs nD s2 hrs hD => ?_)
  ·obtain ⟨w1,rfl⟩ := hσ
   obtain ⟨m',hm',t,rfl,ht⟩ := h3.back hv
   rw [hm] at hm'
   cases hm'
   have ht' := s' _ _ ht
   have b0 : atI [V.int m.day,T [m.kind],.int m.least,.int m.most] 0 = some (.int m.day) := by simp [atI,ixN]
   have b1 : atI [V.int m.day,T [m.kind],.int m.least,.int m.most] 1 = some (T [m.kind]) := by simp [atI,ixN]
   walk_at "rd"
   intro t2 ft2
   obtain ⟨H3,e3,yt2,s3⟩ := newt (xs := [V.int m.day,T [m.kind]]) ft2
   rw [← e3]
   have hpp3 := (s'.trans s3) _ _ hpp
   have ha3 := (s'.trans s3) _ _ ha
   have aP3 := Jeu (K := K) (aP.imp fun a y => PlT.keeps a y _ _ (s'.trans s3).keeps)
   have fl : ([V.int m.day,T [m.kind]] : List V).all J15 = true := rfl
   walk_at "rd"
   refine ite2 (fun e => ?_) (fun e => ?_)
   ·walk_at "rd"
    exact hR _ _ _ e ⟨_,rfl⟩ s3 ⟨t,rfl,s3 _ _ ht'⟩
   ·exact hF _ _ (Bool.eq_false_iff.mpr e) ⟨_,rfl⟩ s3
  have hfl := List.length_filter_le (inP pc) nds
  have hin : ∀ n ∈ nds.filter (inP pc),n ∈ nds ∧ n.kind ∈ ks := fun n hn => ⟨(List.mem_filter.mp hn).1,hok.k n (List.mem_filter.mp hn).1⟩
  have hU := hok.u
  generalize nds.filter (inP pc) = held at hrs hfl hin q
  have hhl : held.length ≤ 21 := by omega
  walk_at "rd"
  refine JF held (fun _ => true) (fun m y _ => y = .int m.least) (fun σ => ∃ v,σ = [v]) (JL (SqL.of hD)) hrs.len (by omega) ⟨_,rfl⟩ (fun _ _ _ _ _ z => z) (fun i m v σ H' hm hv hσ s' Rf Rt hF hR => ?_) (fun D2 H3 us nD2 s3 hus hD2 => ?_)
  ·obtain ⟨w1,rfl⟩ := hσ
   obtain ⟨m',hm',t,rfl,ht⟩ := hrs.back hv
   rw [hm] at hm'
   cases hm'
   have ht' := s' _ _ ht
   have b2 : atI [V.int m.day,T [m.kind],.int m.least,.int m.most] 2 = some (.int m.least) := by simp [atI,ixN]
   walk_at "rd"
   exact hR _ _ _ rfl ⟨_,rfl⟩ (Same.refl _) rfl
  rw [List.filter_eq_self.mpr fun _ _ => rfl] at hus
  have eu : us = (held.map (·.least)).map V.int := by
   rw [List.map_map]
   exact hus.eqmap fun a y h => h
  rw [eu] at hD2
  have qD2 : SqL K H3 D2 ((held.map (·.least)).map V.int) := SqL.of hD2
  have S3 := s2.trans s3
  have k1 := S3 _ _ h1
  have k4 := S3 _ _ h4
  have hsl := h5.len
  walk_at "rd"
  have tp : (((ys.length : Nat) : Int)).toNat = ps.length := by rw [Int.toNat_natCast,hsl]
  rw [tp]
  refine JF (List.range ps.length) (fun _ => true) (fun (k : Nat) y _ => ∀ n,ps[k]? = some n → y = .int (canP ls held n)) (fun σ => ∃ v,σ = [v,some (.ref h),some (.ref D)]) (J1O 0 ps.length) (by rw [List.length_map]) (by rw [List.length_range]; omega) ⟨_,rfl⟩ (fun _ _ _ _ _ z => z) (fun i k v σ H' hk hv hσ s' Rf Rt hF hR => ?_) (fun D3 H4 ws nD3 s4 hws hD3 => ?_)
  ·obtain ⟨w1,rfl⟩ := hσ
   rw [List.getElem?_map,hk] at hv
   cases hv
   obtain ⟨ek,hkl⟩ := J2R hk
   have hkl' : k < ps.length := by omega
   have hn : ps[(0 + (k : Int)).toNat]? = some ps[k] := by rw [show (0 + (k : Int)).toNat = k by omega]; exact List.getElem?_eq_getElem hkl'
   have k0 : (0 : Int) ≤ 0 + (k : Int) := by omega
   have hs' := hs.same (S3.trans s')
   have hD' := (s3.trans s') _ _ hD
   have aH' := hrs.imp fun a y => NdAt.keeps a y _ _ (s3.trans s').keeps
   walk_at "rd"
   exact fun H6 s6 => hR _ _ _ rfl ⟨_,rfl⟩ s6 fun n hn' => by rw [List.getElem?_eq_getElem hkl'] at hn'; rw [← Option.some.inj hn']
  rw [List.filter_eq_self.mpr fun _ _ => rfl] at hws
  have ew : ws = (ps.map (canP ls held)).map V.int := by
   have hl := hws.len
   rw [List.length_range] at hl
   refine List.ext_getElem? fun j => ?_
   rw [List.getElem?_map,List.getElem?_map]
   cases hj : ps[j]? with
   | none => exact List.getElem?_eq_none (by have := List.getElem?_eq_none_iff.mp hj; omega)
   | some n =>
    have hjl := (List.getElem?_eq_some_iff.mp hj).1
    obtain ⟨y,hy,e⟩ := hws.get (i := j) (a := j) (List.getElem?_range hjl)
    rw [hy,e n hj]
    rfl
  rw [ew] at hD3
  have qD3 : SqL K H4 D3 ((ps.map (canP ls held)).map V.int) := SqL.of hD3
  walk_at "rd"
  have eC : (decide (J5z held > canF ls ps held)) = decide ((ps.map (canP ls held)).sum < (held.map (·.least)).sum) := rfl
  have q' := q H4 (S3.trans s4)
  refine ite2 (fun e => ?_) (fun e => ?_)
  ·have e' : canF ls ps held < J5z held := of_decide_eq_true e
   rw [if_pos e'] at q'
   walk_at "rd"
   exact q'
  ·have e' : ¬ canF ls ps held < J5z held := fun z => e (decide_eq_true z)
   rw [if_neg e'] at q'
   walk_at "rd"
   exact q'
end
section
variable {P : Program} {w : World} {K : PySem.W.Frag} {mg : Str → Option Value} {base : Heap} {Jg J7 J4 Ji J1 J2 Jk Jc Ja Jb Jf J9 : Addr}
theorem J5P (tx : Tx K mg Jg J7 J4 Ji J1 J2 Jk Jc Ja Jb Jf J9) : FnG P w K mg base "duties_in" 1 ["marks"] Jcg := by
 refine tx.J94.g J8j (fun _ _ _ _ _ _ us hl => match us,hl with | [_],_ => rfl) (fun vs H Q E h => ?_) (fun f cdv A outer s H vs Q E hr h => ?_)
 ·obtain ⟨l,rfl,_⟩ := h
  rfl
 ·obtain ⟨l,rfl,hl,q⟩ := h
  refine ⟨_,(Jh (Jv (Ju (JD (K := K) rfl) rfl tx.J0g PySem.boot_len (J0 (JP (osc := J3 J1I) (ON := ["marks"]) (N := ["mark"]) (js := [none]) ⟨rfl,by decide +kernel,by decide +kernel,by decide +kernel,rfl,by decide +kernel⟩ rfl rfl rfl (J5E (pv 0)) (fun _ _ _ _ _ => Jm (i := 0) (show List.Nodup (["mark"] : List Str) from by decide +kernel) rfl (Or.inl rfl)) (fun _ _ _ _ _ => J0o (Js J2U (pv 0) (JU (l := [45]) (by decide +kernel)) (Jw _))) (fun _ _ _ _ _ => (pv 0))) J5)))),?_⟩
  walk_at "st"
  walk_at "rd"
  refine J8G (fun x => !decide (x = T [45])) (fun x => x) (J3Z l) ?_ (fun x hx H' s' R hR => ?_) (fun x hx hp H' s' R hR => ?_) (fun D H' hD s' hDD => ?_)
  ·rw [List.length_map]; omega
  ·obtain ⟨k,_,rfl⟩ := List.mem_map.mp hx
   walk_at "rd"
   exact hR H' (Same.refl _)
  ·walk_at "rd"
   exact hR H' (Same.refl _)
  refine ⟨D,_,rfl,.inl (SqL.of hDD),?_⟩
  rw [JaY]
  exact q H' s'
end
noncomputable def rowN (g : Nat → Nat → Nat → Int) (p : Nat) (row : List Nat) (j : Nat) : Int := ((List.range j).map fun d => g p d (row.getD d 0)).sum
noncomputable def totN (f : Nat → List Nat → Int) (g : Nat → Nat → Nat → Int) (rows : List (List Nat)) (i : Nat) : Int := ((List.range i).map fun p => f p (rows.getD p []) + rowN g p (rows.getD p []) (rows.getD p []).length).sum
theorem J9C (l : List Int) (x : Int) : (l ++ [x]).sum = l.sum + x := by
 rw [List.sum_append,List.sum_cons,List.sum_nil,Int.add_zero]
theorem Jc8 (f : Nat → List Nat → Int) (g : Nat → Nat → Nat → Int) (rows : List (List Nat)) {i : Nat} {row : List Nat} (h : rows[i]? = some row) : totN f g rows (i + 1) = totN f g rows i + f i row + rowN g i row row.length := by
 unfold totN
 rw [List.range_succ,List.map_append]
 show (_ ++ [f i (rows.getD i []) + rowN g i (rows.getD i []) (rows.getD i []).length]).sum = _
 rw [J9C,List.getD_eq_getElem?_getD,h]
 show _ + (f i row + rowN g i row row.length) = _
 omega
noncomputable def Ans1 (H : Hp) (sp : Sp) (c : Addr) (f : Nat → List Nat → Int) (rows : List (List Nat)) : Prop := ∀ (p : Nat) (row : List Nat),rows[p]? = some row → Ans H sp [.ref c,.int (p : Int),.int (dut row : Nat)] (f p row)
noncomputable def Ans2 (H : Hp) (sp : Sp) (c : Addr) (g : Nat → Nat → Nat → Int) (rows : List (List Nat)) : Prop := ∀ (p d x : Nat) (row : List Nat),rows[p]? = some row → row[d]? = some x → Ans H sp [.ref c,.int (p : Int),.int (d : Int),T [x]] (g p d x)
structure CoAt (P : Program) (w : World) (K : PySem.W.Frag) (mg : Str → Option Value) (base : Heap) (H : Hp) (c : Addr) (f : Nat → List Nat → Int) (g : Nat → Nat → Nat → Int) (rows : List (List Nat)) : Prop where
 ex : ∃ (C dx : Addr) (fs : List (Str × V)) (k1 k2 : Nat) (ps1 ps2 : List Str) (sp1 sp2 : Sp),H c = some (.ins C dx fs) ∧ fs.lookup ("of_count" : Str) = none ∧ fs.lookup ("of_mark" : Str) = none ∧ MtG P w K mg base C "of_count" k1 ps1 sp1 ∧ k1 ≤ 3 ∧ MtG P w K mg base C "of_mark" k2 ps2 sp2 ∧ k2 ≤ 3 ∧ Ans1 H sp1 c f rows ∧ Ans2 H sp2 c g rows
theorem CoAt.same {P : Program} {w : World} {K : PySem.W.Frag} {mg : Str → Option Value} {base : Heap} {H H' : Hp} {c : Addr} {f : Nat → List Nat → Int} {g : Nat → Nat → Nat → Int} {rows : List (List Nat)} (x : CoAt P w K mg base H c f g rows) (s : Same H H') : CoAt P w K mg base H' c f g rows := by
 obtain ⟨C,dx,fs,k1,k2,ps1,ps2,sp1,sp2,h1,l1,l2,m1,e1,m2,e2,a1,a2⟩ := x.ex
 exact ⟨C,dx,fs,k1,k2,ps1,ps2,sp1,sp2,s _ _ h1,l1,l2,m1,e1,m2,e2,fun p row h => (a1 p row h).same s,fun p d x row h h2 => (a2 p d x row h h2).same s⟩
noncomputable def Jcd (P : Program) (w : World) (K : PySem.W.Frag) (mg : Str → Option Value) (base : Heap) : Sp := fun vs H Q _ => ∃ (hv : V) (c r : Addr) (f : Nat → List Nat → Int) (g : Nat → Nat → Nat → Int) (rows : List (List Nat)),vs = [hv,.ref c,.ref r] ∧ CoAt P w K mg base H c f g rows ∧ H r = some (.lst (rows.map T)) ∧ (∀ x ∈ rows,x.length ≤ 1000) ∧ ∀ H',Same H H' → Q (.int (totN f g rows rows.length)) H'
section
variable {P : Program} {w : World} {K : PySem.W.Frag} {mg : Str → Option Value} {base : Heap} {Jg J7 J4 Ji J1 J2 Jk Jc Ja Jb Jf J9 : Addr}
theorem Ja8 (tx : Tx K mg Jg J7 J4 Ji J1 J2 Jk Jc Ja Jb Jf J9) : FnG P w K mg base "total_of" 5 ["house","costs","rota"] (Jcd P w K mg base) := by
 have J2y := J5P (P := P) (w := w) (base := base) tx
 refine tx.Jab.g J2e (fun _ _ _ _ _ _ us hl => match us,hl with | [_,_,_],_ => rfl) (fun vs H Q E h => ?_) (fun f cdv A outer s H vs Q E hr h => ?_)
 ·obtain ⟨hv,c,r,f,g,rows,rfl,_⟩ := h
  rfl
 ·obtain ⟨hv,c,r,f,g,rows,rfl,hC,hr1,hx,q⟩ := h
  refine ⟨_,(J6 (Jq (i := 3) J2e.nd rfl (Or.inl rfl) J8)
   (J6 (J0G PassesOwn.never rfl (J2F (K := K) rfl rfl tx.J0m (J0 (pv 2) J5)) (J2C rfl (JE (Jm (i := 4) J2e.nd rfl (Or.inr rfl)) (JE (Jm (i := 5) J2e.nd rfl (Or.inl rfl)) J1z))) (J6 (J2S (i := 3) J2e.nd rfl (Or.inl rfl) (J2s (P := P) (w := w) (K := K) (mg := mg) (base := base) hr (pv 1) (J0 (pv 4) (J0 (JO J2y (hr.mono (by decide)) (J0 (pv 5) J5)) J5)) rfl rfl rfl rfl rfl) J8Z)
   (Jh (J2S (i := 3) J2e.nd rfl (Or.inl rfl) (Ju (J3e (K := K) rfl rfl) rfl tx.J4H J7b (J0 (JP (osc := J3 J2c) (ON := ["house","costs","rota","total","p","row"]) (N := ["day","mark","p","costs"]) (js := [none,none,some 4,some 1]) ⟨rfl,by decide +kernel,by decide +kernel,by decide +kernel,rfl,by decide +kernel⟩ rfl rfl rfl (JcE rfl tx.J0m (J0 (pv 5) J5)) (fun _ _ _ _ _ => J3S (K := K) (i := 0) (j := 1) rfl rfl (show List.Nodup (["day","mark","p","costs"] : List Str) from by decide +kernel) rfl rfl (Or.inl rfl) (Or.inl rfl)) (fun _ _ _ _ _ => J0b) (fun _ _ _ _ _ => (J2s (P := P) (w := w) (K := K) (mg := mg) (base := base) hr (pv 3) (J0 (pv 2) (J0 (pv 0) (J0 (pv 1) J5))) rfl rfl rfl rfl rfl))) J5)) J8Z))))
   (Jh (Jv (pv 3))))),?_⟩
  walk_at "st"
  clear J2y
  walk_at "rd"
  refine J3f (K := K) (xs := rows.map T) (fun i σ H2 => Here (∃ v1 v2,σ = [some hv,some (.ref c),some (.ref r),some (.int (totN f g rows i)),v1,v2] ∧ Same H H2)) (Here.mk ⟨none,none,rfl,Same.refl _⟩) (fun i σ H2 _ hv => by obtain ⟨_,_,_,s2⟩ := hv.out; exact SqL.of (s2 _ _ hr1)) ?_ ?_
  ·rintro i x p σ H2 hxi hp hv2
   obtain ⟨v1,v2,rfl,s2⟩ := hv2.out
   rw [List.getElem?_map] at hxi
   cases hri : rows[i]? with
   | none => rw [hri] at hxi; cases hxi
   | some row =>
    rw [hri] at hxi
    cases hxi
    have hrl := hx row (List.mem_of_getElem? hri)
    have e1 := Jc8 f g rows hri
    obtain ⟨H3,e3,h3,s3⟩ := newt (xs := [V.int i,T row]) hp
    rw [← e3]
    have S3 := s2.trans s3
    obtain ⟨C,dx,fs,k1,k2,ps1,ps2,sp1,sp2,h1,l1,l2,M1,hk1,M2,hk2,A1,A2⟩ := (hC.same S3).ex
    walk_at "rd"
    intro H4 s4
    have h14 := s4 _ _ h1
    walk_at "rd"
    refine (A1 i row hri) _ _ s4 fun H5 s5 => ?_
    have h15 := s5 _ _ h14
    walk_at "rd"
    refine J9I (fun _ => true) (fun d y _ => y = V.int (g i d (row.getD d 0))) (fun σ => ∃ v1 v2,σ = [v1,v2,some (.int i),some (.ref c)]) (by omega) ⟨_,_,rfl⟩ (fun _ _ _ _ _ z => z) (fun d x q σ H' hxd hσ s' hq Rf Rt _ hR => ?_) (fun D H6 ys nD s6 hys hD => ?_)
    ·obtain ⟨w1,w2,rfl⟩ := hσ
     obtain ⟨H7,e7,h7,s7⟩ := newt (xs := [V.int d,T [x]]) hq
     rw [← e7]
     have h17 := (s'.trans s7) _ _ h15
     walk_at "rd"
     refine (A2 i d x row hri hxd) _ _ ((s4.trans s5).trans (s'.trans s7)) fun H8 s8 => ?_
     refine hR _ _ _ rfl ⟨_,_,rfl⟩ (s7.trans s8) ?_
     rw [List.getD_eq_getElem?_getD,hxd]
     rfl
    rw [hys.eqmap (f := fun d => V.int (g i d (row.getD d 0))) (fun a y e => e),List.filter_eq_self.mpr fun _ _ => rfl,show (fun d => V.int (g i d (row.getD d 0))) = V.int ∘ (fun d => g i d (row.getD d 0)) from rfl,← List.map_map] at hD
    have hS : SqL K H6 D (((List.range row.length).map fun d => g i d (row.getD d 0)).map V.int) := SqL.of hD
    walk_at "rd"
    refine Here.mk ⟨some (.int i),some (T row),?_,((S3.trans s4).trans s5).trans s6⟩
    rw [e1]
    rfl
  ·rintro σ H2 hv2
   obtain ⟨v1,v2,rfl,s2⟩ := hv2.out
   rw [List.length_map]
   walk_at "rd"
   exact q H2 s2
end
theorem Jc5 (W : List Wi) (w : Wi) (p d c : Nat) : notM (W ++ [w]) p d c = notM W p d c + (if (w.k = p ∧ w.day = d) ∧ ¬ c ∈ w.marks then 1 else 0) := by
 unfold notM
 rw [JbS]
 by_cases h : w.k = p ∧ w.day = d
 ·rw [if_pos h,List.filter_append,List.length_append]
  by_cases hc : c ∈ w.marks
  ·rw [if_neg (fun z => z.2 hc)]
   simp [hc]
  ·rw [if_pos ⟨h,hc⟩]
   simp [hc]
 ·rw [if_neg h,if_neg (fun z => h z.1)]
  rfl
noncomputable def unm (W : List Wi) (rows : List (List Nat)) : Nat := (W.filter fun w => !decide ((rows.getD w.k []).getD w.day 0 ∈ w.marks)).length
noncomputable def WIn (rows : List (List Nat)) (w : Wi) : Prop := w.k < rows.length ∧ w.day < (rows.getD w.k []).length ∧ w.marks.length ≤ 1000
theorem J2z {α : Type} (f g : α → Int) : ∀ l : List α,(l.map fun x => f x + g x).sum = (l.map f).sum + (l.map g).sum
 | [] => rfl
 | x :: l => by
  rw [List.map_cons,List.map_cons,List.map_cons,List.sum_cons,List.sum_cons,List.sum_cons,J2z f g l]
  omega
theorem J2k {α : Type} (f : α → Int) : ∀ l : List α,(∀ x ∈ l,f x = 0) → (l.map f).sum = 0
 | [],_ => rfl
 | x :: l,h => by rw [List.map_cons,List.sum_cons,h x List.mem_cons_self,J2k f l fun y hy => h y (List.mem_cons_of_mem _ hy)]; rfl
theorem J3X (v : Int) (k : Nat) : ∀ n,((List.range n).map (fun i => if i = k then v else 0)).sum = if k < n then v else 0
 | 0 => rfl
 | n + 1 => by
  rw [List.range_succ,List.map_append]
  show (_ ++ [if n = k then v else 0]).sum = _
  rw [J9C,J3X v k n]
  by_cases h : n = k
  ·subst h; rw [if_neg (Nat.lt_irrefl _),if_pos rfl,if_pos (Nat.lt_succ_self _),Int.zero_add]
  ·rw [if_neg h,Int.add_zero]
   by_cases h2 : k < n
   ·rw [if_pos h2,if_pos (by omega)]
   ·rw [if_neg h2,if_neg (by omega)]
theorem JbU (f : Nat → List Nat → Int) (g : Nat → Nat → Nat → Int) (rows : List (List Nat)) (n : Nat) : totN f g rows n = ((List.range n).map fun p => f p (rows.getD p [])).sum + ((List.range n).map fun p => rowN g p (rows.getD p []) (rows.getD p []).length).sum := J2z _ _ _
theorem Jcn (W : List Wi) (w : Wi) (rows : List (List Nat)) : unm (W ++ [w]) rows = unm W rows + (if (rows.getD w.k []).getD w.day 0 ∈ w.marks then 0 else 1) := by
 unfold unm
 rw [List.filter_append,List.length_append]
 by_cases h : (rows.getD w.k []).getD w.day 0 ∈ w.marks
 ·rw [if_pos h,List.filter_cons,if_neg (by rw [decide_eq_true h]; decide)]; rfl
 ·rw [if_neg h,List.filter_cons,if_pos (by rw [decide_eq_false h]; rfl)]; rfl
theorem J9B (rows : List (List Nat)) (W : List Wi) : ∀ k ≤ W.length,(∀ w ∈ W,WIn rows w) → ((List.range rows.length).map fun p => rowN (fun p d c => (notM (W.take k) p d c : Nat)) p (rows.getD p []) (rows.getD p []).length).sum = (unm (W.take k) rows : Nat)
 | 0,_,_ => by
  rw [List.take_zero]
  exact J2k _ _ fun p _ => J2k _ _ fun d _ => rfl
 | k + 1,hk,hW => by
  have ih := J9B rows W k (by omega) hW
  obtain ⟨w,hw⟩ : ∃ w,W[k]? = some w := ⟨W[k],List.getElem?_eq_getElem (by omega)⟩
  obtain ⟨h1,h2,_⟩ := hW w (List.mem_of_getElem? hw)
  have et : W.take (k + 1) = W.take k ++ [w] := by rw [List.take_add_one,hw]; rfl
  rw [et,Jcn]
  have e1 : ∀ p ∈ List.range rows.length,rowN (fun p d c => (notM (W.take k ++ [w]) p d c : Nat)) p (rows.getD p []) (rows.getD p []).length = rowN (fun p d c => (notM (W.take k) p d c : Nat)) p (rows.getD p []) (rows.getD p []).length + (if p = w.k then (if (rows.getD w.k []).getD w.day 0 ∈ w.marks then 0 else 1) else 0) := fun p _ => by
   unfold rowN
   rw [show (fun d => ((notM (W.take k ++ [w]) p d ((rows.getD p []).getD d 0) : Nat) : Int)) = fun d => ((notM (W.take k) p d ((rows.getD p []).getD d 0) : Nat) : Int) + (if d = w.day then (if p = w.k then (if (rows.getD w.k []).getD w.day 0 ∈ w.marks then 0 else 1) else 0) else 0) from ?_]
   ·rw [J2z,J3X]
    by_cases hp : p = w.k
    ·subst hp
     rw [if_pos h2]
    ·rw [if_neg hp]
     split <;> rfl
   ·funext d
    rw [Jc5]
    by_cases hd : d = w.day
    ·subst hd
     by_cases hp : p = w.k
     ·subst hp
      rw [if_pos rfl,if_pos rfl]
      by_cases hm : (rows.getD w.k []).getD w.day 0 ∈ w.marks
      ·rw [if_pos hm,if_neg fun z => z.2 hm]; rfl
      ·rw [if_neg hm,if_pos ⟨⟨rfl,rfl⟩,hm⟩]; rfl
     ·rw [if_pos rfl,if_neg hp,if_neg fun z => hp z.1.1.symm]; rfl
    ·rw [if_neg hd,if_neg fun z => hd z.1.2.symm]; rfl
  rw [List.map_congr_left e1,J2z,J3X,ih,if_pos h1]
  split <;> simp
theorem J4R (a b c d e f g h : V) : List.lookup ("rules_for" : Str) (fH a b c d e f g h) = none := by
 rw [Jx (by decide +kernel),Jx (by decide +kernel),Jx (by decide +kernel),Jx (by decide +kernel),Jx (by decide +kernel),Jx (by decide +kernel),Jx (by decide +kernel),Jx (by decide +kernel)]
 rfl
noncomputable def TpV : List V → V → Hp → Prop := fun xs y H => ∃ t,y = .ref t ∧ H t = some (.tup xs)
noncomputable def OnT (C : Addr) : Ps × List Nat → V → Hp → Prop := fun p y H => ∃ t a,y = .ref t ∧ H t = some (.tup [.ref a,T p.2]) ∧ J5T C H a p.1.nm p.1.sk p.1.most p.1.car p.1.past
theorem TpV.keeps (n : List V) (y : V) (Ha Hb : Hp) (k : JY Ha Hb) (h : TpV n y Ha) : TpV n y Hb := let ⟨t,e,h⟩ := h; ⟨t,e,k _ _ h fun zs z => by cases z⟩
theorem OnT.keeps {C : Addr} (n : Ps × List Nat) (y : V) (Ha Hb : Hp) (k : JY Ha Hb) (h : OnT C n y Ha) : OnT C n y Hb := let ⟨t,a,e,h,g⟩ := h; ⟨t,a,e,k _ _ h (fun zs z => by cases z),g.keeps k⟩
noncomputable def mkA (row : List Nat) (d : Int) : Nat := row.getD d.toNat 0
theorem J4c {row : List Nat} {d : Int} (h0 : 0 ≤ d) (h : d < row.length) : atI row d = some (mkA row d) := by
 obtain ⟨c,h1,h2⟩ := J2l row d h0 h
 rw [h1]
 unfold mkA
 rw [List.getD_eq_getElem?_getD,h2]
 rfl
structure Ru where
 nm : List Nat
 B : List Nat → Bool
structure Pr where
 wd : List Nat
 one : List Nat
 two : List Nat
 i : Nat
 j : Nat
noncomputable def BadQ (P : Program) (w : World) (K : PySem.W.Frag) (mg : Str → Option Value) (base : Heap) (H : Hp) (a : Addr) (B : List Nat → Bool) : Prop := ∃ (C dx : Addr) (fs : List (Str × V)) (k : Nat) (ps : List Str) (sp : Sp),H a = some (.ins C dx fs) ∧ fs.lookup ("bad" : Str) = none ∧ MtG P w K mg base C "bad" k ps sp ∧ k ≤ 4 ∧ ∀ (m : List Nat),m.length ≤ 200 → ∀ (H' : Hp) (Q' : VK),JY H H' → (∀ H'',Same H' H'' → Q' (.bl (B m)) H'') → sp [.ref a,T m] H' Q' E0
theorem BadQ.keeps {P : Program} {w : World} {K : PySem.W.Frag} {mg : Str → Option Value} {base : Heap} {H H' : Hp} {a : Addr} {B : List Nat → Bool} (x : BadQ P w K mg base H a B) (k : JY H H') : BadQ P w K mg base H' a B := by
 obtain ⟨C,dx,fs,n,ps,sp,h1,h2,h3,h4,h5⟩ := x
 exact ⟨C,dx,fs,n,ps,sp,k _ _ h1 (fun zs z => by cases z),h2,h3,h4,fun m hm H2 Q' k2 q => h5 m hm H2 Q' (k.trans k2) q⟩
noncomputable def RuT (P : Program) (w : World) (K : PySem.W.Frag) (mg : Str → Option Value) (base : Heap) : Ru → V → Hp → Prop := fun r y H => ∃ t a,y = .ref t ∧ H t = some (.tup [T r.nm,.ref a]) ∧ BadQ P w K mg base H a r.B
theorem RuT.keeps {P : Program} {w : World} {K : PySem.W.Frag} {mg : Str → Option Value} {base : Heap} (r : Ru) (y : V) (Ha Hb : Hp) (k : JY Ha Hb) (h : RuT P w K mg base r y Ha) : RuT P w K mg base r y Hb := let ⟨t,a,e,h1,h2⟩ := h; ⟨t,a,e,k _ _ h1 (fun zs z => by cases z),h2.keeps k⟩
noncomputable def PrT : Pr → V → Hp → Prop := fun p y H => ∃ t,y = .ref t ∧ H t = some (.tup [T p.wd,T p.one,T p.two])
theorem PrT.keeps (r : Pr) (y : V) (Ha Hb : Hp) (k : JY Ha Hb) (h : PrT r y Ha) : PrT r y Hb := let ⟨t,e,h1⟩ := h; ⟨t,e,k _ _ h1 (fun zs z => by cases z)⟩
noncomputable def PrIn (ps : List Ps) (p : Pr) : Prop := ((ps.map (·.nm))[p.i]? = some p.one ∧ ∀ j < p.i,¬ (ps.map (·.nm))[j]? = some p.one) ∧ (ps.map (·.nm))[p.j]? = some p.two ∧ ∀ j < p.j,¬ (ps.map (·.nm))[j]? = some p.two
noncomputable abbrev wAll : List Nat := [97,108,108]
noncomputable abbrev JfS : List Nat := [114,117,108,101]
noncomputable abbrev JaT : List Nat := [112,97,105,114]
noncomputable abbrev J36 : List Nat := [97,112,97,114,116]
noncomputable def ruAt (rls : List Ru) (i : Nat) : Ru := rls.getD i ⟨[],fun _ => false⟩
theorem Jb8 {rls : List Ru} {i : Nat} {a : Ru} (h : rls[i]? = some a) : ruAt rls i = a := by
 unfold ruAt
 rw [List.getD_eq_getElem?_getD,h]
 rfl
noncomputable def J8c (rls : List Ru) (nm : List Nat) (i : Nat) : Bool := decide ((ruAt rls i).nm ∈ [wAll,nm])
noncomputable def ruI (rls : List Ru) (nm : List Nat) : List Nat := (List.range rls.length).filter (J8c rls nm)
noncomputable def FdT (P : Program) (w : World) (K : PySem.W.Frag) (mg : Str → Option Value) (base : Heap) (rls : List Ru) : Nat → V → Hp → Prop := fun i y H => ∃ t a,y = .ref t ∧ H t = some (.tup [.int (i : Nat),.ref a]) ∧ BadQ P w K mg base H a (ruAt rls i).B
theorem FdT.keeps {P : Program} {w : World} {K : PySem.W.Frag} {mg : Str → Option Value} {base : Heap} {rls : List Ru} (i : Nat) (y : V) (Ha Hb : Hp) (k : JY Ha Hb) (h : FdT P w K mg base rls i y Ha) : FdT P w K mg base rls i y Hb := let ⟨t,a,e,h1,h2⟩ := h; ⟨t,a,e,k _ _ h1 (fun zs z => by cases z),h2.keeps k⟩
noncomputable def ruV (d : Int) (nm : List Nat) (i : Nat) : List V := [.int d,T JfS,T nm,.int (i : Nat)]
noncomputable def ruB (rls : List Ru) (m : List Nat) (i : Nat) : Bool := (ruAt rls i).B m
noncomputable def ruP (rls : List Ru) (d : Int) (a : Ps × List Nat) : List (List V) := ((ruI rls a.1.nm).filter (ruB rls (a.1.past ++ cutN a.2 none (some (d + 1))))).map (ruV d a.1.nm)
noncomputable def ruF (rls : List Ru) (ps : List Ps) (rows : List (List Nat)) (d : Int) : List (List V) := ((ps.zip rows).map (ruP rls d)).flatten
theorem Jbf (rls : List Ru) (nm : List Nat) : (ruI rls nm).length ≤ rls.length := Nat.le_trans (List.length_filter_le _ _) (by rw [List.length_range]; exact Nat.le_refl _)
theorem Jec (rls : List Ru) (d : Int) (a : Ps × List Nat) : (ruP rls d a).length ≤ rls.length := by
 unfold ruP
 rw [List.length_map]
 exact Nat.le_trans (List.length_filter_le _ _) (Jbf _ _)
theorem J8X (rls : List Ru) (d : Int) (h6 : rls.length ≤ 6) : ∀ l : List (Ps × List Nat),((l.map (ruP rls d)).flatten).length ≤ 6 * l.length
 | [] => Nat.le_refl _
 | a :: l => by
  have h1 := Jec rls d a
  have h2 := J8X rls d h6 l
  rw [List.map_cons,List.flatten_cons,List.length_append,List.length_cons]
  omega
theorem Jb9 {rls : List Ru} {ps : List Ps} {rows : List (List Nat)} {d : Int} (h6 : rls.length ≤ 6) (hp : ps.length ≤ 8) : (ruF rls ps rows d).length ≤ 48 := by
 have h := J8X rls d h6 (ps.zip rows)
 rw [List.length_zip] at h
 unfold ruF
 omega
noncomputable def brkB (wd : List Nat) (m o : Nat) : Bool := !decide (m = 45) && (if wd = J36 then decide (m = o) else !decide (m = o))
noncomputable def paB (rows : List (List Nat)) (d : Int) (p : Pr) : Bool := brkB p.wd (mkA (rows.getD p.i []) d) (mkA (rows.getD p.j []) d)
noncomputable def prAt (prs : List Pr) (i : Nat) : Pr := prs.getD i ⟨[],[],[],0,0⟩
noncomputable def paV (d : Int) (prs : List Pr) (i : Nat) : List V := [.int d,T JaT,T (prAt prs i).one,.int (i : Nat)]
noncomputable def paL (prs : List Pr) (rows : List (List Nat)) (d : Int) (n : Nat) : List (List V) := ((List.range n).filter fun i => paB rows d (prAt prs i)).map (paV d prs)
noncomputable def paF (prs : List Pr) (rows : List (List Nat)) (d : Int) : List (List V) := paL prs rows d prs.length
theorem J8R (prs : List Pr) (rows : List (List Nat)) (d : Int) (n : Nat) : (paL prs rows d n).length ≤ n := by
 unfold paL
 rw [List.length_map]
 exact Nat.le_trans (List.length_filter_le _ _) (by rw [List.length_range]; exact Nat.le_refl _)
noncomputable def Hq (C1 C2 : Addr) (H : Hp) (h : Addr) (dd : Int) (ks : List Nat) (nds : List Nd) (ps : List Ps) (ls : List (List Nat × Int)) (u5 u6 : List V) : Prop :=
 ∃ a1 a2 a3 a4 a5 a6 xs ys zs ws,J5R C2 H h dd ks a1 a2 a3 a4 a5 a6 ∧ H a1 = some (.lst xs) ∧ All2 NdAt H nds xs ∧ H a2 = some (.lst ys) ∧ All2 (PsO C1) H ps ys ∧ H a3 = some (.lst zs) ∧ All2 LvT H ls zs ∧ H a4 = some (.lst ws) ∧ H a5 = some (.lst u5) ∧ H a6 = some (.lst u6)
theorem Hq.same {C1 C2 : Addr} {H H' : Hp} {h : Addr} {dd : Int} {ks : List Nat} {nds : List Nd} {ps : List Ps} {ls : List (List Nat × Int)} {u5 u6 : List V} (x : Hq C1 C2 H h dd ks nds ps ls u5 u6) (s : Same H H') : Hq C1 C2 H' h dd ks nds ps ls u5 u6 := by
 obtain ⟨a1,a2,a3,a4,a5,a6,xs,ys,zs,ws,h1,h2,h3,h4,h5,h6,h7,h8,h9,h10⟩ := x
 exact ⟨a1,a2,a3,a4,a5,a6,xs,ys,zs,ws,h1.keeps s.keeps,s _ _ h2,h3.imp fun a y => NdAt.keeps a y _ _ s.keeps,s _ _ h4,h5.imp fun a y => PsO.keeps a y _ _ s.keeps,s _ _ h6,h7.imp fun a y => LvT.keeps a y _ _ s.keeps,s _ _ h8,s _ _ h9,s _ _ h10⟩
theorem Hq.k {C1 C2 : Addr} {H : Hp} {h : Addr} {dd : Int} {ks : List Nat} {nds : List Nd} {ps : List Ps} {ls : List (List Nat × Int)} {u5 u6 : List V} (x : Hq C1 C2 H h dd ks nds ps ls u5 u6) : Hk C1 C2 H h dd ks nds ps ls := by
 obtain ⟨a1,a2,a3,a4,a5,a6,xs,ys,zs,ws,h1,h2,h3,h4,h5,h6,h7,h8,h9,h10⟩ := x
 exact ⟨a1,a2,a3,a4,a5,a6,xs,ys,zs,ws,h1,h2,h3,h4,h5,h6,h7,h8⟩
theorem Hq.n {C1 C2 : Addr} {H : Hp} {h : Addr} {dd : Int} {ks : List Nat} {nds : List Nd} {ps : List Ps} {ls : List (List Nat × Int)} {u5 u6 : List V} (x : Hq C1 C2 H h dd ks nds ps ls u5 u6) : HouN C1 C2 H h (ps.map (·.nm)) := by
 obtain ⟨a1,a2,a3,a4,a5,a6,xs,ys,zs,ws,h1,h2,h3,h4,h5,_⟩ := x
 exact ⟨_,_,a1,a2,a3,a4,a5,a6,ys,h1,h4,All2.mapL (P := PerN C1) (h5.imp fun a y ⟨b,e,hp⟩ => ⟨b,_,_,_,_,e,hp⟩)⟩
noncomputable abbrev Jfj : List Nat := [115,107,105,108,108]
noncomputable abbrev JeW : List Nat := [108,101,97,118,101]
noncomputable abbrev J4Q : List Nat := [110,101,101,100]
noncomputable abbrev Jen : List Nat := [109,111,115,116]
noncomputable def onB (d : Int) (p : Ps × List Nat) : Bool := !decide (mkA p.2 d = 45)
noncomputable def skB (d : Int) (p : Ps × List Nat) : Bool := !decide (mkA p.2 d ∈ p.1.sk)
noncomputable def lvB (ls : List (List Nat × Int)) (d : Int) (p : Ps × List Nat) : Bool := J4X ls p.1.nm d
noncomputable def moB (d : Int) (p : Ps × List Nat) : Bool := decide (p.1.most < (dut (cutN p.2 none (some (d + 1))) : Int))
noncomputable def cntF (rows : List (List Nat)) (d : Int) (k : Nat) : Nat := (rows.filter fun r => decide (mkA r d = k)).length
noncomputable def neB (nds : List Nd) (rows : List (List Nat)) (d : Int) (k : Nat) : Bool := decide ((cntF rows d k : Int) < (J0F nds d k).1) || decide ((J0F nds d k).2 < (cntF rows d k : Int))
noncomputable def skV (d : Int) (p : Ps × List Nat) : List V := [.int d,T Jfj,T p.1.nm,T [mkA p.2 d]]
noncomputable def lvV (d : Int) (p : Ps × List Nat) : List V := [.int d,T JeW,T p.1.nm,T [mkA p.2 d]]
noncomputable def moV (d : Int) (p : Ps × List Nat) : List V := [.int d,T Jen,T p.1.nm,.int (dut (cutN p.2 none (some (d + 1))) : Int)]
noncomputable def neV (rows : List (List Nat)) (d : Int) (k : Nat) : List V := [.int d,T J4Q,T [k],.int (cntF rows d k : Int)]
noncomputable def skF (ps : List Ps) (rows : List (List Nat)) (d : Int) : List (List V) := (((ps.zip rows).filter (onB d)).filter (skB d)).map (skV d)
noncomputable def lvF (ls : List (List Nat × Int)) (ps : List Ps) (rows : List (List Nat)) (d : Int) : List (List V) := (((ps.zip rows).filter (onB d)).filter (lvB ls d)).map (lvV d)
noncomputable def moF (ps : List Ps) (rows : List (List Nat)) (d : Int) : List (List V) := (((ps.zip rows).filter (onB d)).filter (moB d)).map (moV d)
noncomputable def neF (ks : List Nat) (nds : List Nd) (rows : List (List Nat)) (d : Int) : List (List V) := (ks.filter (neB nds rows d)).map (neV rows d)
noncomputable def dayF (ks : List Nat) (nds : List Nd) (ls : List (List Nat × Int)) (rls : List Ru) (prs : List Pr) (ps : List Ps) (rows : List (List Nat)) (d : Int) : List (List V) := skF ps rows d ++ lvF ls ps rows d ++ neF ks nds rows d ++ moF ps rows d ++ ruF rls ps rows d ++ paF prs rows d
noncomputable def allF (ks : List Nat) (nds : List Nd) (ls : List (List Nat × Int)) (rls : List Ru) (prs : List Pr) (ps : List Ps) (rows : List (List Nat)) : Nat → List (List V)
 | 0 => []
 | n + 1 => allF ks nds ls rls prs ps rows n ++ dayF ks nds ls rls prs ps rows (0 + (n : Int))
theorem J5H {ps : List Ps} {rows : List (List Nat)} (f g : Ps × List Nat → Bool) (v : Ps × List Nat → List V) (hp : ps.length ≤ 8) : ((((ps.zip rows).filter f).filter g).map v).length ≤ 8 := by
 rw [List.length_map]
 have h1 := List.length_filter_le g ((ps.zip rows).filter f)
 have h2 := List.length_filter_le f (ps.zip rows)
 rw [List.length_zip] at h2
 omega
theorem JcP {ks : List Nat} {nds : List Nd} {rows : List (List Nat)} {d : Int} (hk : ks.length ≤ 4) : (neF ks nds rows d).length ≤ 4 := by
 unfold neF
 rw [List.length_map]
 have h1 := List.length_filter_le (neB nds rows d) ks
 omega
theorem JdE {ks : List Nat} {nds : List Nd} {ls : List (List Nat × Int)} {rls : List Ru} {prs : List Pr} {ps : List Ps} {rows : List (List Nat)} {d : Int} (hp : ps.length ≤ 8) (hk : ks.length ≤ 4) (h6 : rls.length ≤ 6) (h2' : prs.length ≤ 2) : (dayF ks nds ls rls prs ps rows d).length ≤ 78 := by
 unfold dayF
 have h1 : (skF ps rows d).length ≤ 8 := J5H _ _ _ hp
 have h2 : (lvF ls ps rows d).length ≤ 8 := J5H _ _ _ hp
 have h3 : (moF ps rows d).length ≤ 8 := J5H _ _ _ hp
 have h4 := JcP (nds := nds) (rows := rows) (d := d) hk
 have h5 := Jb9 (rows := rows) (d := d) h6 hp
 have h7 : (paF prs rows d).length ≤ prs.length := J8R _ _ _ _
 simp only [List.length_append]
 omega
theorem Jbc {ks : List Nat} {nds : List Nd} {ls : List (List Nat × Int)} {rls : List Ru} {prs : List Pr} {ps : List Ps} {rows : List (List Nat)} (hp : ps.length ≤ 8) (hk : ks.length ≤ 4) (h6 : rls.length ≤ 6) (h2' : prs.length ≤ 2) : ∀ n,(allF ks nds ls rls prs ps rows n).length ≤ 78 * n
 | 0 => Nat.le_refl _
 | n + 1 => by
  have h := Jbc (nds := nds) (ls := ls) (rows := rows) hp hk h6 h2' n
  have h2 := JdE (nds := nds) (ls := ls) (rows := rows) (d := 0 + (n : Int)) hp hk h6 h2'
  rw [allF,List.length_append]
  omega
noncomputable def ROk (rows : List (List Nat)) (d : Int) : Prop := 0 ≤ d ∧ ∀ r ∈ rows,d < (r.length : Int) ∧ r.length ≤ 100
noncomputable def Jfw (C1 C2 : Addr) : Sp := fun vs H Q _ => ∃ (h r : Addr) (d dd : Int) (ks : List Nat) (nds : List Nd) (ps : List Ps) (ls : List (List Nat × Int)) (u5 u6 : List V) (rows : List (List Nat)),vs = [.ref h,.ref r,.int d] ∧ Hq C1 C2 H h dd ks nds ps ls u5 u6 ∧ H r = some (.lst (rows.map T)) ∧ rows.length = ps.length ∧ ps.length ≤ 8 ∧ ROk rows d ∧
 ∀ (D : Addr) (H' : Hp) (ys : List V),Same H H' → H D = none → H' D = some (.lst ys) → All2 (OnT C1) H' ((ps.zip rows).filter (onB d)) ys → Q (.ref D) H'
noncomputable def Jdx (C1 C2 : Addr) (F : List Nat → List Nd → List (List Nat × Int) → List Ps → List (List Nat) → Int → List (List V)) : Sp := fun vs H Q _ => ∃ (h r : Addr) (d dd : Int) (ks : List Nat) (nds : List Nd) (ps : List Ps) (ls : List (List Nat × Int)) (u5 u6 : List V) (rows : List (List Nat)),vs = [.ref h,.ref r,.int d] ∧ Hq C1 C2 H h dd ks nds ps ls u5 u6 ∧ H r = some (.lst (rows.map T)) ∧ rows.length = ps.length ∧ ps.length ≤ 8 ∧ ks.length ≤ 4 ∧ ROk rows d ∧
 ∀ (D : Addr) (H' : Hp) (ys : List V),Same H H' → H D = none → H' D = some (.lst ys) → All2 TpV H' (F ks nds ls ps rows d) ys → Q (.ref D) H'
noncomputable def Jdq (P : Program) (w : World) (K : PySem.W.Frag) (mg : Str → Option Value) (base : Heap) (C1 C2 : Addr) : Sp := fun vs H Q _ => ∃ (h : Addr) (p dd : Int) (ks : List Nat) (nds : List Nd) (ps : List Ps) (ls : List (List Nat × Int)) (u5 u6 : List V) (n : Ps) (rls : List Ru),vs = [.ref h,.int p] ∧ Hq C1 C2 H h dd ks nds ps ls u5 u6 ∧ 0 ≤ p ∧ ps[p.toNat]? = some n ∧ All2 (RuT P w K mg base) H rls u5 ∧ rls.length ≤ 6 ∧ ∀ (D : Addr) (H' : Hp) (ys : List V),Same H H' → H' D = some (.lst ys) → All2 (FdT P w K mg base rls) H' (ruI rls n.nm) ys → Q (.ref D) H'
noncomputable def Jfu (P : Program) (w : World) (K : PySem.W.Frag) (mg : Str → Option Value) (base : Heap) (C1 C2 : Addr) : Sp := fun vs H Q _ => ∃ (h r : Addr) (d dd : Int) (ks : List Nat) (nds : List Nd) (ps : List Ps) (ls : List (List Nat × Int)) (u5 u6 : List V) (rows : List (List Nat)) (rls : List Ru),vs = [.ref h,.ref r,.int d] ∧ Hq C1 C2 H h dd ks nds ps ls u5 u6 ∧ H r = some (.lst (rows.map T)) ∧ rows.length = ps.length ∧ ps.length ≤ 8 ∧ ROk rows d ∧ (∀ n ∈ ps,n.past.length ≤ 100) ∧ All2 (RuT P w K mg base) H rls u5 ∧ rls.length ≤ 6 ∧
 ∀ (D : Addr) (H' : Hp) (ys : List V),Same H H' → H D = none → H' D = some (.lst ys) → All2 TpV H' (ruF rls ps rows d) ys → Q (.ref D) H'
noncomputable def JfA (C1 C2 : Addr) : Sp := fun vs H Q _ => ∃ (h r : Addr) (d dd : Int) (ks : List Nat) (nds : List Nd) (ps : List Ps) (ls : List (List Nat × Int)) (u5 u6 : List V) (rows : List (List Nat)) (prs : List Pr),vs = [.ref h,.ref r,.int d] ∧ Hq C1 C2 H h dd ks nds ps ls u5 u6 ∧ H r = some (.lst (rows.map T)) ∧ rows.length = ps.length ∧ ps.length ≤ 8 ∧ ROk rows d ∧ All2 PrT H prs u6 ∧ prs.length ≤ 2 ∧ (∀ p ∈ prs,PrIn ps p) ∧
 ∀ (D : Addr) (H' : Hp) (ys : List V),Same H H' → H D = none → H' D = some (.lst ys) → All2 TpV H' (paF prs rows d) ys → Q (.ref D) H'
noncomputable def JeA : Sp := fun vs H Q _ => ∃ (wd : List Nat) (m o : Nat),vs = [T wd,T [m],T [o]] ∧ Q (.bl (brkB wd m o)) H
noncomputable def Jbo (P : Program) (w : World) (K : PySem.W.Frag) (mg : Str → Option Value) (base : Heap) (C1 C2 : Addr) : Sp := fun vs H Q _ => ∃ (h r : Addr) (dd : Int) (ks : List Nat) (nds : List Nd) (ps : List Ps) (ls : List (List Nat × Int)) (u5 u6 : List V) (rows : List (List Nat)) (rls : List Ru) (prs : List Pr),vs = [.ref h,.ref r] ∧ Hq C1 C2 H h dd ks nds ps ls u5 u6 ∧ H r = some (.lst (rows.map T)) ∧ rows.length = ps.length ∧ ps.length ≤ 8 ∧ ks.length ≤ 4 ∧ 0 ≤ dd ∧ dd ≤ 10 ∧ (∀ r ∈ rows,(r.length : Int) = dd) ∧ (∀ n ∈ ps,n.past.length ≤ 100) ∧ All2 (RuT P w K mg base) H rls u5 ∧ rls.length ≤ 6 ∧ All2 PrT H prs u6 ∧ prs.length ≤ 2 ∧ (∀ p ∈ prs,PrIn ps p) ∧
 ∀ (D : Addr) (H' : Hp) (ys : List V),Same H H' → H D = none → H' D = some (.lst ys) → All2 TpV H' (allF ks nds ls rls prs ps rows dd.toNat) ys → Q (.ref D) H'
section
variable {P : Program} {w : World} {K : PySem.W.Frag} {mg : Str → Option Value} {base : Heap} {Jg J7 J4 Ji J1 J2 Jk Jc Ja Jb Jf J9 : Addr}
local macro_rules | `(tactic| walk_at "lk") => `(tactic| first | exact J67 _ _ _ _ _ | exact J5C _ _ _ _ _ | exact J4O _ _ _ _ _ | exact JaR _ _ _ _ _ | exact J2r _ _ _ _ _ _ _ _ | exact J3R _ _ _ _ _ _ _ _ | exact J7h _ _ _ _ _ _ _ _ | exact J77 _ _ _ _ _ _ _ _ | exact Jb3 _ _ _ _ _ _ _ _ | exact J9R _ _ _ _ _ _ _ _ | exact J9J _ _ _ _ _ _ _ _ | exact J8W _ _ _ _ _ _ _ _ | exact J4R _ _ _ _ _ _ _ _ | exact J3W _ _ _ _ _ _ _ _ | exact Or.inr (SqT.of (by with_reducible assumption)))
theorem J52 (tx : Tx K mg Jg J7 J4 Ji J1 J2 Jk Jc Ja Jb Jf J9) : FnG P w K mg base "on_duty" 1 ["house","rota","day"] (Jfw J7 J4) := by
 refine tx.Jbm.g Jaa (fun _ _ _ _ _ _ us hl => match us,hl with | [_,_,_],_ => rfl) (fun vs H Q E h => ?_) (fun f cdv A outer s H vs Q E hr h => ?_)
 ·obtain ⟨h,r,d,dd,ks,nds,ps,ls,u5,u6,rows,rfl,_⟩ := h
  rfl
 ·obtain ⟨h,r,d,dd,ks,nds,ps,ls,u5,u6,rows,rfl,⟨a1,a2,a3,a4,a5,a6,xs,ys,zs,ws,⟨dx,h1⟩,h2,h3,h4,h5,_⟩,hr1,hl,hp8,hR,q⟩ := h
  refine ⟨_,(Jh (Jv (JP (osc := J3 J2o) (ON := ["house","rota","day"]) (N := ["person","row","day"]) (js := [none,none,some 2]) ⟨rfl,by decide +kernel,by decide +kernel,by decide +kernel,rfl,by decide +kernel⟩ rfl rfl rfl (J4W (K := K) rfl rfl tx.J42 (J0 (Jt (K := K) rfl (pv 0) rfl) (J0 (pv 1) J5))) (fun _ _ _ _ _ => J3S (K := K) (i := 0) (j := 1) rfl rfl (show List.Nodup (["person","row","day"] : List Str) from by decide +kernel) rfl rfl (Or.inl rfl) (Or.inl rfl)) (fun _ _ _ _ _ => J0o (Js J2U (Jo J09 (pv 1) (pv 2) (fun _ _ => rfl)) (JU (l := [45]) (by decide +kernel)) (Jw _))) (fun _ _ _ _ _ => (J0t (J0 (pv 0) (J0 (pv 1) J5))))))),?_⟩
  walk_at "st"
  have cH := tx.JN.cl
  have nH := tx.JG
  have hyl := h5.len
  walk_at "rd"
  refine J72 (ps.zip rows) (onB d) (OnT J7) (fun σ => ∃ v1 v2,σ = [v1,v2,some (.int d)]) (SqL.of h4) (SqL.of hr1) ?_ ?_ ?_ ⟨_,_,rfl⟩ (fun a y Ha Hb k h => OnT.keeps a y Ha Hb k h) (fun i a u v p σ H' ha hu hv hσ s' hp Rf Rt hF hR' => ?_) (fun D H' ys hD s' hys hDD => ?_)
  ·rw [List.length_zip]; omega
  ·rw [List.length_zip,List.length_map]; omega
  ·rw [List.length_zip]; omega
  ·obtain ⟨v1,v2,rfl⟩ := hσ
   obtain ⟨n,row⟩ := a
   obtain ⟨hn,hrow⟩ := List.getElem?_zip_eq_some.mp ha
   obtain ⟨y,hy,pa,rfl,hpa⟩ := h5.get hn
   rw [hu] at hy
   cases hy
   rw [List.getElem?_map,hrow] at hv
   cases hv
   obtain ⟨hd,hrl⟩ := hR.2 row (List.mem_of_getElem? hrow)
   have e := J4c hR.1 hd
   have s2 : Same H' (upd H' p (.tup [V.ref pa,T row])) := JB hp _
   walk_at "rd"
   refine ite2 (fun c => ?_) (fun c => ?_)
   ·walk_at "rd"
    intro t ht
    have s3 := s2.trans (JB ht (.tup [V.ref pa,T row]))
    refine hR' _ _ _ ?_ ⟨_,_,rfl⟩ s3 ⟨t,pa,rfl,Jd,hpa.keeps (s'.trans s3).keeps⟩
    unfold onB
    rw [decide_eq_false fun z => ?_]
    ·rfl
    ·have z' : mkA row d = 45 := z
     rw [z'] at c
     exact absurd c (by decide)
   ·refine hF _ _ ?_ ⟨_,_,rfl⟩ s2
    unfold onB
    have : mkA row d = 45 := Decidable.byContradiction fun z => c (by rw [decide_eq_false fun y => z (by simpa using J1S y)]; rfl)
    rw [decide_eq_true this]
    rfl
  ·exact q D H' ys s' hD hDD hys
theorem J6A (tx : Tx K mg Jg J7 J4 Ji J1 J2 Jk Jc Ja Jb Jf J9) : FnG P w K mg base "skill_faults" 2 ["house","rota","day"] (Jdx J7 J4 fun _ _ _ ps rows d => skF ps rows d) := by
 have J2h := J52 (P := P) (w := w) (base := base) tx
 refine tx.J6a.g J3y (fun _ _ _ _ _ _ us hl => match us,hl with | [_,_,_],_ => rfl) (fun vs H Q E h => ?_) (fun f cdv A outer s H vs Q E hr h => ?_)
 ·obtain ⟨h,r,d,dd,ks,nds,ps,ls,u5,u6,rows,rfl,_⟩ := h
  rfl
 ·obtain ⟨h,r,d,dd,ks,nds,ps,ls,u5,u6,rows,rfl,hq,hr1,hl,hp8,hk4,hR,q⟩ := h
  refine ⟨_,(J6 (Jq (i := 3) J3y.nd rfl (Or.inl rfl) (JO J2h (hr.mono (by decide)) (J0 (pv 0) (J0 (pv 1) (J0 (pv 2) J5)))))
   (Jh (Jv (JP (osc := J3 J0A) (ON := ["house","rota","day","having"]) (N := ["person","row","day"]) (js := [none,none,some 2]) ⟨rfl,by decide +kernel,by decide +kernel,by decide +kernel,rfl,by decide +kernel⟩ rfl rfl rfl (JZ (K := K) rfl (pv 3)) (fun _ _ _ _ _ => J3S (K := K) (i := 0) (j := 1) rfl rfl (show List.Nodup (["person","row","day"] : List Str) from by decide +kernel) rfl rfl (Or.inl rfl) (Or.inl rfl)) (fun _ _ _ _ _ => J0o (Js J84 (Jo J09 (pv 1) (pv 2) (fun _ _ => rfl)) (Jt (K := K) rfl (pv 0) rfl) rfl)) (fun _ _ _ _ _ => (J0t (J0 (pv 2) (J0 (JU (l := [115,107,105,108,108]) (by decide +kernel)) (J0 (Jt (K := K) rfl (pv 0) rfl) (J0 (Jo J09 (pv 1) (pv 2) (fun _ _ => rfl)) J5)))))))))),?_⟩
  walk_at "st"
  clear J2h
  have cP := tx.J0n.cl
  have nP1 := tx.JR
  have nP2 := tx.J0q
  walk_at "rd"
  intro D1 H1 ys s1 nD1 hD1 hA
  have hyl := hA.len
  have hfl := List.length_filter_le (onB d) (ps.zip rows)
  rw [List.length_zip] at hfl
  walk_at "rd"
  refine JF ((ps.zip rows).filter (onB d)) (skB d) (fun p y H => TpV (skV d p) y H) (fun σ => ∃ v1 v2,σ = [v1,v2,some (.int d)]) (JL (SqL.of hD1)) hyl ?_ ⟨_,_,rfl⟩ (fun a y Ha Hb k h => TpV.keeps _ y Ha Hb k h) (fun i a v σ H' ha hv hσ s' Rf Rt hF hR' => ?_) (fun D H' zs hD s' hzs hDD => ?_)
  ·omega
  ·obtain ⟨v1,v2,rfl⟩ := hσ
   obtain ⟨n,row⟩ := a
   obtain ⟨y,hy,t,pa,rfl,ht,dxp,hpa⟩ := hA.get ha
   rw [hv] at hy
   cases hy
   have hm := (List.mem_filter.mp (List.mem_of_getElem? ha)).1
   obtain ⟨hd,hrl⟩ := hR.2 row (List.of_mem_zip hm).2
   have e := J4c hR.1 hd
   have ht' := s' _ _ ht
   have hpa' := s' _ _ hpa
   walk_at "rd"
   refine ite2 (fun c => ?_) (fun c => ?_)
   ·walk_at "rd"
    intro t2 ht2
    exact hR' _ _ _ c ⟨_,_,rfl⟩ (JB ht2 _) ⟨t2,rfl,Jd⟩
   ·exact hF _ _ (Bool.eq_false_iff.mpr c) ⟨_,_,rfl⟩ (Same.refl _)
  ·exact q D H' zs (s1.trans s') (s1.free hD) hDD hzs.mapL
theorem J6d (tx : Tx K mg Jg J7 J4 Ji J1 J2 Jk Jc Ja Jb Jf J9) : FnG P w K mg base "leave_faults" 2 ["house","rota","day"] (Jdx J7 J4 fun _ _ ls ps rows d => lvF ls ps rows d) := by
 have J2h := J52 (P := P) (w := w) (base := base) tx
 refine tx.J6b.g J3x (fun _ _ _ _ _ _ us hl => match us,hl with | [_,_,_],_ => rfl) (fun vs H Q E h => ?_) (fun f cdv A outer s H vs Q E hr h => ?_)
 ·obtain ⟨h,r,d,dd,ks,nds,ps,ls,u5,u6,rows,rfl,_⟩ := h
  rfl
 ·obtain ⟨h,r,d,dd,ks,nds,ps,ls,u5,u6,rows,rfl,hq,hr1,hl,hp8,hk4,hR,q⟩ := h
  refine ⟨_,(J6 (Jq (i := 3) J3x.nd rfl (Or.inl rfl) (JO J2h (hr.mono (by decide)) (J0 (pv 0) (J0 (pv 1) (J0 (pv 2) J5)))))
   (Jh (Jv (JP (osc := J3 J0C) (ON := ["house","rota","day","having"]) (N := ["person","row","day","house"]) (js := [none,none,some 2,some 0]) ⟨rfl,by decide +kernel,by decide +kernel,by decide +kernel,rfl,by decide +kernel⟩ rfl rfl rfl (JZ (K := K) rfl (pv 3)) (fun _ _ _ _ _ => J3S (K := K) (i := 0) (j := 1) rfl rfl (show List.Nodup (["person","row","day","house"] : List Str) from by decide +kernel) rfl rfl (Or.inl rfl) (Or.inl rfl)) (fun _ _ _ _ _ => J0o (Js (J8M (K := K) rfl (J86 hr)) (J0t (J0 (Jt (K := K) rfl (pv 0) rfl) (J0 (pv 2) J5))) (Jt (K := K) rfl (pv 3) rfl) rfl)) (fun _ _ _ _ _ => (J0t (J0 (pv 2) (J0 (JU (l := [108,101,97,118,101]) (by decide +kernel)) (J0 (Jt (K := K) rfl (pv 0) rfl) (J0 (Jo J09 (pv 1) (pv 2) (fun _ _ => rfl)) J5)))))))))),?_⟩
  walk_at "st"
  clear J2h
  have cH := tx.JN.cl
  have nH := tx.J0U
  have cP := tx.J0n.cl
  have nP1 := tx.JR
  walk_at "rd"
  intro D1 H1 ys s1 nD1 hD1 hA
  have hyl := hA.len
  have hfl := List.length_filter_le (onB d) (ps.zip rows)
  rw [List.length_zip] at hfl
  obtain ⟨a1,a2,a3,a4,a5,a6,xs',ys',zs',ws',⟨dx,h1⟩,_,_,_,_,h6,h7,_⟩ := hq
  walk_at "rd"
  refine JF ((ps.zip rows).filter (onB d)) (lvB ls d) (fun p y H => TpV (lvV d p) y H) (fun σ => ∃ v1 v2,σ = [v1,v2,some (.int d),some (.ref h)]) (JL (SqL.of hD1)) hyl ?_ ⟨_,_,rfl⟩ (fun a y Ha Hb k h => TpV.keeps _ y Ha Hb k h) (fun i a v σ H' ha hv hσ s' Rf Rt hF hR' => ?_) (fun D H' zs hD s' hzs hDD => ?_)
  ·omega
  ·obtain ⟨v1,v2,rfl⟩ := hσ
   obtain ⟨n,row⟩ := a
   obtain ⟨y,hy,t,pa,rfl,ht,dxp,hpa⟩ := hA.get ha
   rw [hv] at hy
   cases hy
   have hm := (List.mem_filter.mp (List.mem_of_getElem? ha)).1
   obtain ⟨hd,hrl⟩ := hR.2 row (List.of_mem_zip hm).2
   have e := J4c hR.1 hd
   have ht' := s' _ _ ht
   have hpa' := s' _ _ hpa
   have t1 := s1.trans s'
   walk_at "rd"
   intro t2 ht2
   obtain ⟨H2,e2,ht22,s2⟩ := newt (xs := [T n.nm,V.int d]) ht2
   rw [← e2]
   have k1 := s2 _ _ (t1 _ _ h1)
   have k6 := s2 _ _ (t1 _ _ h6)
   have kp := s2 _ _ hpa'
   have k7 := Jb0 (K := K) (h7.imp fun a y => LvT.keeps a y _ _ (t1.trans s2).keeps)
   have fl : ([T n.nm,V.int d] : List V).all J15 = true := rfl
   walk_at "rd"
   refine ite2 (fun c => ?_) (fun c => ?_)
   ·walk_at "rd"
    intro t3 ht3
    exact hR' _ _ _ c ⟨_,_,rfl⟩ (s2.trans (JB ht3 _)) ⟨t3,rfl,Jd⟩
   ·exact hF _ _ (Bool.eq_false_iff.mpr c) ⟨_,_,rfl⟩ s2
  ·exact q D H' zs (s1.trans s') (s1.free hD) hDD hzs.mapL
theorem J7s (tx : Tx K mg Jg J7 J4 Ji J1 J2 Jk Jc Ja Jb Jf J9) : FnG P w K mg base "need_faults" 2 ["house","rota","day"] (Jdx J7 J4 fun ks nds _ _ rows d => neF ks nds rows d) := by
 have J70 := Jce (P := P) (w := w) (base := base) tx
 refine tx.J7J.g J1A (fun _ _ _ _ _ _ us hl => match us,hl with | [_,_,_],_ => rfl) (fun vs H Q E h => ?_) (fun f cdv A outer s H vs Q E hr h => ?_)
 ·obtain ⟨h,r,d,dd,ks,nds,ps,ls,u5,u6,rows,rfl,_⟩ := h
  rfl
 ·obtain ⟨h,r,d,dd,ks,nds,ps,ls,u5,u6,rows,rfl,hq,hr1,hl,hp8,hk4,hR,q⟩ := h
  refine ⟨_,(J6 (Jq (i := 3) J1A.nd rfl (Or.inl rfl) (J0X J5))
   (J6 (J0G PassesOwn.never rfl (J5E (Jt (K := K) rfl (pv 0) rfl)) (Jm (i := 4) J1A.nd rfl (Or.inr rfl)) (J6 (Jq (i := 5) J1A.nd rfl (Or.inl rfl) (J71 J70 (hr.mono (by decide)) (pv 0) (J0 (pv 2) (J0 (pv 4) J5))))
   (J6 (Jq (i := 6) J1A.nd rfl (Or.inl rfl) (Ju (JD (K := K) rfl) rfl tx.J0g PySem.boot_len (J0 (JP (osc := J3 J0R) (ON := ["house","rota","day","found","kind","need","many"]) (N := ["row","kind","day"]) (js := [none,some 4,some 2]) ⟨rfl,by decide +kernel,by decide +kernel,by decide +kernel,rfl,by decide +kernel⟩ rfl rfl rfl (JZ (K := K) rfl (pv 1)) (fun _ _ _ _ _ => Jm (i := 0) (show List.Nodup (["row","kind","day"] : List Str) from by decide +kernel) rfl (Or.inl rfl)) (fun _ _ _ _ _ => J0o (Js J0P (Jo J09 (pv 0) (pv 2) (fun _ _ => rfl)) (pv 1) (Jw _))) (fun _ _ _ _ _ => (pv 0))) J5)))
   (Jh (J3N (J0E (PW.pt (J3z (Js JcA (pv 6) (Jo (JC (K := K) rfl) (pv 5) J8 (fun _ _ => rfl)) (Jw _)) (J3p (Js J3Q (pv 6) (Jo (JC (K := K) rfl) (pv 5) J8 (fun _ _ => rfl)) (Jw _))))) (Jh (J2X (J4N PySem.F.plainAttrs_list PySem.F.slot_list_append PySem.F.type_list_append J1w (pv 3) (J0 (J0t (J0 (pv 2) (J0 (JU (l := [110,101,101,100]) (by decide +kernel)) (J0 (pv 4) (J0 (pv 6) J5))))) J5)))) JK))))))
   (Jh (Jv (pv 3))))),?_⟩
  walk_at "st"
  clear J70
  have cH := tx.JN.cl
  have nH := tx.J0T
  have hq0 := hq
  obtain ⟨a1,a2,a3,a4,a5,a6,xs',ys',zs',ws',⟨dx,h1⟩,_⟩ := hq0
  walk_at "rd"
  intro fl nfl
  have k1 := JB nfl (.lst []) _ _ h1
  walk_at "rd"
  refine Jb4 (l := ks) (fun i σ H2 => Here (∃ v1 v2 v3 xs,σ = [some (.ref h),some (.ref r),some (.int d),some (.ref fl),v1,v2,v3] ∧ H2 fl = some (.lst xs) ∧ All2 TpV H2 (((ks.take i).filter (neB nds rows d)).map (neV rows d)) xs ∧ Same H H2)) (Here.mk ⟨none,none,none,[],rfl,Jd,trivial,JB nfl _⟩) ?_ ?_
  ·rintro i k σ H2 hk hv
   obtain ⟨v1,v2,v3,xs,rfl,hf2,hA2,s2⟩ := hv.out
   have hq2 := (hq.same s2).k
   have ob2 := s2 _ _ h1
   have hxl : xs.length ≤ 10 := by
    have h1 := hA2.len
    have h2 := List.length_filter_le (neB nds rows d) (ks.take i)
    rw [List.length_map] at h1
    rw [List.length_take] at h2
    omega
   walk_at "rd"
   intro t1 H3 s3 ht1
   have hr3 := s3 _ _ (s2 _ _ hr1)
   walk_at "rd"
   refine JF rows (fun r => decide (mkA r d = k)) (fun _ _ _ => True) (fun σ => ∃ v,σ = [v,some (T [k]),some (.int d)]) (JL (SqL.of hr3)) (by rw [List.length_map]) (by omega) ⟨_,rfl⟩ (fun _ _ _ _ _ z => z) (fun j row v σ H' hj hv hσ s' Rf Rt hF hR' => ?_) (fun D H4 ys hD s4 hys hDD => ?_)
   ·obtain ⟨w1,rfl⟩ := hσ
    rw [List.getElem?_map,hj] at hv
    cases hv
    obtain ⟨hd,hrl⟩ := hR.2 row (List.mem_of_getElem? hj)
    have e := J4c hR.1 hd
    walk_at "rd"
    refine ite2 (fun c => ?_) (fun c => ?_)
    ·have c' : mkA row d = k := by simpa using J1S (of_decide_eq_true c)
     walk_at "rd"
     exact hR' _ _ _ (decide_eq_true c') ⟨_,rfl⟩ (Same.refl _) trivial
    ·exact hF _ _ (decide_eq_false fun z => c (decide_eq_true (by rw [z]))) ⟨_,rfl⟩ (Same.refl _)
   have hyl : ys.length = cntF rows d k := hys.len
   have ht4 := s4 _ _ ht1
   have hf4 := s4 _ _ (s3 _ _ hf2)
   have e0 := at0 (V.int (J0F nds d k).1) (V.int (J0F nds d k).2)
   have e1 := at1 (V.int (J0F nds d k).1) (V.int (J0F nds d k).2)
   have t24 := s3.trans s4
   have ek : ((ks.take (i + 1)).filter (neB nds rows d)).map (neV rows d) = ((ks.take i).filter (neB nds rows d)).map (neV rows d) ++ (if neB nds rows d k = true then [neV rows d k] else []) := by
    rw [List.take_add_one,hk,List.filter_append,List.map_append]
    congr 1
    show (List.filter (neB nds rows d) [k]).map _ = _
    rw [List.filter_cons]
    split <;> rfl
   walk_at "rd"
   rw [hyl]
   refine tCut.mk (fun σ' H' => Here (∃ v1 v2 v3 xs',σ' = [some (.ref h),some (.ref r),some (.int d),some (.ref fl),v1,v2,v3] ∧ H' fl = some (.lst xs') ∧ All2 TpV H' (((ks.take (i + 1)).filter (neB nds rows d)).map (neV rows d)) xs' ∧ Same H H')) ?_ (fun σ' H' hv => hv)
   have put : neB nds rows d k = true → ∀ t2,H4 t2 = none → Here (∃ v1 v2 v3 xs',[some (V.ref h),some (.ref r),some (.int d),some (.ref fl),some (T [k]),some (.ref t1),some (.int (cntF rows d k : Nat))] = [some (.ref h),some (.ref r),some (.int d),some (.ref fl),v1,v2,v3] ∧ upd (upd H4 t2 (.tup [.int d,T J4Q,T [k],.int (cntF rows d k : Nat)])) fl (.lst (xs ++ [.ref t2])) fl = some (.lst xs') ∧ All2 TpV (upd (upd H4 t2 (.tup [.int d,T J4Q,T [k],.int (cntF rows d k : Nat)])) fl (.lst (xs ++ [.ref t2]))) (((ks.take (i + 1)).filter (neB nds rows d)).map (neV rows d)) xs' ∧ Same H (upd (upd H4 t2 (.tup [.int d,T J4Q,T [k],.int (cntF rows d k : Nat)])) fl (.lst (xs ++ [.ref t2])))) := fun hb t2 ht2 => by
    have s5 : Same H4 (upd H4 t2 (.tup [.int d,T J4Q,T [k],.int (cntF rows d k : Nat)])) := JB ht2 _
    have kk : JY (upd H4 t2 (.tup [.int d,T J4Q,T [k],.int (cntF rows d k : Nat)])) (upd (upd H4 t2 (.tup [.int d,T J4Q,T [k],.int (cntF rows d k : Nat)])) fl (.lst (xs ++ [.ref t2]))) := J0z (s5 _ _ hf4)
    refine Here.mk ⟨_,_,_,xs ++ [.ref t2],rfl,Jd,?_,((s2.trans t24).trans s5).upd nfl⟩
    rw [ek,if_pos hb]
    exact All2.snoc (hA2.imp fun a y => TpV.keeps a y _ _ ((t24.trans s5).keeps.trans kk)) ⟨t2,rfl,kk _ _ Jd (fun zs z => by cases z)⟩
   walk_at "rd"
   refine ite2 (fun c1 => ?_) (fun c1 => ?_)
   ·walk_at "rd"
    intro t2 ht2
    have hf5 := JB ht2 (.tup [.int d,T J4Q,T [k],.int (cntF rows d k : Nat)]) _ _ hf4
    walk_at "rd"
    exact put (by unfold neB; rw [c1]; rfl) t2 ht2
   ·walk_at "rd"
    refine ite2 (fun c2 => ?_) (fun c2 => ?_)
    ·walk_at "rd"
     intro t2 ht2
     have hf5 := JB ht2 (.tup [.int d,T J4Q,T [k],.int (cntF rows d k : Nat)]) _ _ hf4
     walk_at "rd"
     exact put (by unfold neB; rw [c2,Bool.or_true]) t2 ht2
    ·have hb : ¬ neB nds rows d k = true := by unfold neB; rw [Bool.eq_false_iff.mpr c1,Bool.eq_false_iff.mpr c2]; decide
     walk_at "rd"
     refine Here.mk ⟨_,_,_,xs,rfl,hf4,?_,s2.trans t24⟩
     rw [ek,if_neg hb,List.append_nil]
     exact hA2.imp fun a y => TpV.keeps a y _ _ t24.keeps
  ·rintro σ H2 hv
   obtain ⟨v1,v2,v3,xs,rfl,hf2,hA2,s2⟩ := hv.out
   rw [List.take_of_length_le (Nat.le_refl _)] at hA2
   walk_at "rd"
   exact q fl H2 xs s2 nfl hf2 hA2
theorem J7D (tx : Tx K mg Jg J7 J4 Ji J1 J2 Jk Jc Ja Jb Jf J9) : FnG P w K mg base "most_faults" 2 ["house","rota","day"] (Jdx J7 J4 fun _ _ _ ps rows d => moF ps rows d) := by
 have J2h := J52 (P := P) (w := w) (base := base) tx
 have J2y := J5P (P := P) (w := w) (base := base) tx
 refine tx.J7B.g J1E (fun _ _ _ _ _ _ us hl => match us,hl with | [_,_,_],_ => rfl) (fun vs H Q E h => ?_) (fun f cdv A outer s H vs Q E hr h => ?_)
 ·obtain ⟨h,r,d,dd,ks,nds,ps,ls,u5,u6,rows,rfl,_⟩ := h
  rfl
 ·obtain ⟨h,r,d,dd,ks,nds,ps,ls,u5,u6,rows,rfl,hq,hr1,hl,hp8,hk4,hR,q⟩ := h
  refine ⟨_,(J6 (Jq (i := 3) J1E.nd rfl (Or.inl rfl) (J0X J5))
   (J6 (J0G PassesOwn.never rfl (JZ (K := K) rfl (JO J2h (hr.mono (by decide)) (J0 (pv 0) (J0 (pv 1) (J0 (pv 2) J5))))) (J2C rfl (JE (Jm (i := 4) J1E.nd rfl (Or.inl rfl)) (JE (Jm (i := 5) J1E.nd rfl (Or.inl rfl)) J1z))) (J6 (Jq (i := 6) J1E.nd rfl (Or.inl rfl) (JO J2y (hr.mono (by decide)) (J0 (J1T J3V (pv 5) J2u (J2b (Jl J00 (pv 2) J8))) J5)))
   (Jh (J3N (J0E (Js J3Q (pv 6) (Jt (K := K) rfl (pv 4) rfl) (Jw _)) (Jh (J2X (J4N PySem.F.plainAttrs_list PySem.F.slot_list_append PySem.F.type_list_append J1w (pv 3) (J0 (J0t (J0 (pv 2) (J0 (JU (l := [109,111,115,116]) (by decide +kernel)) (J0 (Jt (K := K) rfl (pv 4) rfl) (J0 (pv 6) J5))))) J5)))) JK)))))
   (Jh (Jv (pv 3))))),?_⟩
  walk_at "st"
  clear J2h J2y
  have cP := tx.J0n.cl
  have nP1 := tx.JR
  have nP2 := tx.J0u
  walk_at "rd"
  intro fl nfl
  obtain ⟨H0,e0,hf0,s0⟩ := newl (xs := []) nfl
  rw [← e0]
  have hq0 := hq.same s0
  have hr0 := s0 _ _ hr1
  walk_at "rd"
  intro D1 H1 ys s1 nD1 hD1 hA
  have hyl := hA.len
  have hfl := List.length_filter_le (onB d) (ps.zip rows)
  rw [List.length_zip] at hfl
  have hf1 := s1 _ _ hf0
  have nfD : D1 ≠ fl := (Je hf0 nD1).symm
  walk_at "rd"
  generalize hon : (ps.zip rows).filter (onB d) = on at hA hyl hfl
  refine J9Y (K := K) (xs := ys) (fun i σ H2 => Here (∃ v1 v2 v3 xs,σ = [some (.ref h),some (.ref r),some (.int d),some (.ref fl),v1,v2,v3] ∧ H2 fl = some (.lst xs) ∧ All2 TpV H2 (((on.take i).filter (moB d)).map (moV d)) xs ∧ H2 D1 = some (.lst ys) ∧ JY H1 H2 ∧ Same H H2)) (Here.mk ⟨none,none,none,[],rfl,hf1,trivial,hD1,(Same.refl _).keeps,s0.trans s1⟩) (fun i σ H2 _ hv => by obtain ⟨_,_,_,_,_,_,_,e,_⟩ := hv.out; exact SqL.of e) ?_ ?_
  ·rintro i x σ H2 hx hv
   obtain ⟨v1,v2,v3,xs,rfl,hf2,hA2,hD2,k2,s2⟩ := hv.out
   obtain ⟨p,hp,hpt⟩ := hA.back hx
   have hm : p ∈ ps.zip rows := by rw [← hon] at hp; exact (List.mem_filter.mp (List.mem_of_getElem? hp)).1
   obtain ⟨n,row⟩ := p
   obtain ⟨t,pa,rfl,ht,dxp,hpa⟩ := OnT.keeps _ _ _ _ k2 hpt
   obtain ⟨hd,hrl⟩ := hR.2 row (List.of_mem_zip hm).2
   have hxl : xs.length ≤ 10 := by
    have h1 := hA2.len
    have h2 := List.length_filter_le (moB d) (on.take i)
    rw [List.length_map] at h1
    rw [List.length_take] at h2
    omega
   have cl := J3u row none (some (d + 1))
   have ek : ((on.take (i + 1)).filter (moB d)).map (moV d) = ((on.take i).filter (moB d)).map (moV d) ++ (if moB d (n,row) = true then [moV d (n,row)] else []) := by
    rw [List.take_add_one,hp,List.filter_append,List.map_append]
    congr 1
    show (List.filter (moB d) [(n,row)]).map _ = _
    rw [List.filter_cons]
    split <;> rfl
   walk_at "rd"
   intro H3 s3
   have hpa3 := s3 _ _ hpa
   have hf3 := s3 _ _ hf2
   walk_at "rd"
   refine tCut.mk (fun σ' H' => Here (∃ v1 v2 v3 xs',σ' = [some (.ref h),some (.ref r),some (.int d),some (.ref fl),v1,v2,v3] ∧ H' fl = some (.lst xs') ∧ All2 TpV H' (((on.take (i + 1)).filter (moB d)).map (moV d)) xs' ∧ H' D1 = some (.lst ys) ∧ JY H1 H' ∧ Same H H')) ?_ (fun σ' H' hv => hv)
   walk_at "rd"
   refine ite2 (fun c1 => ?_) (fun c1 => ?_)
   ·walk_at "rd"
    intro t2 ht2
    obtain ⟨H4,e4,ht4,s4⟩ := newt (xs := [.int d,T Jen,T n.nm,.int (dut (cutN row none (some (d + 1))) : Nat)]) ht2
    rw [← e4]
    have hf4 := s4 _ _ hf3
    walk_at "rd"
    have kk : JY H4 (upd H4 fl (.lst (xs ++ [.ref t2]))) := J0z hf4
    refine Here.mk ⟨_,_,_,xs ++ [.ref t2],rfl,Jd,?_,?_,k2.trans ((s3.trans s4).keeps.trans kk),((s2.trans s3).trans s4).upd nfl⟩
    ·rw [ek,if_pos (show moB d (n,row) = true from c1)]
     exact All2.snoc (hA2.imp fun a y => TpV.keeps a y _ _ ((s3.trans s4).keeps.trans kk)) ⟨t2,rfl,kk _ _ ht4 (fun zs z => by cases z)⟩
    ·rw [Jj nfD]
     exact s4 _ _ (s3 _ _ hD2)
   ·walk_at "rd"
    refine Here.mk ⟨_,_,_,xs,rfl,hf3,?_,s3 _ _ hD2,k2.trans s3.keeps,s2.trans s3⟩
    rw [ek,if_neg (show ¬ moB d (n,row) = true from c1),List.append_nil]
    exact hA2.imp fun a y => TpV.keeps a y _ _ s3.keeps
  ·rintro σ H2 hv
   obtain ⟨v1,v2,v3,xs,rfl,hf2,hA2,hD2,k2,s2⟩ := hv.out
   rw [hyl,List.take_of_length_le (Nat.le_refl _),← hon] at hA2
   walk_at "rd"
   exact q fl H2 xs s2 nfl hf2 hA2
end
theorem JfR (a b : List Nat) : eqV (T a) (T b) = decide (a = b) := by
 by_cases h : a = b
 ·subst h
  rw [decide_eq_true rfl]
  exact decide_eq_true rfl
 ·rw [decide_eq_false h]
  exact decide_eq_false fun z => h (J1S (congrArg V.str z))
theorem Jer (nm : List Nat) : ∀ nms : List (List Nat),inV (T nm) (nms.map T) = decide (nm ∈ nms)
 | [] => rfl
 | n :: r => by
  have ih := Jer nm r
  unfold inV at ih ⊢
  rw [List.map_cons,List.any_cons,ih,JfR]
  have h : decide (n = nm) = decide (nm = n) := by
   by_cases z : n = nm
   ·subst z; rfl
   ·rw [decide_eq_false z,decide_eq_false fun y => z y.symm]
  rw [h]
  simp [List.mem_cons,Bool.decide_or]
section
variable {P : Program} {w : World} {K : PySem.W.Frag} {mg : Str → Option Value} {base : Heap} {Jg J7 J4 Ji J1 J2 Jk Jc Ja Jb Jf J9 : Addr}
local macro_rules | `(tactic| walk_at "lk") => `(tactic| first | exact J67 _ _ _ _ _ | exact J5C _ _ _ _ _ | exact J4O _ _ _ _ _ | exact JaR _ _ _ _ _ | exact J2r _ _ _ _ _ _ _ _ | exact J3R _ _ _ _ _ _ _ _ | exact J7h _ _ _ _ _ _ _ _ | exact J77 _ _ _ _ _ _ _ _ | exact Jb3 _ _ _ _ _ _ _ _ | exact J9R _ _ _ _ _ _ _ _ | exact J9J _ _ _ _ _ _ _ _ | exact J8W _ _ _ _ _ _ _ _ | exact J4R _ _ _ _ _ _ _ _ | exact J3W _ _ _ _ _ _ _ _ | exact Or.inr (SqT.of (by with_reducible assumption)))
theorem J9u (tx : Tx K mg Jg J7 J4 Ji J1 J2 Jk Jc Ja Jb Jf J9) : MtG P w K mg base J4 "rules_for" 1 ["self","p"] (Jdq P w K mg base J7 J4) := by
 refine tx.J4D.g tx.JN.cl J2P (fun _ _ _ _ _ _ us hl => match us,hl with | [_,_],_ => rfl) (fun vs H Q E h => ?_) (fun f cdv A outer s H vs Q E hr h => ?_)
 ·obtain ⟨h,p,dd,ks,nds,ps,ls,u5,u6,n,rls,rfl,_⟩ := h
  rfl
 ·obtain ⟨h,p,dd,ks,nds,ps,ls,u5,u6,n,rls,rfl,hq,p0,hn,hR,h6,q⟩ := h
  refine ⟨_,(J6 (Jq (i := 2) J2P.nd rfl (Or.inr rfl) (J0t (J0 (JU (l := [97,108,108]) (by decide +kernel)) (J0 (Jt (K := K) rfl (Jo (Jy (K := K) rfl) (Jt (K := K) rfl (pv 0) rfl) (pv 1) (fun _ _ => rfl)) rfl) J5))))
   (Jh (Jv (JP (osc := J3 J08) (ON := ["self","p","names"]) (N := ["number","told","names"]) (js := [none,none,some 2]) ⟨rfl,by decide +kernel,by decide +kernel,by decide +kernel,rfl,by decide +kernel⟩ rfl rfl rfl (J2F (K := K) rfl rfl tx.J0m (J0 (Jt (K := K) rfl (pv 0) rfl) J5)) (fun _ _ _ _ _ => J3S (K := K) (i := 0) (j := 1) rfl rfl (show List.Nodup (["number","told","names"] : List Str) from by decide +kernel) rfl rfl (Or.inl rfl) (Or.inl rfl)) (fun _ _ _ _ _ => J0o (Js (JeV (K := K) rfl) (Jo (JC (K := K) rfl) (pv 1) J8 (fun _ _ => rfl)) (pv 2) rfl)) (fun _ _ _ _ _ => (J0t (J0 (pv 0) (J0 (Jo (JC (K := K) rfl) (pv 1) J8 (fun _ _ => rfl)) J5)))))))),?_⟩
  walk_at "st"
  obtain ⟨a1,a2,a3,a4,a5,a6,xs,ys,zs,ws,⟨dx,h0⟩,y1,y1',y2,hP,y3,y3',y4,y5,y6⟩ := hq
  have cH := tx.JN.cl
  have nH1 := tx.JG
  have nH2 := tx.J1s
  have cP := tx.J0n.cl
  have nP := tx.JR
  obtain ⟨y,hy,pa,rfl,dxp,hpp⟩ := hP.get hn
  have hix : atI ys p = some (.ref pa) := by have := J01 hy; rwa [Int.toNat_of_nonneg p0] at this
  walk_at "rd"
  intro t ht
  obtain ⟨H1,e1,ht1,s1⟩ := newt (xs := [T wAll,T n.nm]) ht
  rw [← e1]
  have h01 := s1 _ _ h0
  have y51 := s1 _ _ y5
  clear e1
  walk_at "rd"
  refine Jak (List.range rls.length) (J8c rls n.nm) (FdT P w K mg base rls) (fun σ => ∃ v1 v2,σ = [v1,v2,some (.ref t)]) (SqL.of y51) (by rw [List.length_range]; exact hR.len) (by rw [List.length_range]; omega) ⟨_,_,rfl⟩ FdT.keeps (fun i a v qq σ H' ha hv hσ s' hq Rf Rt hf hT => ?_) (fun D H' ys hD s' hys hDD => q D H' ys (s1.trans s') hDD hys)
  obtain ⟨w1,w2,rfl⟩ := hσ
  obtain ⟨rfl,hil⟩ := J2R ha
  obtain ⟨r0,hr0,tt,pp,rfl,htt,hru⟩ := hR.back hv
  have sA : Same H H' := s1.trans s'
  have sQ : Same H' (upd H' qq (.tup [.int (a : Nat),.ref tt])) := JB hq _
  have htt2 := (sA.trans sQ) _ _ htt
  have ht2 := (s'.trans sQ) _ _ ht1
  have eB : J8c rls n.nm a = inV (T r0.nm) [T wAll,T n.nm] := by
   unfold J8c
   rw [Jb8 hr0]
   exact (Jer r0.nm [wAll,n.nm]).symm
  have u0 := at0 (T r0.nm) (V.ref pp)
  have u1 := at1 (T r0.nm) (V.ref pp)
  have f1 : J15 (T r0.nm) = true := rfl
  have f2 : [T wAll,T n.nm].all J15 = true := rfl
  have hI2 : SqL K (upd H' qq (.tup [.int (a : Nat),.ref tt])) t [T wAll,T n.nm] ∨ SqT K (upd H' qq (.tup [.int (a : Nat),.ref tt])) t [T wAll,T n.nm] := .inr (SqT.of ht2)
  walk_at "rd"
  refine ite2 (fun c => ?_) (fun c => ?_)
  ·walk_at "rd"
   intro t3 ht3
   have s3 := sQ.trans (JB ht3 (.tup [.int (a : Nat),.ref pp]))
   exact hT _ _ _ (eB.trans c) ⟨_,_,rfl⟩ s3 ⟨t3,pp,rfl,Jd,by rw [Jb8 hr0]; exact hru.keeps (sA.trans s3).keeps⟩
  ·exact hf _ _ (eB.trans (Bool.eq_false_iff.mpr c)) ⟨_,_,rfl⟩ sQ
theorem J7K (tx : Tx K mg Jg J7 J4 Ji J1 J2 Jk Jc Ja Jb Jf J9) : FnG P w K mg base "rule_faults" 6 ["house","rota","day"] (Jfu P w K mg base J7 J4) := by
 have J5Q := J9u (P := P) (w := w) (base := base) tx
 refine tx.J7A.g J0B (fun _ _ _ _ _ _ us hl => match us,hl with | [_,_,_],_ => rfl) (fun vs H Q E h => ?_) (fun f cdv A outer s H vs Q E hr h => ?_)
 ·obtain ⟨h,r,d,dd,ks,nds,ps,ls,u5,u6,rows,rls,rfl,_⟩ := h
  rfl
 ·obtain ⟨h,r,d,dd,ks,nds,ps,ls,u5,u6,rows,rls,rfl,hq,hr1,hl,hp8,hR,hpast,hRu,h6,q⟩ := h
  refine ⟨_,(J6 (Jq (i := 3) J0B.nd rfl (Or.inl rfl) (J0X J5))
   (J6 (J0G PassesOwn.never rfl (J2F (K := K) rfl rfl tx.J0m (J0 (Jt (K := K) rfl (pv 0) rfl) J5)) (J2C rfl (JE (Jm (i := 4) J0B.nd rfl (Or.inl rfl)) (JE (Jm (i := 5) J0B.nd rfl (Or.inr rfl)) J1z))) (J6 (Jq (i := 6) J0B.nd rfl (Or.inr rfl) (Jl J2V (Jt (K := K) rfl (pv 5) rfl) (J1T J3V (Jo (Jy (K := K) rfl) (pv 1) (pv 4) (fun _ _ => rfl)) J2u (J2b (Jl J00 (pv 2) J8)))))
   (J6 (Jq (i := 7) J0B.nd rfl (Or.inl rfl) (J71 J5Q (hr.mono (by decide)) (pv 0) (J0 (pv 4) J5)))
   (Jh (J2S (i := 3) J0B.nd rfl (Or.inl rfl) (JP (osc := J3 J0V) (ON := ["house","rota","day","found","p","person","marks","bound"]) (N := ["number","rule","day","person","marks"]) (js := [none,none,some 2,some 5,some 6]) ⟨rfl,by decide +kernel,by decide +kernel,by decide +kernel,rfl,by decide +kernel⟩ rfl rfl rfl (JZ (K := K) rfl (pv 7)) (fun _ _ _ _ _ => J3S (K := K) (i := 0) (j := 1) rfl rfl (show List.Nodup (["number","rule","day","person","marks"] : List Str) from by decide +kernel) rfl rfl (Or.inl rfl) (Or.inl rfl)) (fun _ _ _ _ _ => J0o (J3T (J2s (P := P) (w := w) (K := K) (mg := mg) (base := base) hr (pv 1) (J0 (pv 4) J5) rfl rfl rfl rfl rfl))) (fun _ _ _ _ _ => (J0t (J0 (pv 2) (J0 (JU (l := [114,117,108,101]) (by decide +kernel)) (J0 (Jt (K := K) rfl (pv 3) rfl) (J0 (pv 0) J5))))))) J3s)))))
   (Jh (Jv (pv 3))))),?_⟩
  walk_at "st"
  clear J5Q
  have cH := tx.JN.cl
  have nH := tx.JG
  have cP := tx.J0n.cl
  have nP := tx.J1r
  have nP2 := tx.JR
  have hq0 := hq
  obtain ⟨a1,a2,a3,a4,a5,a6,xs',ys',zs',ws',⟨dx,h1⟩,_,_,h4,h5,_⟩ := hq0
  have hyl := h5.len
  walk_at "rd"
  intro fl nfl
  have s1 : Same H (upd H fl (.lst [])) := JB nfl _
  have k1 := s1 _ _ h1
  have k4 := s1 _ _ h4
  walk_at "rd"
  refine J3f (K := K) (xs := ys') (fun i σ H2 => Here (∃ v1 v2 v3 v4 xs,σ = [some (.ref h),some (.ref r),some (.int d),some (.ref fl),v1,v2,v3,v4] ∧ H2 fl = some (.lst xs) ∧ All2 TpV H2 ((((ps.zip rows).take i).map (ruP rls d)).flatten) xs ∧ Same H H2)) (Here.mk ⟨none,none,none,none,[],rfl,Jd,trivial,s1⟩) (fun i σ H2 _ hv => by obtain ⟨_,_,_,_,_,_,_,_,s2⟩ := hv.out; exact SqL.of (s2 _ _ h4)) ?_ ?_
  ·rintro i x p σ H2 hx hp hv
   obtain ⟨v1,v2,v3,v4,xs,rfl,hf2,hA2,s2⟩ := hv.out
   have hi : i < ys'.length := (List.getElem?_eq_some_iff.mp hx).1
   obtain ⟨n,hn,pa,rfl,dxp,hpa⟩ := h5.back hx
   have hpl := hpast n (List.mem_of_getElem? hn)
   obtain ⟨H3,e3,hp3,s3⟩ := newt (xs := [V.int (i : Int),V.ref pa]) hp
   rw [← e3]
   have S3 := s2.trans s3
   have hpa3 := S3 _ _ hpa
   have hr3 := S3 _ _ hr1
   have hq3 := hq.same S3
   have ob3 := S3 _ _ h1
   have hRu3 := hRu.imp fun a y => RuT.keeps a y _ _ S3.keeps
   have hrow : rows[i]? = some (rows[i]'(by omega)) := List.getElem?_eq_getElem (by omega)
   generalize rows[i]'(by omega) = row at hrow
   have er : atI (rows.map T) (i : Int) = some (T row) := J01 (by rw [List.getElem?_map,hrow]; rfl)
   obtain ⟨hd,hrl⟩ := hR.2 row (List.mem_of_getElem? hrow)
   have cl := J3u row none (some (d + 1))
   have hsum : n.past.length + (cutN row none (some (d + 1))).length ≤ sizeLine := Nat.le_trans (show _ ≤ 1100 by omega) (by decide)
   have hm2 : (n.past ++ cutN row none (some (d + 1))).length ≤ 200 := by rw [List.length_append]; omega
   have i0 : (0 : Int) ≤ (i : Int) := by omega
   have hn' : ps[((i : Int)).toNat]? = some n := by rw [Int.toNat_natCast]; exact hn
   have hzl := J8X rls d h6 ((ps.zip rows).take i)
   have hxl : xs.length ≤ 48 := by
    have h1 := hA2.len
    rw [List.length_take,List.length_zip] at hzl
    omega
   have ek : (((ps.zip rows).take (i + 1)).map (ruP rls d)).flatten = (((ps.zip rows).take i).map (ruP rls d)).flatten ++ ruP rls d (n,row) := by
    rw [List.take_add_one,show (ps.zip rows)[i]? = some (n,row) from List.getElem?_zip_eq_some.mpr ⟨hn,hrow⟩,List.map_append,List.flatten_append]
    simp
   have eRu : ruP rls d (n,row) = ((ruI rls n.nm).filter (ruB rls (n.past ++ cutN row none (some (d + 1))))).map (ruV d n.nm) := rfl
   rw [ek,eRu]
   walk_at "rd"
   intro D2 H4 ys4 s4 hD2 hF4
   have hf4 := s4 _ _ (s3 _ _ hf2)
   have hpa4 := s4 _ _ hpa3
   have hil := Jbf rls n.nm
   have hyl4 := hF4.len
   generalize n.past ++ cutN row none (some (d + 1)) = mm at hm2 ⊢
   walk_at "rd"
   refine JF (ruI rls n.nm) (ruB rls mm) (fun i y H => TpV (ruV d n.nm i) y H) (fun σ => ∃ v1 v2,σ = [v1,v2,some (.int d),some (.ref pa),some (T mm)]) (JL (SqL.of hD2)) hyl4 (by omega) ⟨_,_,rfl⟩ (fun a y Ha Hb k h => TpV.keeps _ y Ha Hb k h) (fun i' a v σ H' ha hv hσ s' Rf Rt hF hR' => ?_) (fun D H5 zs hD s5 hzs hDD => ?_)
   ·obtain ⟨v1,v2,rfl⟩ := hσ
    obtain ⟨a',ha',t1,ra,rfl,ht1,hbq⟩ := hF4.back hv
    rw [ha] at ha'
    cases ha'
    have ht1' := s' _ _ ht1
    obtain ⟨C,dxr,fs,kk,psr,spr,hra,lk1,M1,hk4,A1⟩ := hbq.keeps s'.keeps
    have hpa' := s' _ _ hpa4
    walk_at "rd"
    refine A1 mm hm2 _ _ (Same.refl _).keeps fun H6 s6 => ?_
    have hpa6 := s6 _ _ hpa'
    walk_at "rd"
    refine ite2 (fun c => ?_) (fun c => ?_)
    ·walk_at "rd"
     intro t3 ft3
     exact hR' _ _ _ c ⟨_,_,rfl⟩ (s6.trans (JB ft3 _)) ⟨t3,rfl,Jd⟩
    ·exact hF _ _ (Bool.eq_false_iff.mpr c) ⟨_,_,rfl⟩ s6
   have hf5 := s5 _ _ hf4
   have kk : JY H5 (upd H5 fl (.lst (xs ++ zs))) := J0z hf5
   have hzl2 : zs.length ≤ 6 := by
    have h1 := hzs.len
    have h2 := List.length_filter_le (ruB rls mm) (ruI rls n.nm)
    omega
   walk_at "rd"
   exact Here.mk ⟨_,_,_,_,xs ++ zs,rfl,Jd,All2.app (hA2.imp fun a y => TpV.keeps a y _ _ (((s3.trans s4).trans s5).keeps.trans kk)) ((All2.mapL (P := TpV) hzs).imp fun a y => TpV.keeps a y _ _ kk),((S3.trans s4).trans s5).upd nfl⟩
  ·rintro σ H2 hv
   obtain ⟨v1,v2,v3,v4,xs,rfl,hf2,hA2,s2⟩ := hv.out
   rw [List.take_of_length_le (by rw [List.length_zip]; omega)] at hA2
   walk_at "rd"
   exact q fl H2 xs s2 nfl hf2 hA2
theorem J7v (tx : Tx K mg Jg J7 J4 Ji J1 J2 Jk Jc Ja Jb Jf J9) : FnG P w K mg base "breaks_pair" 1 ["word","mark","other"] JeA := by
 refine tx.J7I.g J6p (fun _ _ _ _ _ _ us hl => match us,hl with | [_,_,_],_ => rfl) (fun vs H Q E h => ?_) (fun f cdv A outer s H vs Q E hr h => ?_)
 ·obtain ⟨wd,m,o,rfl,_⟩ := h
  rfl
 ·obtain ⟨wd,m,o,rfl,q⟩ := h
  refine ⟨_,(J6 (J0E (Js J0P (pv 1) (JU (l := [45]) (by decide +kernel)) (Jw _)) (Jh (Jv J2W)) JK)
   (Jh (Jv (J78 (Js J0P (pv 0) (JU (l := [97,112,97,114,116]) (by decide +kernel)) (Jw _)) (J24 J0P (pv 1) (pv 2) (Jw _)) (J24 J2U (pv 1) (pv 2) (Jw _)))))),?_⟩
  walk_at "st"
  have dT : ∀ a b : Nat,decide (T [a] = T [b]) = decide (a = b) := fun a b => decide_eq_decide.mpr ⟨fun z => by simpa using J1S z,fun z => by rw [z]⟩
  walk_at "rd"
  refine ite2 (fun e => ?_) (fun e => ?_)
  ·have e' : m = 45 := by simpa using J1S (of_decide_eq_true e)
   unfold brkB at q
   rw [decide_eq_true e'] at q
   walk_at "rd"
   exact q
  have e1 : ¬ m = 45 := fun z => e (decide_eq_true (by rw [z]))
  unfold brkB at q
  rw [decide_eq_false e1,Bool.not_false,Bool.true_and] at q
  walk_at "rd"
  refine ite2 (fun e => ?_) (fun e => ?_)
  ·have e' : wd = J36 := J1S (of_decide_eq_true e)
   rw [if_pos e',← dT] at q
   walk_at "rd"
   exact q
  ·have e' : ¬ wd = J36 := fun z => e (decide_eq_true (by rw [z]))
   rw [if_neg e',← dT] at q
   walk_at "rd"
   exact q
theorem J7m (tx : Tx K mg Jg J7 J4 Ji J1 J2 Jk Jc Ja Jb Jf J9) : FnG P w K mg base "pair_faults" 2 ["house","rota","day"] (JfA J7 J4) := by
 have J4n := Jac (P := P) (w := w) (base := base) tx
 have J4a := J7v (P := P) (w := w) (base := base) tx
 refine tx.J7E.g J12 (fun _ _ _ _ _ _ us hl => match us,hl with | [_,_,_],_ => rfl) (fun vs H Q E h => ?_) (fun f cdv A outer s H vs Q E hr h => ?_)
 ·obtain ⟨h,r,d,dd,ks,nds,ps,ls,u5,u6,rows,prs,rfl,_⟩ := h
  rfl
 ·obtain ⟨h,r,d,dd,ks,nds,ps,ls,u5,u6,rows,prs,rfl,hq,hr1,hl,hp8,hR,hPr,h2,hIn,q⟩ := h
  refine ⟨_,(J6 (Jq (i := 3) J12.nd rfl (Or.inl rfl) (J0X J5))
   (J6 (J0G PassesOwn.never rfl (J2F (K := K) rfl rfl tx.J0m (J0 (Jt (K := K) rfl (pv 0) rfl) J5)) (J2C rfl (JE (Jm (i := 4) J12.nd rfl (Or.inl rfl)) (JE (Jm (i := 5) J12.nd rfl (Or.inl rfl)) J1z))) (J6 (Jq (i := 6) J12.nd rfl (Or.inl rfl) (Jo J09 (Jo (Jy (K := K) rfl) (pv 1) (J71 J4n (hr.mono (by decide)) (pv 0) (J0 (Jo (JC (K := K) rfl) (pv 5) J8 (fun _ _ => rfl)) J5)) (fun _ _ => rfl)) (pv 2) (fun _ _ => rfl)))
   (J6 (Jq (i := 7) J12.nd rfl (Or.inl rfl) (Jo J09 (Jo (Jy (K := K) rfl) (pv 1) (J71 J4n (hr.mono (by decide)) (pv 0) (J0 (Jo (JC (K := K) rfl) (pv 5) J8 (fun _ _ => rfl)) J5)) (fun _ _ => rfl)) (pv 2) (fun _ _ => rfl)))
   (Jh (J0E (J3T (JO J4a (hr.mono (by decide)) (J0 (Jo (JC (K := K) rfl) (pv 5) J8 (fun _ _ => rfl)) (J0 (pv 6) (J0 (pv 7) J5))))) (Jh (J2X (J4N PySem.F.plainAttrs_list PySem.F.slot_list_append PySem.F.type_list_append J1w (pv 3) (J0 (J0t (J0 (pv 2) (J0 (JU (l := [112,97,105,114]) (by decide +kernel)) (J0 (Jo (JC (K := K) rfl) (pv 5) J8 (fun _ _ => rfl)) (J0 (pv 4) J5))))) J5)))) JK)))))
   (Jh (Jv (pv 3))))),?_⟩
  walk_at "st"
  clear J4n J4a
  have cH := tx.JN.cl
  have nH := tx.J1i
  have hN := hq.n
  obtain ⟨a1,a2,a3,a4,a5,a6,xs',ys',zs',ws',⟨dx,h1⟩,_,_,_,_,_,_,_,_,h10⟩ := hq
  have hul := hPr.len
  walk_at "rd"
  intro fl nfl
  have s1 : Same H (upd H fl (.lst [])) := JB nfl _
  have k1 := s1 _ _ h1
  have k10 := s1 _ _ h10
  walk_at "rd"
  refine J3f (K := K) (xs := u6) (fun i σ H2 => Here (∃ v1 v2 v3 v4 xs,σ = [some (.ref h),some (.ref r),some (.int d),some (.ref fl),v1,v2,v3,v4] ∧ H2 fl = some (.lst xs) ∧ All2 TpV H2 (paL prs rows d i) xs ∧ Same H H2)) (Here.mk ⟨none,none,none,none,[],rfl,Jd,trivial,s1⟩) (fun i σ H2 _ hv => by obtain ⟨_,_,_,_,_,_,_,_,s2⟩ := hv.out; exact SqL.of (s2 _ _ h10)) ?_ ?_
  ·rintro i x p σ H2 hx hp hv
   obtain ⟨v1,v2,v3,v4,xs,rfl,hf2,hA2,s2⟩ := hv.out
   have hi : i < u6.length := (List.getElem?_eq_some_iff.mp hx).1
   obtain ⟨pr,hpr,tp,rfl,htp⟩ := hPr.back hx
   have epr : prAt prs i = pr := by unfold prAt; rw [List.getD_eq_getElem?_getD,hpr]; rfl
   obtain ⟨⟨i1,i2⟩,j1,j2⟩ := hIn pr (List.mem_of_getElem? hpr)
   obtain ⟨H3,e3,hp3,s3⟩ := newt (xs := [V.int (i : Int),V.ref tp]) hp
   rw [← e3]
   have S3 := s2.trans s3
   have htp3 := S3 _ _ htp
   have hr3 := S3 _ _ hr1
   have ob3 := S3 _ _ h1
   have hN3 := hN.same S3
   have b0 : atI [T pr.wd,T pr.one,T pr.two] 0 = some (T pr.wd) := by simp [atI,ixN]
   have b1 : atI [T pr.wd,T pr.one,T pr.two] 1 = some (T pr.one) := by simp [atI,ixN]
   have b2 : atI [T pr.wd,T pr.one,T pr.two] 2 = some (T pr.two) := by simp [atI,ixN]
   have hil : pr.i < rows.length := by have := (List.getElem?_eq_some_iff.mp i1).1; rw [List.length_map] at this; omega
   have hjl : pr.j < rows.length := by have := (List.getElem?_eq_some_iff.mp j1).1; rw [List.length_map] at this; omega
   have ri : rows[pr.i]? = some (rows[pr.i]'hil) := List.getElem?_eq_getElem hil
   have rj : rows[pr.j]? = some (rows[pr.j]'hjl) := List.getElem?_eq_getElem hjl
   have gi : rows.getD pr.i [] = rows[pr.i]'hil := by rw [List.getD_eq_getElem?_getD,ri]; rfl
   have gj : rows.getD pr.j [] = rows[pr.j]'hjl := by rw [List.getD_eq_getElem?_getD,rj]; rfl
   have ai : atI (rows.map T) (pr.i : Int) = some (T (rows[pr.i]'hil)) := J01 (by rw [List.getElem?_map,ri]; rfl)
   have aj : atI (rows.map T) (pr.j : Int) = some (T (rows[pr.j]'hjl)) := J01 (by rw [List.getElem?_map,rj]; rfl)
   obtain ⟨di,li⟩ := hR.2 _ (List.mem_of_getElem? ri)
   obtain ⟨dj,lj⟩ := hR.2 _ (List.mem_of_getElem? rj)
   generalize rows[pr.i]'hil = rowi at ri gi ai di li
   generalize rows[pr.j]'hjl = rowj at rj gj aj dj lj
   have mi := J4c hR.1 di
   have mj := J4c hR.1 dj
   have li' : rowi.length ≤ 1000 := by omega
   have lj' : rowj.length ≤ 1000 := by omega
   have ek : paL prs rows d (i + 1) = paL prs rows d i ++ (if brkB pr.wd (mkA rowi d) (mkA rowj d) = true then [paV d prs i] else []) := by
    unfold paL
    rw [List.range_succ,List.filter_append,List.map_append]
    congr 1
    rw [List.filter_cons]
    have eb : paB rows d (prAt prs i) = brkB pr.wd (mkA rowi d) (mkA rowj d) := by unfold paB; rw [epr,gi,gj]
    rw [eb]
    split <;> rfl
   have eV : paV d prs i = [.int d,T JaT,T pr.one,.int (i : Nat)] := by unfold paV; rw [epr]
   have hxl : xs.length ≤ 2 := by
    have h1 := hA2.len
    have h2 := J8R prs rows d i
    omega
   walk_at "rd"
   intro H4 s4
   have hr4 := s4 _ _ hr3
   have htp4 := s4 _ _ htp3
   have ob4 := s4 _ _ ob3
   have hN4 := hN3.same s4
   walk_at "rd"
   intro H5 s5
   have hr5 := s5 _ _ hr4
   have htp5 := s5 _ _ htp4
   have hf5 := ((s3.trans s4).trans s5) _ _ hf2
   have S35 := (s3.trans s4).trans s5
   have S5 := s2.trans S35
   walk_at "rd"
   refine ite2 (fun c => ?_) (fun c => ?_)
   ·walk_at "rd"
    intro t2 ft2
    obtain ⟨H6,e6,yt6,s6⟩ := newt (xs := [.int d,T JaT,T pr.one,.int (i : Nat)]) ft2
    have e6' : upd H5 t2 (.tup [.int d,T JaT,T pr.one,.int (i : Nat)]) = H6 := e6.symm
    rw [e6']
    have hf6 := s6 _ _ hf5
    have kk : JY H6 (upd H6 fl (.lst (xs ++ [.ref t2]))) := J0z hf6
    walk_at "rd"
    refine Here.mk ⟨_,_,_,_,xs ++ [.ref t2],rfl,Jd,?_,(S5.trans s6).upd nfl⟩
    rw [ek,if_pos c]
    exact All2.snoc (hA2.imp fun a y => TpV.keeps a y _ _ ((S35.trans s6).keeps.trans kk)) ⟨t2,rfl,by rw [eV]; exact kk _ _ yt6 (fun zs z => by cases z)⟩
   ·walk_at "rd"
    refine Here.mk ⟨_,_,_,_,xs,rfl,hf5,?_,S5⟩
    rw [ek,if_neg c,List.append_nil]
    exact hA2.imp fun a y => TpV.keeps a y _ _ S35.keeps
  ·rintro σ H2 hv
   obtain ⟨v1,v2,v3,v4,xs,rfl,hf2,hA2,s2⟩ := hv.out
   rw [hul] at hA2
   walk_at "rd"
   exact q fl H2 xs s2 nfl hf2 hA2
theorem Jcm (tx : Tx K mg Jg J7 J4 Ji J1 J2 Jk Jc Ja Jb Jf J9) : FnG P w K mg base "faults" 7 ["house","rota"] (Jbo P w K mg base J7 J4) := by
 have J3K := J6A (P := P) (w := w) (base := base) tx
 have J3L := J6d (P := P) (w := w) (base := base) tx
 have J45 := J7s (P := P) (w := w) (base := base) tx
 have J43 := J7D (P := P) (w := w) (base := base) tx
 have J48 := J7K (P := P) (w := w) (base := base) tx
 have J47 := J7m (P := P) (w := w) (base := base) tx
 refine tx.Jch.g J1V (fun _ _ _ _ _ _ us hl => match us,hl with | [_,_],_ => rfl) (fun vs H Q E h => ?_) (fun f cdv A outer s H vs Q E hr h => ?_)
 ·obtain ⟨h,r,dd,ks,nds,ps,ls,u5,u6,rows,rls,prs,rfl,_⟩ := h
  rfl
 ·obtain ⟨h,r,dd,ks,nds,ps,ls,u5,u6,rows,rls,prs,rfl,hq,hr1,hl,hp8,hk4,d0,d1,hrl,hpast,hRu,h6,hPr,hp2,hIn,q⟩ := h
  refine ⟨_,(J6 (Jq (i := 2) J1V.nd rfl (Or.inl rfl) (J0X J5))
   (J6 (J0G PassesOwn.never rfl (J03 rfl tx.J0i (J0 (Jt (K := K) rfl (pv 0) rfl) J5)) (Jm (i := 3) J1V.nd rfl (Or.inl rfl)) (J6 (J2S (i := 2) J1V.nd rfl (Or.inl rfl) (JO J3K (hr.mono (by decide)) (J0 (pv 0) (J0 (pv 1) (J0 (pv 3) J5)))) J3s)
   (J6 (J2S (i := 2) J1V.nd rfl (Or.inl rfl) (JO J3L (hr.mono (by decide)) (J0 (pv 0) (J0 (pv 1) (J0 (pv 3) J5)))) J3s)
   (J6 (J2S (i := 2) J1V.nd rfl (Or.inl rfl) (JO J45 (hr.mono (by decide)) (J0 (pv 0) (J0 (pv 1) (J0 (pv 3) J5)))) J3s)
   (J6 (J2S (i := 2) J1V.nd rfl (Or.inl rfl) (JO J43 (hr.mono (by decide)) (J0 (pv 0) (J0 (pv 1) (J0 (pv 3) J5)))) J3s)
   (J6 (J2S (i := 2) J1V.nd rfl (Or.inl rfl) (JO J48 (hr.mono (by decide)) (J0 (pv 0) (J0 (pv 1) (J0 (pv 3) J5)))) J3s)
   (Jh (J2S (i := 2) J1V.nd rfl (Or.inl rfl) (JO J47 (hr.mono (by decide)) (J0 (pv 0) (J0 (pv 1) (J0 (pv 3) J5)))) J3s))))))))
   (Jh (Jv (pv 2))))),?_⟩
  walk_at "st"
  clear J3K J3L J45 J43 J48 J47
  have cH := tx.JN.cl
  have nH := tx.J1d
  have hq0 := hq
  obtain ⟨a1,a2,a3,a4,a5,a6,xs',ys',zs',ws',⟨dx,h1⟩,_⟩ := hq0
  walk_at "rd"
  intro fl nfl
  have k1 := JB nfl (.lst []) _ _ h1
  walk_at "rd"
  refine J1v (n := dd.toNat) (fun i σ H2 => Here (∃ v1 xs,σ = [some (.ref h),some (.ref r),some (.ref fl),v1] ∧ H2 fl = some (.lst xs) ∧ All2 TpV H2 (allF ks nds ls rls prs ps rows i) xs ∧ Same H H2)) (Here.mk ⟨none,[],rfl,Jd,trivial,JB nfl _⟩) ?_ ?_
  ·rintro i σ H2 hi hv
   obtain ⟨v1,x0,rfl,hf0,hA0,s0⟩ := hv.out
   have hR : ROk rows (0 + (i : Int)) := ⟨by omega,fun r hr => by have := hrl r hr; omega⟩
   have hq0 := hq.same s0
   have hz0 := s0 _ _ hr1
   have l0 : x0.length ≤ 780 := by
    have h1 := hA0.len
    have h2 := Jbc (nds := nds) (ls := ls) (rows := rows) hp8 hk4 h6 hp2 i
    omega
   walk_at "rd"
   intro D1 G1 y1 t1 nD1 hD1 hB1
   have l1 : y1.length ≤ 8 := by rw [hB1.len]; exact (J5H _ _ _ hp8)
   have hf1' := t1 _ _ hf0
   have kk1 : JY G1 (upd G1 fl (.lst (x0 ++ y1))) := J0z hf1'
   have hA1 : All2 TpV (upd G1 fl (.lst (x0 ++ y1))) (allF ks nds ls rls prs ps rows i ++ skF ps rows (0 + (i : Int))) (x0 ++ y1) := All2.app (hA0.imp fun a y => TpV.keeps a y _ _ (t1.keeps.trans kk1)) (hB1.imp fun a y => TpV.keeps a y _ _ kk1)
   have s1 : Same H (upd G1 fl (.lst (x0 ++ y1))) := (s0.trans t1).upd nfl
   have hf1 : (upd G1 fl (.lst (x0 ++ y1))) fl = some (.lst (x0 ++ y1)) := Jd
   have hq1 := hq.same s1
   have hz1 := s1 _ _ hr1
   walk_at "rd"
   clear hq0 hz0
   intro D2 G2 y2 t2 nD2 hD2 hB2
   have l2 : y2.length ≤ 8 := by rw [hB2.len]; exact (J5H _ _ _ hp8)
   have hf2' := t2 _ _ hf1
   have kk2 : JY G2 (upd G2 fl (.lst (x0 ++ y1 ++ y2))) := J0z hf2'
   have hA2 : All2 TpV (upd G2 fl (.lst (x0 ++ y1 ++ y2))) (allF ks nds ls rls prs ps rows i ++ skF ps rows (0 + (i : Int)) ++ lvF ls ps rows (0 + (i : Int))) (x0 ++ y1 ++ y2) := All2.app (hA1.imp fun a y => TpV.keeps a y _ _ (t2.keeps.trans kk2)) (hB2.imp fun a y => TpV.keeps a y _ _ kk2)
   have s2 : Same H (upd G2 fl (.lst (x0 ++ y1 ++ y2))) := (s1.trans t2).upd nfl
   have hf2 : (upd G2 fl (.lst (x0 ++ y1 ++ y2))) fl = some (.lst (x0 ++ y1 ++ y2)) := Jd
   have hq2 := hq.same s2
   have hz2 := s2 _ _ hr1
   walk_at "rd"
   clear hq1 hz1
   intro D3 G3 y3 t3 nD3 hD3 hB3
   have l3 : y3.length ≤ 4 := by rw [hB3.len]; exact (JcP hk4)
   have hf3' := t3 _ _ hf2
   have kk3 : JY G3 (upd G3 fl (.lst (x0 ++ y1 ++ y2 ++ y3))) := J0z hf3'
   have hA3 : All2 TpV (upd G3 fl (.lst (x0 ++ y1 ++ y2 ++ y3))) (allF ks nds ls rls prs ps rows i ++ skF ps rows (0 + (i : Int)) ++ lvF ls ps rows (0 + (i : Int)) ++ neF ks nds rows (0 + (i : Int))) (x0 ++ y1 ++ y2 ++ y3) := All2.app (hA2.imp fun a y => TpV.keeps a y _ _ (t3.keeps.trans kk3)) (hB3.imp fun a y => TpV.keeps a y _ _ kk3)
   have s3 : Same H (upd G3 fl (.lst (x0 ++ y1 ++ y2 ++ y3))) := (s2.trans t3).upd nfl
   have hf3 : (upd G3 fl (.lst (x0 ++ y1 ++ y2 ++ y3))) fl = some (.lst (x0 ++ y1 ++ y2 ++ y3)) := Jd
   have hq3 := hq.same s3
   have hz3 := s3 _ _ hr1
   walk_at "rd"
   clear hq2 hz2
   intro D4 G4 y4 t4 nD4 hD4 hB4
   have l4 : y4.length ≤ 8 := by rw [hB4.len]; exact (J5H _ _ _ hp8)
   have hf4' := t4 _ _ hf3
   have kk4 : JY G4 (upd G4 fl (.lst (x0 ++ y1 ++ y2 ++ y3 ++ y4))) := J0z hf4'
   have hA4 : All2 TpV (upd G4 fl (.lst (x0 ++ y1 ++ y2 ++ y3 ++ y4))) (allF ks nds ls rls prs ps rows i ++ skF ps rows (0 + (i : Int)) ++ lvF ls ps rows (0 + (i : Int)) ++ neF ks nds rows (0 + (i : Int)) ++ moF ps rows (0 + (i : Int))) (x0 ++ y1 ++ y2 ++ y3 ++ y4) := All2.app (hA3.imp fun a y => TpV.keeps a y _ _ (t4.keeps.trans kk4)) (hB4.imp fun a y => TpV.keeps a y _ _ kk4)
   have s4 : Same H (upd G4 fl (.lst (x0 ++ y1 ++ y2 ++ y3 ++ y4))) := (s3.trans t4).upd nfl
   have hf4 : (upd G4 fl (.lst (x0 ++ y1 ++ y2 ++ y3 ++ y4))) fl = some (.lst (x0 ++ y1 ++ y2 ++ y3 ++ y4)) := Jd
   have hq4 := hq.same s4
   have hRu4 := hRu.imp fun a y => RuT.keeps a y _ _ s4.keeps
   have hz4 := s4 _ _ hr1
   walk_at "rd"
   clear hq3 hz3
   intro D5 G5 y5 t5 nD5 hD5 hB5
   have l5 : y5.length ≤ 48 := by rw [hB5.len]; exact Jb9 h6 hp8
   have hf5' := t5 _ _ hf4
   have kk5 : JY G5 (upd G5 fl (.lst (x0 ++ y1 ++ y2 ++ y3 ++ y4 ++ y5))) := J0z hf5'
   have hA5 : All2 TpV (upd G5 fl (.lst (x0 ++ y1 ++ y2 ++ y3 ++ y4 ++ y5))) (allF ks nds ls rls prs ps rows i ++ skF ps rows (0 + (i : Int)) ++ lvF ls ps rows (0 + (i : Int)) ++ neF ks nds rows (0 + (i : Int)) ++ moF ps rows (0 + (i : Int)) ++ ruF rls ps rows (0 + (i : Int))) (x0 ++ y1 ++ y2 ++ y3 ++ y4 ++ y5) := All2.app (hA4.imp fun a y => TpV.keeps a y _ _ (t5.keeps.trans kk5)) (hB5.imp fun a y => TpV.keeps a y _ _ kk5)
   have s5 : Same H (upd G5 fl (.lst (x0 ++ y1 ++ y2 ++ y3 ++ y4 ++ y5))) := (s4.trans t5).upd nfl
   have hf5 : (upd G5 fl (.lst (x0 ++ y1 ++ y2 ++ y3 ++ y4 ++ y5))) fl = some (.lst (x0 ++ y1 ++ y2 ++ y3 ++ y4 ++ y5)) := Jd
   have hq5 := hq.same s5
   have hPr5 := hPr.imp fun a y => PrT.keeps a y _ _ s5.keeps
   have hz5 := s5 _ _ hr1
   walk_at "rd"
   clear hq4 hz4
   intro D6 G6 y6 t6 nD6 hD6 hB6
   have l6 : y6.length ≤ 2 := by rw [hB6.len]; exact Nat.le_trans (J8R _ _ _ _) hp2
   have hf6' := t6 _ _ hf5
   have kk6 : JY G6 (upd G6 fl (.lst (x0 ++ y1 ++ y2 ++ y3 ++ y4 ++ y5 ++ y6))) := J0z hf6'
   have hA6 : All2 TpV (upd G6 fl (.lst (x0 ++ y1 ++ y2 ++ y3 ++ y4 ++ y5 ++ y6))) (allF ks nds ls rls prs ps rows i ++ skF ps rows (0 + (i : Int)) ++ lvF ls ps rows (0 + (i : Int)) ++ neF ks nds rows (0 + (i : Int)) ++ moF ps rows (0 + (i : Int)) ++ ruF rls ps rows (0 + (i : Int)) ++ paF prs rows (0 + (i : Int))) (x0 ++ y1 ++ y2 ++ y3 ++ y4 ++ y5 ++ y6) := All2.app (hA5.imp fun a y => TpV.keeps a y _ _ (t6.keeps.trans kk6)) (hB6.imp fun a y => TpV.keeps a y _ _ kk6)
   have s6 : Same H (upd G6 fl (.lst (x0 ++ y1 ++ y2 ++ y3 ++ y4 ++ y5 ++ y6))) := (s5.trans t6).upd nfl
   have hf6 : (upd G6 fl (.lst (x0 ++ y1 ++ y2 ++ y3 ++ y4 ++ y5 ++ y6))) fl = some (.lst (x0 ++ y1 ++ y2 ++ y3 ++ y4 ++ y5 ++ y6)) := Jd
   have hq6 := hq.same s6
   have hz6 := s6 _ _ hr1
   walk_at "rd"
   clear hq5 hz5
   refine Here.mk ⟨_,_,rfl,Jd,?_,s6⟩
   have e : allF ks nds ls rls prs ps rows (i + 1) = allF ks nds ls rls prs ps rows i ++ skF ps rows (0 + (i : Int)) ++ lvF ls ps rows (0 + (i : Int)) ++ neF ks nds rows (0 + (i : Int)) ++ moF ps rows (0 + (i : Int)) ++ ruF rls ps rows (0 + (i : Int)) ++ paF prs rows (0 + (i : Int)) := by
    rw [allF,dayF]
    simp only [List.append_assoc]
   rw [e]
   exact hA6
  ·rintro σ H2 hv
   obtain ⟨v1,x0,rfl,hf0,hA0,s0⟩ := hv.out
   walk_at "rd"
   exact q fl H2 x0 s0 nfl hf0 hA0
end
noncomputable def nevB (w l : List Nat) : Bool := if l.length < w.length then false else ((w.zip (l.drop (l.length - w.length))).map fun p => J2Q (T [p.1]) (T [p.2])).all id
noncomputable def Jda (C : Addr) (H : Hp) (p : Addr) (w : List Nat) : Prop := ∃ dx,H p = some (.ins C dx [("word",T w)])
theorem wl (v : V) : List.lookup ("word" : Str) [(("word" : Str),v)] = some v := by rw [List.lookup_cons,beq_self_eq_true]
theorem wnb (v : V) : List.lookup ("bad" : Str) [(("word" : Str),v)] = none := by rw [Jx (by decide +kernel)]; rfl
noncomputable def JaN (C : Addr) : Sp := fun vs H Q _ => ∃ p dx w,vs = [.ref p,T w] ∧ H p = some (.ins C dx []) ∧ Q .non (upd H p (.ins C dx [("word",T w)]))
noncomputable def rNev (C : Addr) : List V → Hp → VK → Prop := fun vs H Q => ∃ w,vs = [T w] ∧ ∀ p H',Same H H' → Jda C H' p w → Q (.ref p) H'
theorem Jfm {C : Addr} : ∀ vs H Q,rNev C vs H Q → ∀ x dx,H x = none → H dx = none → dx ≠ x → JaN C (.ref x :: (vs ++ [])) (upd (upd H dx (.own x)) x (.ins C dx [])) (fun v H2 => v = .non ∧ Q (.ref x) H2) E0 := by
 rintro _ H Q ⟨w,rfl,q⟩ x dx nx nd _
 exact ⟨x,dx,w,rfl,Jd,rfl,q x _ (((JB nd _).upd nx).upd nx) ⟨dx,Jd⟩⟩
noncomputable def JeB (C : Addr) : Sp := fun vs H Q _ => ∃ p w l,vs = [.ref p,T l] ∧ Jda C H p w ∧ w.length ≤ 1000 ∧ l.length ≤ 1000 ∧ ∀ H',Same H H' → Q (.bl (nevB w l)) H'
section
variable {P : Program} {w : World} {K : PySem.W.Frag} {mg : Str → Option Value} {base : Heap} {Jg J7 J4 Ji J1 J2 Jk Jc Ja Jb Jf J9 : Addr}
theorem JeC (tx : Tx K mg Jg J7 J4 Ji J1 J2 Jk Jc Ja Jb Jf J9) : FnG P w K mg base "fits" 1 ["sign","mark"] Jdv := by
 refine tx.Jex.g Jdt (fun _ _ _ _ _ _ us hl => match us,hl with | [_,_],_ => rfl) (fun vs H Q E h => ?_) (fun f cdv A outer s H vs Q E hr h => ?_)
 ·obtain ⟨a,b,rfl,_⟩ := h
  rfl
 ·obtain ⟨a,b,rfl,q⟩ := h
  refine ⟨_,(J6 (J0E (Js J0P (pv 0) (JU (l := [63]) (by decide +kernel)) (Jw _)) (Jh (Jv J2W)) JK)
   (J6 (J0E (Js J0P (pv 0) (JU (l := [35]) (by decide +kernel)) (Jw _)) (Jh (Jv (J24 J2U (pv 1) (JU (l := [45]) (by decide +kernel)) (Jw _)))) JK)
   (Jh (Jv (J24 J0P (pv 0) (pv 1) (Jw _)))))),?_⟩
  walk_at "st"
  refine ⟨_,rfl,rfl,_,rfl,?_⟩
  refine ite2 (fun c => ?_) (fun c => ?_)
  ·have e : J2Q (T a) (T b) = true := by unfold J2Q; rw [if_pos c]
   rw [e] at q
   exact q
  ·refine ⟨_,rfl,rfl,_,rfl,?_⟩
   refine ite2 (fun c2 => ?_) (fun c2 => ?_)
   ·have e : J2Q (T a) (T b) = !decide (T b = T [45]) := by unfold J2Q; rw [if_neg c,if_pos c2]
    rw [e] at q
    exact ⟨_,rfl,rfl,q⟩
   ·have e : J2Q (T a) (T b) = decide (T a = T b) := by unfold J2Q; rw [if_neg c,if_neg c2]
    rw [e] at q
    exact ⟨_,rfl,_,rfl,rfl,q⟩
theorem J8l (tx : Tx K mg Jg J7 J4 Ji J1 J2 Jk Jc Ja Jb Jf J9) : FnG P w K mg base "last_marks" 1 ["marks","many"] Jdu := by
 refine tx.J8g.g J7l (fun _ _ _ _ _ _ us hl => match us,hl with | [_,_],_ => rfl) (fun vs H Q E h => ?_) (fun f cdv A outer s H vs Q E hr h => ?_)
 ·obtain ⟨a,b,rfl,_⟩ := h
  rfl
 ·obtain ⟨l,n,rfl,hl,hn,q⟩ := h
  refine ⟨_,(Jh (Jv (J1T J3V (pv 0) (J2b (Ju (J5B rfl) rfl tx.J6D JaD (J0 J8 (J0 (Jl J3M (Ju J14 rfl tx.J0g PySem.boot_len (J0 (pv 0) J5)) (pv 1)) J5)))) J2u))),?_⟩
  walk_at "st"
  refine ⟨_,rfl,_,rfl,l,rfl,J4p hl,_,rfl,_,_,rfl,rfl,_,_,rfl,_,rfl,l,rfl,J4p hl,?_⟩
  have e : cutN l (some (if (l.length : Int) - n > 0 then (l.length : Int) - n else 0)) none = l.drop (l.length - n.toNat) := by
   rw [J7g _ _ (by split <;> omega)]
   congr 1
   split <;> omega
  rw [e]
  exact q
theorem J8E (tx : Tx K mg Jg J7 J4 Ji J1 J2 Jk Jc Ja Jb Jf J9) : MtG P w K mg base Jg "__init__" 1 ["self","word"] (JaN Jg) := by
 refine tx.J8A.g tx.J3k.cl J7y (fun _ _ _ _ _ _ us hl => match us,hl with | [_,_],_ => rfl) (fun vs H Q E h => ?_) (fun f cdv A outer s H vs Q E hr h => ?_)
 ·obtain ⟨p,dx,w,rfl,_⟩ := h
  rfl
 ·obtain ⟨p,dx,w,rfl,hp,q⟩ := h
  refine ⟨_,(Jh (J0s (pv 0) (pv 1) rfl)),?_⟩
  walk_at "st"
  exact ⟨_,rfl,_,rfl,p,Jg,dx,[],rfl,hp,tx.J3k.cl,tx.J0N,by decide,q⟩
theorem J9f (tx : Tx K mg Jg J7 J4 Ji J1 J2 Jk Jc Ja Jb Jf J9) : MtG P w K mg base Jg "bad" 2 ["self","marks"] (JeB Jg) := by
 have JeF := JeC (P := P) (w := w) (base := base) tx
 have J8q := J8l (P := P) (w := w) (base := base) tx
 refine tx.J9s.g tx.J3k.cl J4u (fun _ _ _ _ _ _ us hl => match us,hl with | [_,_],_ => rfl) (fun vs H Q E h => ?_) (fun f cdv A outer s H vs Q E hr h => ?_)
 ·obtain ⟨p,w,l,rfl,_⟩ := h
  rfl
 ·obtain ⟨p,w,l,rfl,⟨dx,hp⟩,hw,hl,q⟩ := h
  refine ⟨_,(J6 (J0E (Js JcA (Ju J14 rfl tx.J0g PySem.boot_len (J0 (pv 1) J5)) (Ju J14 rfl tx.J0g PySem.boot_len (J0 (Jt (K := K) rfl (pv 0) rfl) J5)) (Jw _)) (Jh (Jv J2W)) JK)
   (J6 (Jq (i := 2) J4u.nd rfl (Or.inl rfl) (JO J8q (hr.mono (by decide)) (J0 (pv 1) (J0 (Ju J14 rfl tx.J0g PySem.boot_len (J0 (Jt (K := K) rfl (pv 0) rfl) J5)) J5))))
   (Jh (Jv (Ju (Jaj (K := K) rfl rfl) rfl tx.J99 JeJ (J0 (JP (osc := J3 J1B) (ON := ["self","marks","nearest"]) (N := ["sign","mark"]) (js := [none,none]) ⟨rfl,by decide +kernel,by decide +kernel,by decide +kernel,rfl,by decide +kernel⟩ rfl rfl rfl (Jeb rfl tx.J42 (J0 (Jt (K := K) rfl (pv 0) rfl) (J0 (pv 2) J5))) (fun _ _ _ _ _ => J3S (K := K) (i := 0) (j := 1) rfl rfl (show List.Nodup (["sign","mark"] : List Str) from by decide +kernel) rfl rfl (Or.inl rfl) (Or.inl rfl)) (fun _ _ _ _ _ => J0b) (fun _ _ _ _ _ => (JO JeF (hr.mono (by decide)) (J0 (pv 0) (J0 (pv 1) J5))))) J5)))))),?_⟩
  walk_at "st"
  refine ⟨_,rfl,l,rfl,J4p hl,_,rfl,p,Jg,dx,_,_,rfl,hp,tx.J3k.cl,tx.J0N,wl _,w,rfl,J4p hw,_,_,rfl,rfl,_,rfl,?_⟩
  refine ite2 (fun c => ?_) (fun c => ?_)
  ·have c' := of_decide_eq_true c
   have e : nevB w l = false := by unfold nevB; rw [if_pos (by omega)]
   have q' := q H (Same.refl _)
   rw [e] at q'
   exact q'
  ·have c' : ¬ ((l.length : Int) < (w.length : Int)) := of_decide_eq_false (Bool.eq_false_iff.mpr c)
   refine ⟨_,rfl,_,rfl,p,Jg,dx,_,_,rfl,hp,tx.J3k.cl,tx.J0N,wl _,w,rfl,J4p hw,l,_,rfl,hl,by omega,?_⟩
   refine ⟨_,rfl,p,Jg,dx,_,_,rfl,hp,tx.J3k.cl,tx.J0N,wl _,_,rfl,w,_,rfl,?_⟩
   refine JbI (fun c d => .bl (J2Q (T [c]) (T [d]))) ?_ (fun c d H' s' R hR => ?_) (fun D H' hD s' hDD => ?_)
   ·omega
   ·exact ⟨_,rfl,_,rfl,_,_,rfl,hR H' (Same.refl _)⟩
   refine ⟨D,((w.zip (l.drop (l.length - (w.length : Int).toNat))).map fun p => J2Q (T [p.1]) (T [p.2])),rfl,SqL.of ?_,?_⟩
   ·rw [hDD,List.map_map]
    rfl
   ·have e : nevB w l = ((w.zip (l.drop (l.length - (w.length : Int).toNat))).map fun p => J2Q (T [p.1]) (T [p.2])).all id := by
     unfold nevB
     rw [if_neg (by omega),Int.toNat_natCast]
    have q' := q H' s'
    rw [e] at q'
    exact q'
theorem Je7 (tx : Tx K mg Jg J7 J4 Ji J1 J2 Jk Jc Ja Jb Jf J9) {H : Hp} {p : Addr} {wd : List Nat} (h : Jda Jg H p wd) (hw : wd.length ≤ 1000) : BadQ P w K mg base H p (nevB wd) := by
 obtain ⟨dx,hp⟩ := h
 exact ⟨Jg,dx,_,2,_,_,hp,wnb _,J9f (P := P) (w := w) (base := base) tx,by decide,fun m hm H' Q' k q => ⟨p,wd,m,rfl,⟨dx,k _ _ hp (fun zs z => by cases z)⟩,hw,by omega,q⟩⟩
end
noncomputable abbrev fF (a b c : V) : List (Str × V) := [("rota",a),("total",b),("paper",c)]
theorem Jbg (a b c : V) : List.lookup ("rota" : Str) (fF a b c) = some a := J1h
theorem J9Z (a b c : V) : List.lookup ("total" : Str) (fF a b c) = some b := by rw [Jx (by decide +kernel),J1h]
theorem J9P (a b c : V) : List.lookup ("paper" : Str) (fF a b c) = some c := by rw [Jx (by decide +kernel),Jx (by decide +kernel),J1h]
theorem J87 (a b c : V) : List.lookup ("stands" : Str) (fF a b c) = none := by rw [Jx (by decide +kernel),Jx (by decide +kernel),Jx (by decide +kernel)]; rfl
theorem Jdf (a : V) : List.lookup ("paper" : Str) [(("paper" : Str),a)] = some a := J1h
theorem J7X (a : V) : List.lookup ("stands" : Str) [(("paper" : Str),a)] = none := by rw [Jx (by decide +kernel)]; rfl
theorem JfX (a b c : V) : putF "paper" c (putF "total" b (putF "rota" a [])) = fF a b c := by
 show putF "paper" c (putF "total" b ([(("rota" : Str),a)] : List (Str × V))) = _
 rw [putN (fs := [("rota",a)]) (show ∀ g ∈ [("rota" : Str)],g ≠ "total" from by decide +kernel)]
 show putF "paper" c ([(("rota" : Str),a),(("total" : Str),b)] : List (Str × V)) = _
 rw [putN (fs := [("rota",a),("total",b)]) (show ∀ g ∈ [("rota" : Str),"total"],g ≠ "paper" from by decide +kernel)]
 rfl
theorem JfI (a b : V) : (putF "total" b (putF "rota" a [])).length = 2 := by
 show (putF "total" b ([(("rota" : Str),a)] : List (Str × V))).length = _
 rw [putN (fs := [("rota",a)]) (show ∀ g ∈ [("rota" : Str)],g ≠ "total" from by decide +kernel)]
 rfl
noncomputable def PapQ (P : Program) (w : World) (K : PySem.W.Frag) (mg : Str → Option Value) (base : Heap) (H : Hp) (pp h c : Addr) (v : V) : Prop := ∃ (C dx : Addr) (fs : List (Str × V)) (k : Nat) (ps : List Str) (sp : Sp),H pp = some (.ins C dx fs) ∧ fs.lookup ("floor" : Str) = none ∧ MtG P w K mg base C "floor" k ps sp ∧ k ≤ 4 ∧ ∀ (H' : Hp) (Q' : VK),Same H H' → (∀ H'',Same H' H'' → Q' v H'') → sp [.ref pp,.ref h,.ref c] H' Q' E0
theorem PapQ.same {P : Program} {w : World} {K : PySem.W.Frag} {mg : Str → Option Value} {base : Heap} {H H' : Hp} {pp h c : Addr} {v : V} (x : PapQ P w K mg base H pp h c v) (s : Same H H') : PapQ P w K mg base H' pp h c v := by
 obtain ⟨C,dx,fs,k,ps,sp,h1,h2,h3,h4,h5⟩ := x
 exact ⟨C,dx,fs,k,ps,sp,s _ _ h1,h2,h3,h4,fun H2 Q' s2 q => h5 H2 Q' (s.trans s2) q⟩
noncomputable def J9n (C : Addr) : Sp := fun vs H Q _ => ∃ p dx r pp xs z,vs = [.ref p,.ref r,.int z,.ref pp] ∧ H p = some (.ins C dx []) ∧ H r = some (.lst xs) ∧ ∀ H' a,But p H H' → H' p = some (.ins C dx (fF (.ref a) (.int z) (.ref pp))) → H' a = some (.lst xs) → H a = none → Q .non H'
noncomputable def rFnd (C : Addr) : List V → Hp → VK → Prop := fun vs H Q => ∃ r pp xs z,vs = [.ref r,.int z,.ref pp] ∧ H r = some (.lst xs) ∧ ∀ p dx a H',Same H H' → H' p = some (.ins C dx (fF (.ref a) (.int z) (.ref pp))) → H' a = some (.lst xs) → H a = none → Q (.ref p) H'
theorem Jfr {C : Addr} : ∀ vs H Q,rFnd C vs H Q → ∀ x dx,H x = none → H dx = none → dx ≠ x → J9n C (.ref x :: (vs ++ [])) (upd (upd H dx (.own x)) x (.ins C dx [])) (fun v H2 => v = .non ∧ Q (.ref x) H2) E0 := by
 rintro _ H Q ⟨r,pp,xs,z,rfl,h1,q⟩ x dx nx nd _
 exact ⟨x,dx,r,pp,xs,z,rfl,Jd,J2a nx nd h1,fun H' a bt e e1 n1 => ⟨rfl,q x dx a H' (J2q nx nd bt) e e1 (J16 n1)⟩⟩
noncomputable def J9w (C : Addr) : Sp := fun vs H Q _ => ∃ p dx pp,vs = [.ref p,.ref pp] ∧ H p = some (.ins C dx []) ∧ Q .non (upd H p (.ins C dx [("paper",.ref pp)]))
noncomputable def rWth (C : Addr) : List V → Hp → VK → Prop := fun vs H Q => ∃ pp,vs = [.ref pp] ∧ ∀ p dx H',Same H H' → H' p = some (.ins C dx [("paper",.ref pp)]) → Q (.ref p) H'
theorem Jfq {C : Addr} : ∀ vs H Q,rWth C vs H Q → ∀ x dx,H x = none → H dx = none → dx ≠ x → J9w C (.ref x :: (vs ++ [])) (upd (upd H dx (.own x)) x (.ins C dx [])) (fun v H2 => v = .non ∧ Q (.ref x) H2) E0 := by
 rintro _ H Q ⟨pp,rfl,q⟩ x dx nx nd _
 exact ⟨x,dx,pp,rfl,Jd,rfl,q x dx _ (((JB nd _).upd nx).upd nx) Jd⟩
structure FtQ (P : Program) (w : World) (K : PySem.W.Frag) (mg : Str → Option Value) (base : Heap) (C1 C2 : Addr) (H : Hp) (h : Addr) (dd : Int) (ks : List Nat) (nds : List Nd) (ps : List Ps) (ls : List (List Nat × Int)) (u5 u6 : List V) (rows : List (List Nat)) (rls : List Ru) (prs : List Pr) : Prop where
 hq : Hq C1 C2 H h dd ks nds ps ls u5 u6
 hl : rows.length = ps.length
 p8 : ps.length ≤ 8
 k4 : ks.length ≤ 4
 d0 : 0 ≤ dd
 d10 : dd ≤ 10
 rl : ∀ r ∈ rows,(r.length : Int) = dd
 past : ∀ n ∈ ps,n.past.length ≤ 100
 ru : All2 (RuT P w K mg base) H rls u5
 r6 : rls.length ≤ 6
 pr : All2 PrT H prs u6
 p2 : prs.length ≤ 2
 pin : ∀ p ∈ prs,PrIn ps p
theorem FtQ.same {P : Program} {w : World} {K : PySem.W.Frag} {mg : Str → Option Value} {base : Heap} {C1 C2 : Addr} {H H' : Hp} {h : Addr} {dd : Int} {ks : List Nat} {nds : List Nd} {ps : List Ps} {ls : List (List Nat × Int)} {u5 u6 : List V} {rows : List (List Nat)} {rls : List Ru} {prs : List Pr} (x : FtQ P w K mg base C1 C2 H h dd ks nds ps ls u5 u6 rows rls prs) (s : Same H H') : FtQ P w K mg base C1 C2 H' h dd ks nds ps ls u5 u6 rows rls prs :=
 ⟨x.hq.same s,x.hl,x.p8,x.k4,x.d0,x.d10,x.rl,x.past,x.ru.imp fun a y => RuT.keeps a y _ _ s.keeps,x.r6,x.pr.imp fun a y => PrT.keeps a y _ _ s.keeps,x.p2,x.pin⟩
noncomputable def stdB (fs : List (List V)) (z tot : Int) (v : V) : Bool := decide (fs = []) && (decide (z = tot) && decide (v = .int tot))
noncomputable def Jad (P : Program) (w : World) (K : PySem.W.Frag) (mg : Str → Option Value) (base : Heap) (C1 C2 C3 : Addr) : Sp := fun vs H Q _ => ∃ (p dx a pp h c : Addr) (tot : Int) (dd : Int) (ks : List Nat) (nds : List Nd) (ps : List Ps) (ls : List (List Nat × Int)) (u5 u6 : List V) (rows : List (List Nat)) (rls : List Ru) (prs : List Pr) (f : Nat → List Nat → Int) (g : Nat → Nat → Nat → Int) (v : V),vs = [.ref p,.ref h,.ref c] ∧ H p = some (.ins C3 dx (fF (.ref a) (.int tot) (.ref pp))) ∧ H a = some (.lst (rows.map T)) ∧ FtQ P w K mg base C1 C2 H h dd ks nds ps ls u5 u6 rows rls prs ∧ CoAt P w K mg base H c f g rows ∧ PapQ P w K mg base H pp h c v ∧ (v = .non ∨ ∃ z,v = .int z) ∧ ∀ H',Same H H' → Q (.bl (stdB (allF ks nds ls rls prs ps rows dd.toNat) (totN f g rows rows.length) tot v)) H'
noncomputable def Jae (P : Program) (w : World) (K : PySem.W.Frag) (mg : Str → Option Value) (base : Heap) (C3 : Addr) : Sp := fun vs H Q _ => ∃ (p dx pp h c : Addr) (v : V),vs = [.ref p,.ref h,.ref c] ∧ H p = some (.ins C3 dx [("paper",.ref pp)]) ∧ PapQ P w K mg base H pp h c v ∧ (v = .non ∨ ∃ z,v = .int z) ∧ ∀ H',Same H H' → Q (.bl (decide (v = .non))) H'
section
variable {P : Program} {w : World} {K : PySem.W.Frag} {mg : Str → Option Value} {base : Heap} {Jg J7 J4 Ji J1 J2 Jk Jc Ja Jb Jf J9 : Addr}
local macro_rules | `(tactic| walk_at "lk") => `(tactic| first | exact Jbg _ _ _ | exact J9Z _ _ _ | exact J9P _ _ _ | exact Jdf _)
theorem Jfv (tx : Tx K mg Jg J7 J4 Ji J1 J2 Jk Jc Ja Jb Jf J9) : MtG P w K mg base Jk "floor" 1 ["self","house","costs"] Jeg := by
 refine tx.J7G.g tx.J65.cl J6Z (fun _ _ _ _ _ _ us hl => match us,hl with | [_,_,_],_ => rfl) (fun vs H Q E h => ?_) (fun f cdv A outer s H vs Q E hr h => ?_)
 ·obtain ⟨a,b,c,rfl,_⟩ := h
  rfl
 ·obtain ⟨a,b,c,rfl,q⟩ := h
  refine ⟨_,(Jh (Jv J8)),?_⟩
  walk_at "st"
  walk_at "rd"
  exact q
theorem J8x (tx : Tx K mg Jg J7 J4 Ji J1 J2 Jk Jc Ja Jb Jf J9) : MtG P w K mg base Jf "__init__" 1 ["self","rota","total","paper"] (J9n Jf) := by
 refine tx.J8f.g tx.J3Y.cl J7p (fun _ _ _ _ _ _ us hl => match us,hl with | [_,_,_,_],_ => rfl) (fun vs H Q E h => ?_) (fun f cdv A outer s H vs Q E hr h => ?_)
 ·obtain ⟨p,dx,r,pp,xs,z,rfl,_⟩ := h
  rfl
 ·obtain ⟨p,dx,r,pp,xs,z,rfl,hp,h1,q⟩ := h
  refine ⟨_,(J6 (J0s (pv 0) (JX JI rfl tx.J13 JT (J0 (pv 1) J5)) rfl)
   (J6 (J0s (pv 0) (pv 2) rfl)
   (Jh (J0s (pv 0) (pv 3) rfl)))),?_⟩
  walk_at "st"
  have cE := tx.J3Y.cl
  have n1 := tx.J1a
  have n2 := tx.J0W
  have n3 := tx.J0S
  have z0 : ([] : List (Str × V)).length < 1000 := by decide
  have I1 : SqL K H r xs ∨ SqT K H r xs := .inl (SqL.of h1)
  walk_at "rd"
  intro a1 f1
  obtain ⟨H1,e1,y1,s1⟩ := newl (xs := xs) f1
  rw [← e1]
  have hp1 := s1 _ _ hp
  have na1 : a1 ≠ p := (Je hp f1).symm
  have z1 : (putF "rota" (.ref a1) []).length < 1000 := by show 1 < 1000; decide
  have z2 : (putF "total" (.int z) (putF "rota" (.ref a1) [])).length < 1000 := by rw [JfI]; decide
  walk_at "rd"
  refine q _ a1 ?_ ?_ ?_ f1
  ·exact (((((But.refl p H).same s1).at).at).at)
  ·rw [Jd,JfX]
  ·rw [Jj na1,Jj na1,Jj na1]; exact y1
theorem J6S (tx : Tx K mg Jg J7 J4 Ji J1 J2 Jk Jc Ja Jb Jf J9) : MtG P w K mg base Jf "stands" 9 ["self","house","costs"] (Jad P w K mg base J7 J4 Jf) := by
 have J9c := Jcm (P := P) (w := w) (base := base) tx
 have J6v := Ja8 (P := P) (w := w) (base := base) tx
 refine tx.J6R.g tx.J3Y.cl J63 (fun _ _ _ _ _ _ us hl => match us,hl with | [_,_,_],_ => rfl) (fun vs H Q E h => ?_) (fun f cdv A outer s H vs Q E hr h => ?_)
 ·obtain ⟨p,dx,a,pp,h,c,tot,dd,ks,nds,ps,ls,u5,u6,rows,rls,prs,f,g,v,rfl,_⟩ := h
  rfl
 ·obtain ⟨p,dx,a,pp,h,c,tot,dd,ks,nds,ps,ls,u5,u6,rows,rls,prs,f,g,v,rfl,hp,ha,hF,hC,hP,hv,q⟩ := h
  refine ⟨_,(J6 (J0E (PW.pt (J3z (Jd1 (JO J9c (hr.mono (by decide)) (J0 (pv 1) (J0 (Jt (K := K) rfl (pv 0) rfl) J5))) (fun _ => rfl)) (J3p (Js J2U (JO J6v (hr.mono (by decide)) (J0 (pv 1) (J0 (pv 2) (J0 (Jt (K := K) rfl (pv 0) rfl) J5)))) (Jt (K := K) rfl (pv 0) rfl) (Jw _))))) (Jh (Jv J2W)) JK)
   (Jh (Jv (J24 J0P (J2s (P := P) (w := w) (K := K) (mg := mg) (base := base) hr (Jt (K := K) rfl (pv 0) rfl) (J0 (pv 1) (J0 (pv 2) J5)) rfl rfl rfl rfl rfl) (Jt (K := K) rfl (pv 0) rfl) (Jw _))))),?_⟩
  walk_at "st"
  clear J9c J6v
  have cE := tx.J3Y.cl
  have n1 := tx.J1a
  have n2 := tx.J0W
  have n3 := tx.J0S
  have x1 := hF.hq
  have x2 := hF.hl
  have x3 := hF.p8
  have x4 := hF.k4
  have x5 := hF.d0
  have x6 := hF.d10
  have x7 := hF.rl
  have x8 := hF.past
  have x9 := hF.ru
  have x10 := hF.r6
  have x11 := hF.pr
  have x12 := hF.p2
  have x13 := hF.pin
  have hr1000 : ∀ x ∈ rows,x.length ≤ 1000 := fun r hr => by have := x7 r hr; omega
  walk_at "rd"
  intro D H1 ys s1 nD hD hA
  have hp1 := s1 _ _ hp
  have ha1 := s1 _ _ ha
  have hC1 := hC.same s1
  have hal := hA.len
  generalize allF ks nds ls rls prs ps rows dd.toNat = fs at hA hal q ⊢
  clear x1 x2 x3 x4 x5 x6 x8 x9 x10 x11 x12 x13
  have std : stdB fs (totN f g rows rows.length) tot v = (decide (fs = []) && (decide (totN f g rows rows.length = tot) && decide (v = .int tot))) := rfl
  rw [std] at q
  clear std
  have qD : SqL K H1 D ys := SqL.of hD
  refine ⟨!ys.isEmpty,.inl ⟨ys,qD,rfl⟩,?_⟩
  walk_at "rd"
  refine ite2 (fun e => ?_) (fun e => ?_)
  ·have e' : ¬ fs = [] := fun z => by
    rw [z] at hal
    have : ys = [] := List.eq_nil_of_length_eq_zero hal
    rw [this] at e
    cases e
   rw [decide_eq_false e',Bool.false_and] at q
   walk_at "rd"
   exact q H1 s1
  have e' : fs = [] := by
   cases ys with
   | nil => exact List.eq_nil_of_length_eq_zero hal.symm
   | cons y r => exact absurd rfl e
  rw [decide_eq_true e',Bool.true_and] at q
  walk_at "rd"
  intro H2 s2
  have S2 := s1.trans s2
  have hp2 := S2 _ _ hp
  have hP2 := hP.same S2
  walk_at "rd"
  refine ite2 (fun e => ?_) (fun e => ?_)
  ·have e2 : ¬ totN f g rows rows.length = tot := fun z => by rw [z] at e; simp at e
   rw [decide_eq_false e2,Bool.false_and] at q
   walk_at "rd"
   exact q H2 S2
  have e2 : totN f g rows rows.length = tot := by
   have : V.int (totN f g rows rows.length) = V.int tot := by simpa using e
   exact V.int.inj this
  rw [decide_eq_true e2,Bool.true_and] at q
  obtain ⟨C,dxp,fsp,k,psp,spp,hpp,lk1,M1,hk4,A1⟩ := hP2
  walk_at "rd"
  refine A1 _ _ (Same.refl _) fun H3 s3 => ?_
  have hp3 := s3 _ _ hp2
  rcases hv with rfl | ⟨z,rfl⟩
  ·walk_at "rd"
   exact q H3 (S2.trans s3)
  ·walk_at "rd"
   exact q H3 (S2.trans s3)
theorem J6G (tx : Tx K mg Jg J7 J4 Ji J1 J2 Jk Jc Ja Jb Jf J9) : MtG P w K mg base J9 "__init__" 1 ["self","paper"] (J9w J9) := by
 refine tx.J6E.g tx.J3b.cl J5Y (fun _ _ _ _ _ _ us hl => match us,hl with | [_,_],_ => rfl) (fun vs H Q E h => ?_) (fun f cdv A outer s H vs Q E hr h => ?_)
 ·obtain ⟨p,dx,pp,rfl,_⟩ := h
  rfl
 ·obtain ⟨p,dx,pp,rfl,hp,q⟩ := h
  refine ⟨_,(Jh (J0s (pv 0) (pv 1) rfl)),?_⟩
  walk_at "st"
  have cE := tx.J3b.cl
  have n1 := tx.J0H
  have z0 : ([] : List (Str × V)).length < 1000 := by decide
  walk_at "rd"
  exact q
theorem J5a (tx : Tx K mg Jg J7 J4 Ji J1 J2 Jk Jc Ja Jb Jf J9) : MtG P w K mg base J9 "stands" 6 ["self","house","costs"] (Jae P w K mg base J9) := by
 refine tx.J5i.g tx.J3b.cl J4s (fun _ _ _ _ _ _ us hl => match us,hl with | [_,_,_],_ => rfl) (fun vs H Q E h => ?_) (fun f cdv A outer s H vs Q E hr h => ?_)
 ·obtain ⟨p,dx,pp,h,c,v,rfl,_⟩ := h
  rfl
 ·obtain ⟨p,dx,pp,h,c,v,rfl,hp,hP,hv,q⟩ := h
  refine ⟨_,(Jh (Jv (J24 Jd3 (J2s (P := P) (w := w) (K := K) (mg := mg) (base := base) hr (Jt (K := K) rfl (pv 0) rfl) (J0 (pv 1) (J0 (pv 2) J5)) rfl rfl rfl rfl rfl) Jao (Jw _)))),?_⟩
  walk_at "st"
  have cE := tx.J3b.cl
  have n1 := tx.J0H
  obtain ⟨C,dxp,fsp,k,psp,spp,hpp,lk1,M1,hk4,A1⟩ := hP
  walk_at "rd"
  refine A1 _ _ (Same.refl _) fun H3 s3 => ?_
  rcases hv with rfl | ⟨z,rfl⟩
  ·walk_at "rd"
   exact q H3 s3
  ·walk_at "rd"
   exact q H3 s3
theorem J62 (tx : Tx K mg Jg J7 J4 Ji J1 J2 Jk Jc Ja Jb Jf J9) : MtG P w K mg base Jb "stands" 1 ["self","house","costs"] (fun vs H Q _ => ∃ a b c,vs = [a,b,c] ∧ Q (.bl false) H) := by
 refine tx.J5Z.g tx.J3J.cl J5d (fun _ _ _ _ _ _ us hl => match us,hl with | [_,_,_],_ => rfl) (fun vs H Q E h => ?_) (fun f cdv A outer s H vs Q E hr h => ?_)
 ·obtain ⟨a,b,c,rfl,_⟩ := h
  rfl
 ·obtain ⟨a,b,c,rfl,q⟩ := h
  refine ⟨_,(Jh (Jv J2W)),?_⟩
  walk_at "st"
  walk_at "rd"
  exact q
end
theorem Jej (ns : List Int) (lo hi : Option Int) : cutV (ns.map V.int) lo hi = (cutN ns lo hi).map V.int := by
 unfold cutV cutN
 rw [List.length_map,List.map_take,List.map_drop]
noncomputable def Jcf : Sp := fun vs H Q _ => ∃ (c m : Int),vs = [.int c,.int m] ∧ 0 ≤ m ∧ m ≤ 5 ∧ ∀ (a : Addr) (H' : Hp) (nms : List (List Nat)),Same H H' → H a = none → H' a = some (.lst (nms.map T)) → (nms.length : Int) = m → (∀ (i j : Nat) (nm : List Nat),nms[i]? = some nm → nms[j]? = some nm → i = j) → Q (.ref a) H'
theorem JeH {x i j : Int} (hi : 0 ≤ i ∧ i < 5) (hj : 0 ≤ j ∧ j < 5) (h : ltr ((x + 5 * i) % 26) = ltr ((x + 5 * j) % 26)) : i = j := by
 unfold ltr at h
 have a := Int.emod_nonneg (x + 5 * i) (show (26 : Int) ≠ 0 by decide)
 have b := Int.emod_nonneg (x + 5 * j) (show (26 : Int) ≠ 0 by decide)
 omega
noncomputable def Jbp : Sp := fun vs H Q _ => ∃ (c m : Int),vs = [.int c,.int m] ∧ 1 ≤ m ∧ m ≤ 3 ∧ ∀ (ks : List Nat) (H' : Hp),Same H H' → (ks.length : Int) = m → ks.Nodup → (∀ k ∈ ks,k ≠ 45) → (∀ k ∈ ks,65 ≤ k) → Q (T ks) H'
section
variable {P : Program} {w : World} {K : PySem.W.Frag} {mg : Str → Option Value} {base : Heap} {Jg J7 J4 Ji J1 J2 Jk Jc Ja Jb Jf J9 : Addr}
theorem J7o (tx : Tx K mg Jg J7 J4 Ji J1 J2 Jk Jc Ja Jb Jf J9) : FnG P w K mg base "_law_cell_at" 1 ["_law_script","_law_k"] (Jcj K) := by
 refine tx.J7L.g J6j (fun _ _ _ _ _ _ us hl => match us,hl with | [_,_],_ => rfl) (fun vs H Q E h => ?_) (fun f cdv A outer s H vs Q E hr h => ?_)
 ·obtain ⟨a,ns,k,rfl,_⟩ := h
  rfl
 ·obtain ⟨a,ns,k,rfl,hS,h0,q⟩ := h
  refine ⟨_,(J6 (J0E (Js JcA (pv 1) (Ju (JD (K := K) rfl) rfl tx.J0g PySem.boot_len (J0 (pv 0) J5)) (Jw _)) (Jh (Jv (Jo (Jy (K := K) rfl) (pv 0) (pv 1) (fun _ _ => rfl)))) JK)
   (Jh (Jv J8))),?_⟩
  walk_at "st"
  walk_at "rd"
  refine ite2 (fun c => ?_) (fun c => ?_)
  ·have c' : k < ((ns.map V.int).length : Int) := of_decide_eq_true c
   rw [List.length_map] at c'
   have hv := J1M h0 c'
   walk_at "rd"
   exact q
  ·have c' : ¬ k < ((ns.map V.int).length : Int) := of_decide_eq_false (Bool.eq_false_iff.mpr c)
   rw [List.length_map] at c'
   walk_at "rd"
   rw [Jde (by omega)] at q
   exact q
theorem J2x (tx : Tx K mg Jg J7 J4 Ji J1 J2 Jk Jc Ja Jb Jf J9) : FnG P w K mg base "_law_drawn" 1 ["_law_cell","_law_many"] Jci := by
 refine tx.J9a.g J2j (fun _ _ _ _ _ _ us hl => match us,hl with | [_,_],_ => rfl) (fun vs H Q E h => ?_) (fun f cdv A outer s H vs Q E hr h => ?_)
 ·obtain ⟨c,m,rfl,_⟩ := h
  rfl
 ·obtain ⟨c,m,rfl,h0,h1,q⟩ := h
  refine ⟨_,(J6 (Jq (i := 2) J2j.nd rfl (Or.inl rfl) (J0X J5))
   (J6 (Jq (i := 3) J2j.nd rfl (Or.inl rfl) (Jl J00 (Jl JM (pv 0) J8) J8))
   (J6 (J0G PassesOwn.never rfl (J03 rfl tx.J0i (J0 (Jl J00 (pv 1) J8) J5)) (Jm (i := 4) J2j.nd rfl (Or.inl rfl)) (J6 (Jq (i := 3) J2j.nd rfl (Or.inl rfl) (Jl JM (Jl J00 (Jl J00 (Jl J00 (Jl J1P (pv 3) (pv 3)) (Jl J1P J8 (pv 3))) (Jl J1P J8 (pv 4))) J8) J8))
   (Jh (J2X (J4N PySem.F.plainAttrs_list PySem.F.slot_list_append PySem.F.type_list_append J1w (pv 2) (J0 (pv 3) J5))))))
   (Jh (Jv (J1T (J79 (K := K) rfl) (pv 2) (J2b J8) J2u)))))),?_⟩
  walk_at "st"
  have b0 : 0 ≤ c % 2147483629 := Int.emod_nonneg _ (by decide)
  have b1 : c % 2147483629 < 2147483629 := Int.emod_lt_of_pos _ (by decide)
  walk_at "rd"
  intro p hp
  walk_at "rd"
  refine J1v (n := (m + 2).toNat) (fun i σ H2 => Here (∃ (n : Int) (v : Option V) (ys : List Int),σ = [some (.int c),some (.int m),some (.ref p),some (.int n),v] ∧ 0 ≤ n ∧ n < 2147600000 ∧ ys.length = i ∧ H2 p = some (.lst (ys.map V.int)) ∧ (∀ y ∈ ys,0 ≤ y ∧ y < 2147483629) ∧ Same H H2))
   (Here.mk ⟨_,none,[],rfl,by omega,by omega,rfl,Jd,fun _ h => (by cases h),JB hp _⟩) ?_ ?_
  ·rintro i σ H2 hi hv
   obtain ⟨n,v,ys,rfl,hn0,hn1,hy,hpp,hb,hs⟩ := hv.out
   have z0 : 0 ≤ (n * n + 69621 * n + 11 * (0 + (i : Int)) + 3) % 2147483629 := Int.emod_nonneg _ (by decide)
   have z1 : (n * n + 69621 * n + 11 * (0 + (i : Int)) + 3) % 2147483629 < 2147483629 := Int.emod_lt_of_pos _ (by decide)
   have hl : (ys.map V.int).length ≤ 1000 := by rw [List.length_map]; omega
   walk_at "rd"
   refine Here.mk ⟨_,_,ys ++ [(n * n + 69621 * n + 11 * (0 + (i : Int)) + 3) % 2147483629],rfl,z0,by omega,?_,?_,fun y hy => ?_,hs.upd hp⟩
   ·rw [List.length_append,List.length_singleton,hy]
   ·rw [Jd,List.map_append]
    rfl
   ·rcases List.mem_append.mp hy with hy | hy
    ·exact hb y hy
    ·obtain rfl := List.mem_singleton.mp hy
     exact ⟨z0,z1⟩
  ·rintro σ H2 hv
   obtain ⟨n,v,ys,rfl,hn0,hn1,hy,hpp,hb,hs⟩ := hv.out
   walk_at "rd"
   intro r hr'
   refine q r _ (ys.drop 2) (hs.trans (JB hr' _)) (hs.free hr') ?_ ?_ (fun y hy => hb y (List.mem_of_mem_drop hy))
   ·rw [Jd]
    have e : cutV (ys.map V.int) (some 2) none = (ys.drop 2).map V.int := by
     rw [List.map_drop]
     exact J7g (ys.map V.int) 2 (by decide)
    rw [e]
   ·rw [List.length_drop,hy]
    omega
theorem J98 (tx : Tx K mg Jg J7 J4 Ji J1 J2 Jk Jc Ja Jb Jf J9) : FnG P w K mg base "_law_kinds" 1 ["_law_cell","_law_many"] Jbp := by
 refine tx.J9m.g J4K (fun _ _ _ _ _ _ us hl => match us,hl with | [_,_],_ => rfl) (fun vs H Q E h => ?_) (fun f cdv A outer s H vs Q E hr h => ?_)
 ·obtain ⟨c,m,rfl,_⟩ := h
  rfl
 ·obtain ⟨c,m,rfl,m1,m3,q⟩ := h
  refine ⟨_,(J6 (Jq (i := 2) J4K.nd rfl (Or.inr rfl) (JU (l := [65,66,67,68,69,70,71,72,73,74,75,76,77,78,79,80,81,82,83,84,85,86,87,88,89,90]) (by decide +kernel)))
   (Jh (Jv (J3O (K := K) rfl (JU (l := []) (by decide +kernel)) (J0 (JP (osc := J3 J1H) (ON := ["_law_cell","_law_many","_law_great"]) (N := ["_law_k","_law_great","_law_cell"]) (js := [none,some 2,some 0]) ⟨rfl,by decide +kernel,by decide +kernel,by decide +kernel,rfl,by decide +kernel⟩ rfl rfl rfl (J03 rfl tx.J0i (J0 (pv 1) J5)) (fun _ _ _ _ _ => Jm (i := 0) (show List.Nodup (["_law_k","_law_great","_law_cell"] : List Str) from by decide +kernel) rfl (Or.inl rfl)) (fun _ _ _ _ _ => J0b) (fun _ _ _ _ _ => (Jo J09 (pv 1) (Jl JM (Jl J00 (pv 2) (Jl J1P J8 (pv 0))) J8) (fun _ _ => rfl)))) J5))))),?_⟩
  walk_at "st"
  walk_at "rd"
  refine JF (List.range m.toNat) (fun _ => true) (fun (i : Nat) y _ => y = T [cap ((c + 7 * (0 + (i : Int))) % 26)]) (fun σ => ∃ v,σ = [v,some (T ABC),some (.int c)]) (J1O 0 m.toNat) (by rw [List.length_map]) (by rw [List.length_range]; omega) ⟨_,rfl⟩ (fun _ _ _ _ _ z => z) (fun i a v σ H' ha hv hσ s' Rf Rt _ hR => ?_) (fun D H2 ys nD s2 hys hD => ?_)
  ·obtain ⟨w1,rfl⟩ := hσ
   rw [List.getElem?_map,ha] at hv
   cases hv
   have hl := Jf2 ((c + 7 * (0 + (a : Int))) % 26) (Int.emod_nonneg _ (by decide)) (Int.emod_lt_of_pos _ (by decide))
   walk_at "rd"
   exact hR _ _ _ rfl ⟨_,rfl⟩ (Same.refl _) rfl
  rw [List.filter_eq_self.mpr fun _ _ => rfl] at hys
  have ey : ys = (((List.range m.toNat).map fun (i : Nat) => cap ((c + 7 * (0 + (i : Int))) % 26)).map fun c => [c]).map T := by
   rw [List.map_map,List.map_map]
   exact hys.eqmap fun a y h => h
  have hl : ((List.range m.toNat).map fun (i : Nat) => cap ((c + 7 * (0 + (i : Int))) % 26)).length = m.toNat := by rw [List.length_map,List.length_range]
  have hn : ((List.range m.toNat).map fun (i : Nat) => cap ((c + 7 * (0 + (i : Int))) % 26)).Nodup := J4S _ List.nodup_range fun x hx y hy e => by
   have h1 := List.mem_range.mp hx
   have h2 := List.mem_range.mp hy
   have a := Int.emod_nonneg (c + 7 * (0 + (x : Int))) (show (26 : Int) ≠ 0 by decide)
   have b := Int.emod_nonneg (c + 7 * (0 + (y : Int))) (show (26 : Int) ≠ 0 by decide)
   unfold cap at e
   omega
  have h45 : ∀ k ∈ ((List.range m.toNat).map fun (i : Nat) => cap ((c + 7 * (0 + (i : Int))) % 26)),k ≠ 45 := fun k hk => by
   obtain ⟨i,_,rfl⟩ := List.mem_map.mp hk
   unfold cap
   omega
  have h65 : ∀ k ∈ ((List.range m.toNat).map fun (i : Nat) => cap ((c + 7 * (0 + (i : Int))) % 26)),65 ≤ k := fun k hk => by
   obtain ⟨i,_,rfl⟩ := List.mem_map.mp hk
   unfold cap
   omega
  generalize ((List.range m.toNat).map fun (i : Nat) => cap ((c + 7 * (0 + (i : Int))) % 26)) = ks at ey hl hn h45 h65
  rw [ey] at hD
  have hD3 : SqL K H2 D ((ks.map fun c => [c]).map T) := SqL.of hD
  have hjl : (((ks.map fun c => [c]).map List.length).sum + (ks.map fun c => [c]).length * ([] : List Nat).length ≤ 16777216) := by
   rw [J3d,List.length_map,List.length_nil,Nat.mul_zero]
   omega
  walk_at "rd"
  rw [J2G,J2E]
  exact q ks H2 s2 (by omega) hn h45 h65
theorem J9x (tx : Tx K mg Jg J7 J4 Ji J1 J2 Jk Jc Ja Jb Jf J9) : FnG P w K mg base "_law_names" 2 ["_law_cell","_law_many"] Jcf := by
 have JQ := J2x (P := P) (w := w) (base := base) tx
 refine tx.J96.g J0h (fun _ _ _ _ _ _ us hl => match us,hl with | [_,_],_ => rfl) (fun vs H Q E h => ?_) (fun f cdv A outer s H vs Q E hr h => ?_)
 ·obtain ⟨c,m,rfl,_⟩ := h
  rfl
 ·obtain ⟨c,m,rfl,m0,m5,q⟩ := h
  refine ⟨_,(J6 (Jq (i := 2) J0h.nd rfl (Or.inr rfl) (JU (l := [97,98,99,100,101,102,103,104,105,106,107,108,109,110,111,112,113,114,115,116,117,118,119,120,121,122]) (by decide +kernel)))
   (J6 (Jq (i := 3) J0h.nd rfl (Or.inl rfl) (JO JQ (hr.mono (by decide)) (J0 (pv 0) (J0 J8 J5))))
   (J6 (Jq (i := 4) J0h.nd rfl (Or.inl rfl) (Jo (Jy (K := K) rfl) (J0X (J0 J8 (J0 J8 (J0 J8 (J0 J8 J5))))) (Jl JM (Jo (Jy (K := K) rfl) (pv 3) J8 (fun _ _ => rfl)) J8) (fun _ _ => rfl)))
   (J6 (Jq (i := 5) J0h.nd rfl (Or.inl rfl) (Jl JM (Jo (Jy (K := K) rfl) (pv 3) J8 (fun _ _ => rfl)) (pv 4)))
   (J6 (Jq (i := 6) J0h.nd rfl (Or.inl rfl) (J3O (K := K) rfl (JU (l := []) (by decide +kernel)) (J0 (JP (osc := J3 J1G) (ON := ["_law_cell","_law_many","_law_small","_law_xs","_law_size","_law_at","_law_base","_law_names_here","_law_k","_law_name"]) (N := ["_law_x","_law_small"]) (js := [none,some 2]) ⟨rfl,by decide +kernel,by decide +kernel,by decide +kernel,rfl,by decide +kernel⟩ rfl rfl rfl (JZ (K := K) rfl (J1T (J79 (K := K) rfl) (pv 3) J2u (J2b (pv 4)))) (fun _ _ _ _ _ => Jm (i := 0) (show List.Nodup (["_law_x","_law_small"] : List Str) from by decide +kernel) rfl (Or.inl rfl)) (fun _ _ _ _ _ => J0b) (fun _ _ _ _ _ => (Jo J09 (pv 1) (Jl JM (pv 0) J8) (fun _ _ => rfl)))) J5)))
   (J6 (Jq (i := 7) J0h.nd rfl (Or.inl rfl) (J0X J5))
   (J6 (J0G PassesOwn.never rfl (J03 rfl tx.J0i (J0 (pv 1) J5)) (Jm (i := 8) J0h.nd rfl (Or.inl rfl)) (J6 (Jq (i := 9) J0h.nd rfl (Or.inl rfl) (Jl J2V (Jl J2V (J1T J3V (pv 6) J2u (J2b (pv 5))) (Jo J09 (pv 2) (Jl JM (Jl J00 (Jo (Jy (K := K) rfl) (pv 3) J8 (fun _ _ => rfl)) (Jl J1P J8 (pv 8))) J8) (fun _ _ => rfl))) (J1T J3V (pv 6) (J2b (Jl J00 (pv 5) J8)) J2u)))
   (J6 (J3N (J0E (Js J0P (Jl JM (pv 8) J8) (Jl JM (Jl J0a (Jo (Jy (K := K) rfl) (pv 3) J8 (fun _ _ => rfl)) J8) J8) (Jw _)) (Jh (Jq (i := 9) J0h.nd rfl (Or.inl rfl) (Jl J2V (pv 9) (J1T J3V (pv 6) J2u (J2b J8))))) JK))
   (Jh (J2X (J4N PySem.F.plainAttrs_list PySem.F.slot_list_append PySem.F.type_list_append J1w (pv 7) (J0 (pv 9) J5)))))))
   (Jh (Jv (pv 7)))))))))),?_⟩
  walk_at "st"
  clear JQ
  walk_at "rd"
  intro xa H1 xs s1 nxa hxa hxl hxb
  have c8 := J1M (ns := xs) (k := 8) (by decide) (by omega)
  have c9 := J1M (ns := xs) (k := 9) (by decide) (by omega)
  have c7 := J1M (ns := xs) (k := 7) (by decide) (by omega)
  obtain ⟨sz,hsz,z1,z7⟩ := JfH (Jz xs 8 % 4) (Int.emod_nonneg _ (by decide)) (Int.emod_lt_of_pos _ (by decide))
  walk_at "rd"
  intro l4 f4
  obtain ⟨H2,e2,y4,s2⟩ := newl (xs := [V.int 1,V.int 4,V.int 5,V.int 7]) f4
  rw [← e2]
  have hxa2 := s2 _ _ hxa
  have z0 : (0 : Int) < sz := by omega
  have a0 := Int.emod_nonneg (Jz xs 9) (show sz ≠ 0 by omega)
  have a1 := Int.emod_lt_of_pos (Jz xs 9) z0
  walk_at "rd"
  generalize Jz xs 9 % sz = at' at a0 a1
  intro l5 f5
  rw [Jej,JaC _ _ (by omega)]
  obtain ⟨H3,e3,y5,s3⟩ := newl (xs := (xs.take sz.toNat).map V.int) f5
  rw [← e3]
  refine ⟨l5,rfl,⟨_,SqL.of y5⟩,?_⟩
  have hxa3 := s3 _ _ hxa2
  have S3 := (s1.trans s2).trans s3
  refine JF (xs.take sz.toNat) (fun _ => true) (fun x y _ => y = T [ltr (x % 26)]) (fun σ => ∃ v,σ = [v,some (T abc)]) (JL (SqL.of y5)) (by rw [List.length_map]) (by rw [List.length_take]; omega) ⟨_,rfl⟩ (fun _ _ _ _ _ z => z) (fun i a v σ H' ha hv hσ s' Rf Rt _ hR => ?_) (fun D H4 ys nD s4 hys hD => ?_)
  ·obtain ⟨w1,rfl⟩ := hσ
   rw [List.getElem?_map,ha] at hv
   cases hv
   have hl := Jd9 (a % 26) (Int.emod_nonneg _ (by decide)) (Int.emod_lt_of_pos _ (by decide))
   walk_at "rd"
   exact hR _ _ _ rfl ⟨_,rfl⟩ (Same.refl _) rfl
  rw [List.filter_eq_self.mpr fun _ _ => rfl] at hys
  have ey : ys = (((xs.take sz.toNat).map fun x => ltr (x % 26)).map fun c => [c]).map T := by
   rw [List.map_map,List.map_map]
   exact hys.eqmap fun a y h => h
  have hbl : ((xs.take sz.toNat).map fun x => ltr (x % 26)).length = sz.toNat := by rw [List.length_map,List.length_take]; omega
  generalize ((xs.take sz.toNat).map fun x => ltr (x % 26)) = bs at ey hbl
  rw [ey] at hD
  have hD3 : SqL K H4 D ((bs.map fun c => [c]).map T) := SqL.of hD
  have hjl : (((bs.map fun c => [c]).map List.length).sum + (bs.map fun c => [c]).length * ([] : List Nat).length ≤ 16777216) := by
   rw [J3d,List.length_map,List.length_nil,Nat.mul_zero]
   omega
  walk_at "rd"
  rw [J2G,J2E]
  walk_at "rd"
  intro nl fnl
  obtain ⟨H5,e5,ynl,s5⟩ := newl (xs := []) fnl
  rw [← e5]
  have S5 := (S3.trans s4).trans s5
  have S4 := S3.trans s4
  have hxa5 := (s4.trans s5) _ _ hxa3
  have fnl0 : H nl = none := S4.free fnl
  have nxn : xa ≠ nl := Je (s4 _ _ hxa3) fnl
  walk_at "rd"
  refine J1v (n := m.toNat) (fun i σ H6 => Here (∃ (v8 v9 : Option V) (nms : List (List Nat)),σ = [some (.int c),some (.int m),some (T abc),some (.ref xa),some (.int sz),some (.int at'),some (T bs),some (.ref nl),v8,v9] ∧ Same H H6 ∧ H6 xa = some (.lst (xs.map V.int)) ∧ H6 nl = some (.lst (nms.map T)) ∧ nms.length = i ∧ ∀ (j : Nat) (nm : List Nat),nms[j]? = some nm → ∃ suf,nm = cutN bs none (some at') ++ [ltr ((Jz xs 7 + 5 * (0 + (j : Int))) % 26)] ++ suf)) (Here.mk ⟨none,none,[],rfl,S5,hxa5,ynl,rfl,fun j nm h => by simp at h⟩) ?_ ?_
  ·rintro i σ H6 hi hv
   obtain ⟨v8,v9,nms,rfl,S6,hxa6,ynl6,hnl,hnm⟩ := hv.out
   have hlt := Jd9 ((Jz xs 7 + 5 * (0 + (i : Int))) % 26) (Int.emod_nonneg _ (by decide)) (Int.emod_lt_of_pos _ (by decide))
   have k1 := J3u bs none (some at')
   have k2 := J3u bs (some (at' + 1)) none
   have k3 := J3u bs none (some 1)
   have hml : (nms.map T).length ≤ 1000 := by rw [List.length_map]; omega
   have fin : ∀ (suf : List Nat),(∀ (j : Nat) (nm : List Nat),(nms ++ [cutN bs none (some at') ++ [ltr ((Jz xs 7 + 5 * (0 + (i : Int))) % 26)] ++ suf])[j]? = some nm → ∃ suf,nm = cutN bs none (some at') ++ [ltr ((Jz xs 7 + 5 * (0 + (j : Int))) % 26)] ++ suf) := fun suf j nm hj => by
    rcases Nat.lt_trichotomy j nms.length with z | z | z
    ·rw [List.getElem?_append_left z] at hj
     exact hnm j nm hj
    ·rw [List.getElem?_append_right (by omega),z,Nat.sub_self] at hj
     have e := Option.some.inj hj
     refine ⟨suf,?_⟩
     rw [← e,z,hnl]
    ·rw [List.getElem?_append_right (by omega)] at hj
     have := (List.getElem?_eq_some_iff.mp hj).1
     rw [List.length_singleton] at this
     omega
   walk_at "rd"
   refine tCut.mk (fun σ' H' => Here (∃ suf : List Nat,suf.length ≤ 30 ∧ σ' = [some (.int c),some (.int m),some (T abc),some (.ref xa),some (.int sz),some (.int at'),some (T bs),some (.ref nl),some (.int (0 + (i : Int))),some (T (cutN bs none (some at') ++ [ltr ((Jz xs 7 + 5 * (0 + (i : Int))) % 26)] ++ suf))] ∧ H' = H6)) ?_ ?_
   ·walk_at "rd"
    refine ite2 (fun _ => ?_) (fun _ => ?_)
    ·walk_at "rd"
     refine Here.mk ⟨cutN bs (some (at' + 1)) none ++ cutN bs none (some 1),by rw [List.length_append]; omega,?_,rfl⟩
     rw [← List.append_assoc]
    ·exact Here.mk ⟨cutN bs (some (at' + 1)) none,by omega,rfl,rfl⟩
   rintro σ' H' hv'
   obtain ⟨suf,hsl,rfl,eH⟩ := hv'.out
   rw [eH]
   walk_at "rd"
   refine Here.mk ⟨_,_,nms ++ [cutN bs none (some at') ++ [ltr ((Jz xs 7 + 5 * (0 + (i : Int))) % 26)] ++ suf],rfl,S6.upd fnl0,?_,?_,by rw [List.length_append,List.length_singleton,hnl],fin suf⟩
   ·rw [Jj nxn]; exact hxa6
   ·rw [Jd,List.map_append]; rfl
  ·rintro σ H6 hv
   obtain ⟨v8,v9,nms,rfl,S6,hxa6,ynl6,hnl,hnm⟩ := hv.out
   walk_at "rd"
   refine q nl H6 nms S6 fnl0 ynl6 (by omega) fun i j nm h1 h2 => ?_
   obtain ⟨u1,e1⟩ := hnm i nm h1
   obtain ⟨u2,e2⟩ := hnm j nm h2
   have hi := (List.getElem?_eq_some_iff.mp h1).1
   have hj := (List.getElem?_eq_some_iff.mp h2).1
   have e := e1.symm.trans e2
   rw [List.append_assoc,List.append_assoc] at e
   have e' := List.append_cancel_left e
   have e3 : ltr ((Jz xs 7 + 5 * (0 + (i : Int))) % 26) = ltr ((Jz xs 7 + 5 * (0 + (j : Int))) % 26) := (List.cons.inj e').1
   have := JeH (i := 0 + (i : Int)) (j := 0 + (j : Int)) ⟨by omega,by omega⟩ ⟨by omega,by omega⟩ e3
   omega
end
noncomputable def LevP (nms rows : List (List Nat)) (l : List Nat × Int) : Prop := ∃ (i : Nat) (row : List Nat),nms[i]? = some l.1 ∧ rows[i]? = some row ∧ 0 ≤ l.2 ∧ row[l.2.toNat]? = some 45
noncomputable def JeD (K : PySem.W.Frag) : Sp := fun vs H Q _ => ∃ (cl nl rl : Addr) (cs : List Int) (nms rows : List (List Nat)),vs = [.ref cl,.ref nl,.ref rl] ∧ SqL K H cl (cs.map V.int) ∧ H nl = some (.lst (nms.map T)) ∧ H rl = some (.lst (rows.map T)) ∧ cs.length ≤ 5 ∧ nms.length = cs.length ∧ rows.length = cs.length ∧ (∀ r ∈ rows,r.length ≤ 7) ∧
 ∀ (a : Addr) (H' : Hp) (ls : List (List Nat × Int)) (xs : List V),Same H H' → H a = none → H' a = some (.lst xs) → All2 LvT H' ls xs → (∀ l ∈ ls,LevP nms rows l) → ls.length ≤ 35 → Q (.ref a) H'
section
variable {P : Program} {w : World} {K : PySem.W.Frag} {mg : Str → Option Value} {base : Heap} {Jg J7 J4 Ji J1 J2 Jk Jc Ja Jb Jf J9 : Addr}
theorem Jbr (tx : Tx K mg Jg J7 J4 Ji J1 J2 Jk Jc Ja Jb Jf J9) : FnG P w K mg base "_law_row" 2 ["_law_cell","_law_kinds_here","_law_days"] Jez := by
 have JQ := J2x (P := P) (w := w) (base := base) tx
 refine tx.Jbn.g Ja9 (fun _ _ _ _ _ _ us hl => match us,hl with | [_,_,_],_ => rfl) (fun vs H Q E h => ?_) (fun f cdv A outer s H vs Q E hr h => ?_)
 ·obtain ⟨c,d,ks,rfl,_⟩ := h
  rfl
 ·obtain ⟨c,d,ks,rfl,d1,d7,hk,q⟩ := h
  refine ⟨_,(Jh (Jv (J3O (K := K) rfl (JU (l := []) (by decide +kernel)) (J0 (JP (osc := J3 J2p) (ON := ["_law_cell","_law_kinds_here","_law_days"]) (N := ["_law_x","_law_kinds_here"]) (js := [none,some 1]) ⟨rfl,by decide +kernel,by decide +kernel,by decide +kernel,rfl,by decide +kernel⟩ rfl rfl rfl (JZ (K := K) rfl (JO JQ (hr.mono (by decide)) (J0 (pv 0) (J0 (pv 2) J5)))) (fun _ _ _ _ _ => Jm (i := 0) (show List.Nodup (["_law_x","_law_kinds_here"] : List Str) from by decide +kernel) rfl (Or.inl rfl)) (fun _ _ _ _ _ => J0b) (fun _ _ _ _ _ => (Jo J09 (Jl J2V (pv 1) (JU (l := [45,45]) (by decide +kernel))) (Jl JM (Jl J0a (pv 0) J8) (Jl J00 (Ju J14 rfl tx.J0g PySem.boot_len (J0 (pv 1) J5)) J8)) (fun _ _ => rfl)))) J5)))),?_⟩
  walk_at "st"
  clear JQ
  have hk' : ks.length ≤ 1000 := by omega
  walk_at "rd"
  intro xa H1 xs s1 nxa hxa hxl hxb
  refine ⟨xa,rfl,⟨_,SqL.of hxa⟩,?_⟩
  refine JF xs (fun _ => true) (fun _ y _ => ∃ c,y = T [c] ∧ (c ∈ ks ∨ c = 45)) (fun σ => ∃ v,σ = [v,some (T ks)]) (JL (SqL.of hxa)) (by rw [List.length_map]) (by omega) ⟨_,rfl⟩ (fun _ _ _ _ _ z => z) (fun i a v σ H' ha hv hσ s' Rf Rt _ hR => ?_) (fun D H2 ys nD s2 hys hD => ?_)
  ·obtain ⟨w1,rfl⟩ := hσ
   rw [List.getElem?_map,ha] at hv
   cases hv
   have l2 : (0 : Int) < (ks.length : Int) + 2 := by omega
   obtain ⟨cc,hc,hc2⟩ := J2l (ks ++ [45,45]) (a / 5 % ((ks.length : Int) + 2)) (Int.emod_nonneg _ (by omega)) (by have := Int.emod_lt_of_pos (a / 5) l2; rw [List.length_append]; show _ < ((ks.length + 2 : Nat) : Int); omega)
   have hm : cc ∈ ks ∨ cc = 45 := by
    rcases List.mem_append.mp (List.mem_of_getElem? hc2) with z | z
    ·exact .inl z
    ·exact .inr (by simpa using z)
   walk_at "rd"
   exact hR _ _ _ rfl ⟨_,rfl⟩ (Same.refl _) ⟨cc,rfl,hm⟩
  rw [List.filter_eq_self.mpr fun _ _ => rfl] at hys
  have hyl := hys.len
  obtain ⟨cs,rfl,hcs⟩ := Jdd (ys := ys) fun y hy => by
   obtain ⟨j,hj⟩ := List.getElem?_of_mem hy
   obtain ⟨_,_,c,e,_⟩ := hys.back hj
   exact ⟨c,e⟩
  have hin : ∀ c ∈ cs,c ∈ ks ∨ c = 45 := fun c hc => by
   obtain ⟨j,hj⟩ := List.getElem?_of_mem hc
   obtain ⟨_,_,c',e,h⟩ := hys.back (i := j) (y := T [c]) (by rw [List.getElem?_map,List.getElem?_map,hj]; rfl)
   have : c = c' := by simpa using J1S e
   rw [this]
   exact h
  have hD3 : SqL K H2 D ((cs.map fun c => [c]).map T) := SqL.of hD
  have hjl : (((cs.map fun c => [c]).map List.length).sum + (cs.map fun c => [c]).length * ([] : List Nat).length ≤ 16777216) := by
   rw [J3d,List.length_map,List.length_nil,Nat.mul_zero]
   omega
  walk_at "rd"
  rw [J2G,J2E]
  exact q cs H2 (s1.trans s2) (by omega) hin
theorem J91 (tx : Tx K mg Jg J7 J4 Ji J1 J2 Jk Jc Ja Jb Jf J9) : FnG P w K mg base "_law_leave" 1 ["_law_cells","_law_names_here","_law_rows"] (JeD K) := by
 refine tx.J9t.g J1Z (fun _ _ _ _ _ _ us hl => match us,hl with | [_,_,_],_ => rfl) (fun vs H Q E h => ?_) (fun f cdv A outer s H vs Q E hr h => ?_)
 ·obtain ⟨cl,nl,rl,cs,nms,rows,rfl,_⟩ := h
  rfl
 ·obtain ⟨cl,nl,rl,cs,nms,rows,rfl,hcl,hnl,hrl,hc5,hnn,hrn,hr7,q⟩ := h
  refine ⟨_,(J6 (Jq (i := 3) J1Z.nd rfl (Or.inl rfl) (J0X J5))
   (J6 (J0G PassesOwn.never rfl (JcG (K := K) rfl rfl tx.J42 (J0 (pv 0) (J0 (pv 1) (J0 (pv 2) J5)))) (J2C rfl (JE (Jm (i := 4) J1Z.nd rfl (Or.inl rfl)) (JE (Jm (i := 5) J1Z.nd rfl (Or.inl rfl)) (JE (Jm (i := 6) J1Z.nd rfl (Or.inl rfl)) J1z)))) (Jh (J0G PassesOwn.never rfl (J03 rfl tx.J0i (J0 (Ju J14 rfl tx.J0g PySem.boot_len (J0 (pv 6) J5)) J5)) (Jm (i := 7) J1Z.nd rfl (Or.inl rfl)) (Jh (J0E (PW.pt (J38 (Js J0P (Jo J09 (pv 6) (pv 7) (fun _ _ => rfl)) (JU (l := [45]) (by decide +kernel)) (Jw _)) (J2v (Js J0P (Jl JM (Jl J0a (Jl J00 (Jl J0a (pv 4) J8) (Jl J1P J8 (pv 7))) J8) J8) J8 (Jw _))))) (Jh (J2X (J4N PySem.F.plainAttrs_list PySem.F.slot_list_append PySem.F.type_list_append J1w (pv 3) (J0 (J0t (J0 (pv 5) (J0 (pv 7) J5))) J5)))) JK)))))
   (Jh (Jv (pv 3))))),?_⟩
  walk_at "st"
  walk_at "rd"
  intro ll fll
  obtain ⟨H1,e1,yll,s1⟩ := newl (xs := []) fll
  rw [← e1]
  have hcl1 := s1.seq hcl
  have hnl1 := s1 _ _ hnl
  have hrl1 := s1 _ _ hrl
  walk_at "rd"
  refine JcS (K := K) (xs := cs.map V.int) (ys := nms.map T) (zs := rows.map T) (fun i σ H2 => Here (∃ (v4 v5 v6 v7 : Option V) (ls : List (List Nat × Int)) (xs : List V),σ = [some (.ref cl),some (.ref nl),some (.ref rl),some (.ref ll),v4,v5,v6,v7] ∧ Same H H2 ∧ H2 ll = some (.lst xs) ∧ All2 LvT H2 ls xs ∧ (∀ l ∈ ls,LevP nms rows l) ∧ ls.length ≤ 7 * i)) (by rw [List.length_map,List.length_map,hnn]) (by rw [List.length_map,List.length_map,hrn]) (Here.mk ⟨none,none,none,none,[],[],rfl,s1,yll,trivial,fun l h => (by cases h),Nat.zero_le _⟩) (fun i σ H2 _ hv => by obtain ⟨_,_,_,_,_,_,_,s2,_⟩ := hv.out; exact ⟨s2.seq hcl,SqL.of (s2 _ _ hnl),SqL.of (s2 _ _ hrl)⟩) ?_ ?_
  ·rintro i x y z p σ H2 hx hy hz hp hv
   obtain ⟨v4,v5,v6,v7,ls,xs,rfl,S2,yll2,aL,hLv,hLl⟩ := hv.out
   obtain ⟨cc,hcc,rfl⟩ : ∃ cc,cs[i]? = some cc ∧ x = .int cc := by
    rw [List.getElem?_map] at hx
    cases h : cs[i]? with
    | none => rw [h] at hx; cases hx
    | some cc => rw [h] at hx; exact ⟨cc,rfl,(Option.some.inj hx).symm⟩
   obtain ⟨nm,hnm,rfl⟩ : ∃ nm,nms[i]? = some nm ∧ y = T nm := by
    rw [List.getElem?_map] at hy
    cases h : nms[i]? with
    | none => rw [h] at hy; cases hy
    | some cc => rw [h] at hy; exact ⟨cc,rfl,(Option.some.inj hy).symm⟩
   obtain ⟨row,hrow,rfl⟩ : ∃ row,rows[i]? = some row ∧ z = T row := by
    rw [List.getElem?_map] at hz
    cases h : rows[i]? with
    | none => rw [h] at hz; cases hz
    | some cc => rw [h] at hz; exact ⟨cc,rfl,(Option.some.inj hz).symm⟩
   have hr1 := hr7 row (List.mem_of_getElem? hrow)
   have hr1' : row.length ≤ 1000 := by omega
   have hi : i < cs.length := (List.getElem?_eq_some_iff.mp hcc).1
   have s3 : Same H2 (upd H2 p (.tup [V.int cc,T nm,T row])) := JB hp _
   have S3 := S2.trans s3
   have yll3 := s3 _ _ yll2
   have aL3 := aL.imp fun a y => LvT.keeps a y _ _ s3.keeps
   walk_at "rd"
   refine J1v (n := row.length) (fun j σ H4 => Here (∃ (v7 : Option V) (ls : List (List Nat × Int)) (xs : List V),σ = [some (.ref cl),some (.ref nl),some (.ref rl),some (.ref ll),some (.int cc),some (T nm),some (T row),v7] ∧ Same H H4 ∧ H4 ll = some (.lst xs) ∧ All2 LvT H4 ls xs ∧ (∀ l ∈ ls,LevP nms rows l) ∧ ls.length ≤ 7 * i + j)) (Here.mk ⟨_,ls,xs,rfl,S3,yll3,aL3,hLv,by omega⟩) ?_ ?_
   ·clear hLv hLl aL aL3 yll2 yll3 hv
    rintro j σ H4 hj hv
    obtain ⟨v7,ls,xs,rfl,S4,yll4,aL4,hLv,hLl⟩ := hv.out
    obtain ⟨mk,hm1,hm2⟩ := J2l row (0 + (j : Int)) (by omega) (by omega)
    have hxl := aL4.len
    have hxl' : xs.length ≤ 1000 := by omega
    walk_at "rd"
    refine ite2 (fun e => ?_) (fun e => ?_)
    ·have e' : mk = 45 := by have := J1S (of_decide_eq_true e); simpa using this
     walk_at "rd"
     refine ite2 (fun e2 => ?_) (fun e2 => ?_)
     ·walk_at "rd"
      intro t ft
      obtain ⟨H5,e5,yt5,s5⟩ := newt (xs := [T nm,V.int (0 + (j : Int))]) ft
      rw [← e5]
      have yll5 := s5 _ _ yll4
      have kp : JY H5 (upd H5 ll (.lst (xs ++ [.ref t]))) := J0z yll5
      have kk := s5.keeps.trans kp
      walk_at "rd"
      refine Here.mk ⟨_,ls ++ [(nm,0 + (j : Int))],xs ++ [.ref t],rfl,(S4.trans s5).upd fll,Jd,(aL4.imp fun a y => LvT.keeps a y _ _ kk).snoc ⟨t,rfl,kp _ _ yt5 (fun zs z => by cases z)⟩,fun l hl => ?_,by rw [List.length_append,List.length_singleton]; omega⟩
      rcases List.mem_append.mp hl with hl | hl
      ·exact hLv l hl
      ·rw [List.mem_singleton.mp hl]
       exact ⟨i,row,hnm,hrow,by show (0 : Int) ≤ 0 + (j : Int); omega,by rw [← e']; exact hm2⟩
     ·walk_at "rd"
      exact Here.mk ⟨_,ls,xs,rfl,S4,yll4,aL4,hLv,by omega⟩
    ·walk_at "rd"
     exact Here.mk ⟨_,ls,xs,rfl,S4,yll4,aL4,hLv,by omega⟩
   ·clear hLv hLl aL aL3 yll2 yll3 hv
    rintro σ H4 hv
    obtain ⟨v7,ls,xs,rfl,S4,yll4,aL4,hLv,hLl⟩ := hv.out
    exact Here.mk ⟨_,_,_,_,ls,xs,rfl,S4,yll4,aL4,hLv,by omega⟩
  ·rintro σ H2 hv
   obtain ⟨v4,v5,v6,v7,ls,xs,rfl,S2,yll2,aL,hLv,hLl⟩ := hv.out
   rw [List.length_map] at hLl
   walk_at "rd"
   exact q ll H2 ls xs S2 fll yll2 aL hLv (by omega)
end
theorem J8T {l : List Nat} {i : Nat} (h : i < l.length) : atI l (0 + (i : Int)) = some (l.getD i 0) := by
 rw [Int.zero_add]
 refine J01 ?_
 rw [List.getD_eq_getElem?_getD,List.getElem?_eq_getElem h]
 rfl
theorem Jfg {a b c i B : Int} (h0 : 0 ≤ i) (h : i < 3) (ha : 0 ≤ a ∧ a < B) (hb : 0 ≤ b ∧ b < B) (hc : 0 ≤ c ∧ c < B) : ∃ z : Int,atI [V.int a,V.int b,V.int c] i = some (.int z) ∧ 0 ≤ z ∧ z < B := by
 obtain ⟨v,h1,h2⟩ := J2l [V.int a,V.int b,V.int c] i h0 h
 have hm := List.mem_of_getElem? h2
 simp only [List.mem_cons,List.not_mem_nil,or_false] at hm
 rcases hm with rfl | rfl | rfl
 ·exact ⟨_,h1,ha⟩
 ·exact ⟨_,h1,hb⟩
 ·exact ⟨_,h1,hc⟩
noncomputable def Jdw : Sp := fun vs H Q _ => ∃ (c far : Int) (nm row ks : List Nat),vs = [.int c,T nm,T row,T ks,.int far] ∧ row.length ≤ 7 ∧ ks.length ≤ 3 ∧ (∀ c ∈ row,c ∈ ks ∨ c = 45) ∧ 0 ≤ far ∧ far < 10 ^ (39 : Int).toNat ∧
 ∀ (t : Addr) (H' : Hp) (p : Ps),Same H H' → H' t = some (.tup [T p.nm,T p.sk,.int p.most,.int p.car]) → p.nm = nm → p.past = [] → (∀ c ∈ row,c ≠ 45 → c ∈ p.sk) → (dut row : Int) ≤ p.most → p.most ≤ 9 → 0 ≤ p.car → p.car < 2 ^ 200 → Q (.ref t) H'
section
variable {P : Program} {w : World} {K : PySem.W.Frag} {mg : Str → Option Value} {base : Heap} {Jg J7 J4 Ji J1 J2 Jk Jc Ja Jb Jf J9 : Addr}
theorem J3l (tx : Tx K mg Jg J7 J4 Ji J1 J2 Jk Jc Ja Jb Jf J9) : FnG P w K mg base "_law_duties" 1 ["_law_row_here"] Jcg := by
 refine tx.J8t.g J7H (fun _ _ _ _ _ _ us hl => match us,hl with | [_],_ => rfl) (fun vs H Q E h => ?_) (fun f cdv A outer s H vs Q E hr h => ?_)
 ·obtain ⟨l,rfl,_⟩ := h
  rfl
 ·obtain ⟨l,rfl,hl,q⟩ := h
  refine ⟨_,(Jh (Jv (Ju (JD (K := K) rfl) rfl tx.J0g PySem.boot_len (J0 (JP (osc := J3 J1c) (ON := ["_law_row_here"]) (N := ["_law_mark"]) (js := [none]) ⟨rfl,by decide +kernel,by decide +kernel,by decide +kernel,rfl,by decide +kernel⟩ rfl rfl rfl (J5E (pv 0)) (fun _ _ _ _ _ => Jm (i := 0) (show List.Nodup (["_law_mark"] : List Str) from by decide +kernel) rfl (Or.inl rfl)) (fun _ _ _ _ _ => J0o (Js J2U (pv 0) (JU (l := [45]) (by decide +kernel)) (Jw _))) (fun _ _ _ _ _ => (pv 0))) J5)))),?_⟩
  walk_at "st"
  walk_at "rd"
  refine J8G (fun x => !decide (x = T [45])) (fun x => x) (J3Z l) ?_ (fun x hx H' s' R hR => ?_) (fun x hx hp H' s' R hR => ?_) (fun D H' hD s' hDD => ?_)
  ·rw [List.length_map]; omega
  ·obtain ⟨k,_,rfl⟩ := List.mem_map.mp hx
   walk_at "rd"
   exact hR H' (Same.refl _)
  ·walk_at "rd"
   exact hR H' (Same.refl _)
  refine ⟨D,_,rfl,.inl (SqL.of hDD),?_⟩
  rw [JaY]
  exact q H' s'
theorem J8z (tx : Tx K mg Jg J7 J4 Ji J1 J2 Jk Jc Ja Jb Jf J9) : FnG P w K mg base "_law_person" 2 ["_law_cell","_law_name","_law_row_here","_law_kinds_here","_law_far"] Jdw := by
 have JQ := J2x (P := P) (w := w) (base := base) tx
 have J0O := J3l (P := P) (w := w) (base := base) tx
 refine tx.J8h.g J2t (fun _ _ _ _ _ _ us hl => match us,hl with | [_,_,_,_,_],_ => rfl) (fun vs H Q E h => ?_) (fun f cdv A outer s H vs Q E hr h => ?_)
 ·obtain ⟨c,far,nm,row,ks,rfl,_⟩ := h
  rfl
 ·obtain ⟨c,far,nm,row,ks,rfl,hrow,hk,hin,far0,far1,q⟩ := h
  refine ⟨_,(J6 (Jq (i := 5) J2t.nd rfl (Or.inr rfl) (JO JQ (hr.mono (by decide)) (J0 (Jl J0a (pv 0) J8) (J0 J8 J5))))
   (J6 (Jq (i := 6) J2t.nd rfl (Or.inl rfl) (J3O (K := K) rfl (JU (l := []) (by decide +kernel)) (J0 (JP (osc := J3 J1e) (ON := ["_law_cell","_law_name","_law_row_here","_law_kinds_here","_law_far","_law_xs","_law_skills","_law_carried"]) (N := ["_law_k","_law_kinds_here","_law_row_here","_law_xs"]) (js := [none,some 3,some 2,some 5]) ⟨rfl,by decide +kernel,by decide +kernel,by decide +kernel,rfl,by decide +kernel⟩ rfl rfl rfl (J03 rfl tx.J0i (J0 (Ju J14 rfl tx.J0g PySem.boot_len (J0 (pv 3) J5)) J5)) (fun _ _ _ _ _ => Jm (i := 0) (show List.Nodup (["_law_k","_law_kinds_here","_law_row_here","_law_xs"] : List Str) from by decide +kernel) rfl (Or.inl rfl)) (fun _ _ _ _ _ => J0o (PW.pt (J3z (Js Jah (Jo J09 (pv 1) (pv 0) (fun _ _ => rfl)) (pv 2) rfl) (J3p (Js J3Q (Jl JM (Jo (Jy (K := K) rfl) (pv 3) (pv 0) (fun _ _ => rfl)) J8) J8 (Jw _)))))) (fun _ _ _ _ _ => (Jo J09 (pv 1) (pv 0) (fun _ _ => rfl)))) J5)))
   (J6 (Jq (i := 7) J2t.nd rfl (Or.inl rfl) (Jo (Jy (K := K) rfl) (J0X (J0 (Jl JM (Jo (Jy (K := K) rfl) (pv 5) J8 (fun _ _ => rfl)) J8) (J0 (Jl J00 (pv 4) (Jl JM (Jo (Jy (K := K) rfl) (pv 5) J8 (fun _ _ => rfl)) J8)) (J0 (Jl JM (Jl J0a (pv 0) J8) (Jl JaF J8 J8)) J5)))) (Jl JM (pv 0) J8) (fun _ _ => rfl)))
   (Jh (Jv (J0t (J0 (pv 1) (J0 (pv 6) (J0 (Jl J00 (JO J0O (hr.mono (by decide)) (J0 (pv 2) J5)) (Jl JM (Jo (Jy (K := K) rfl) (pv 5) J8 (fun _ _ => rfl)) J8)) (J0 (pv 7) J5)))))))))),?_⟩
  walk_at "st"
  clear JQ J0O
  have hk' : ks.length ≤ 1000 := by omega
  have hrow' : row.length ≤ 1000 := by omega
  walk_at "rd"
  intro xa H1 xs s1 nxa hxa hxl hxb
  have c4 := J1M (ns := xs) (k := 4) (by decide) (by omega)
  have c5 := J1M (ns := xs) (k := 5) (by decide) (by omega)
  have c6 := J1M (ns := xs) (k := 6) (by decide) (by omega)
  walk_at "rd"
  refine JF (List.range ks.length) (fun k => decide (ks.getD k 0 ∈ row) || decide (0 < Jz xs (0 + (k : Int)) % 3)) (fun (k : Nat) y _ => y = T [ks.getD k 0]) (fun σ => ∃ v,σ = [v,some (T ks),some (T row),some (.ref xa)]) (J1O 0 ks.length) (by rw [List.length_map]) (by rw [List.length_range]; omega) ⟨_,rfl⟩ (fun _ _ _ _ _ z => z) (fun i a v σ H' ha hv hσ s' Rf Rt hF hR => ?_) (fun D H2 ys nD s2 hys hD => ?_)
  ·obtain ⟨w1,rfl⟩ := hσ
   rw [List.getElem?_map,ha] at hv
   cases hv
   obtain ⟨ea,hal⟩ := J2R ha
   have hal' : a < ks.length := by omega
   have g1 := J8T hal'
   have ck := J1M (ns := xs) (k := 0 + (a : Int)) (by omega) (by omega)
   have hxa' := s' _ _ hxa
   walk_at "rd"
   refine ite2 (fun e => ?_) (fun e => ?_)
   ·have e' : (decide (ks.getD a 0 ∈ row) || decide (0 < Jz xs (0 + (a : Int)) % 3)) = true := by rw [e]; rfl
    walk_at "rd"
    exact hR _ _ _ e' ⟨_,rfl⟩ (Same.refl _) rfl
   ·walk_at "rd"
    refine ite2 (fun e2 => ?_) (fun e2 => ?_)
    ·have e' : (decide (ks.getD a 0 ∈ row) || decide (0 < Jz xs (0 + (a : Int)) % 3)) = true := by rw [e2,Bool.or_true]
     walk_at "rd"
     exact hR _ _ _ e' ⟨_,rfl⟩ (Same.refl _) rfl
    ·exact hF _ _ (by rw [Bool.eq_false_iff.mpr e,Bool.eq_false_iff.mpr e2]; rfl) ⟨_,rfl⟩ (Same.refl _)
  have ey : ys = ((((List.range ks.length).filter fun k => decide (ks.getD k 0 ∈ row) || decide (0 < Jz xs (0 + (k : Int)) % 3)).map fun k => ks.getD k 0).map fun c => [c]).map T := by
   rw [List.map_map,List.map_map]
   exact hys.eqmap fun a y h => h
  have hsk : ∀ c ∈ row,c ≠ 45 → c ∈ ((List.range ks.length).filter fun k => decide (ks.getD k 0 ∈ row) || decide (0 < Jz xs (0 + (k : Int)) % 3)).map fun k => ks.getD k 0 := fun c hc h45 => by
   obtain ⟨j,hj⟩ := List.getElem?_of_mem ((hin c hc).resolve_right h45)
   have hjl := (List.getElem?_eq_some_iff.mp hj).1
   have e : ks.getD j 0 = c := by rw [List.getD_eq_getElem?_getD,hj]; rfl
   refine List.mem_map.mpr ⟨j,List.mem_filter.mpr ⟨List.mem_range.mpr hjl,?_⟩,e⟩
   rw [e,decide_eq_true hc,Bool.true_or]
  have hsl : (((List.range ks.length).filter fun k => decide (ks.getD k 0 ∈ row) || decide (0 < Jz xs (0 + (k : Int)) % 3)).map fun k => ks.getD k 0).length ≤ 3 := by
   rw [List.length_map]
   have := List.length_filter_le (fun k => decide (ks.getD k 0 ∈ row) || decide (0 < Jz xs (0 + (k : Int)) % 3)) (List.range ks.length)
   rw [List.length_range] at this
   omega
  generalize ((List.range ks.length).filter fun k => decide (ks.getD k 0 ∈ row) || decide (0 < Jz xs (0 + (k : Int)) % 3)).map (fun k => ks.getD k 0) = sk at ey hsk hsl
  rw [ey] at hD
  have hD3 : SqL K H2 D ((sk.map fun c => [c]).map T) := SqL.of hD
  have hjl : (((sk.map fun c => [c]).map List.length).sum + (sk.map fun c => [c]).length * ([] : List Nat).length ≤ 16777216) := by
   rw [J3d,List.length_map,List.length_nil,Nat.mul_zero]
   omega
  have hxa2 := s2 _ _ hxa
  have hsl' : sk.length ≤ 1000 := by omega
  walk_at "rd"
  rw [J2G,J2E]
  walk_at "rd"
  have hsk' := hsk
  obtain ⟨sk',esk⟩ : ∃ sk' : List Nat,sk' = sk := ⟨_,rfl⟩
  rw [← esk] at hsk' ⊢
  have p39 : CPow 10 39 := ⟨by decide,by decide,by decide⟩
  have p39' : (0 : Int) < 10 ^ (39 : Int).toNat := by decide
  have p39b : (10 : Int) ^ (39 : Int).toNat < 2 ^ 199 := by decide
  have p39c : (2 : Int) ^ 199 + 4 < 2 ^ 200 := by decide
  walk_at "rd"
  intro l3 f3
  obtain ⟨car,hcar,car0,car1⟩ := Jfg (a := Jz xs 6 % 4) (b := far + Jz xs 6 % 4) (c := c / 3 % 10 ^ (39 : Int).toNat) (i := c % 3) (B := 2 ^ 200) (Int.emod_nonneg _ (by decide)) (Int.emod_lt_of_pos _ (by decide)) ⟨by omega,by omega⟩ ⟨by omega,by omega⟩ ⟨Int.emod_nonneg _ (by decide),by have := Int.emod_lt_of_pos (c / 3) p39'; omega⟩
  obtain ⟨H4,e4,y3,s4⟩ := newl (xs := [V.int (Jz xs 6 % 4),V.int (far + Jz xs 6 % 4),V.int (c / 3 % 10 ^ (39 : Int).toNat)]) f3
  have e4' : upd H2 l3 (.lst [V.int (Jz xs 6 % 4),V.int (far + Jz xs 6 % 4),V.int (c / 3 % 10 ^ (39 : Int).toNat)]) = H4 := e4.symm
  rw [e4']
  have hxa4 := s4 _ _ hxa2
  have hdl : dut row ≤ row.length := List.length_filter_le _ _
  walk_at "rd"
  intro H5 s5
  have hxa5 := s5 _ _ hxa4
  walk_at "rd"
  intro t ft
  exact q t _ ⟨nm,sk',(dut row : Int) + Jz xs 5 % 3,car,[]⟩ ((((s1.trans s2).trans s4).trans s5).trans (JB ft _)) Jd rfl rfl hsk' (by show _ ≤ (dut row : Int) + Jz xs 5 % 3; omega) (by show (dut row : Int) + Jz xs 5 % 3 ≤ 9; omega) car0 car1
end
theorem J7O (row : List Nat) (n c : Nat) (h : row[n]? = some c) : dut (row.take (n + 1)) = dut (row.take n) + (if c = 45 then 0 else 1) := by
 unfold dut
 rw [List.take_add_one,h,List.filter_append,List.length_append]
 congr 1
 show (List.filter (fun c => !decide (c = 45)) [c]).length = _
 rw [List.filter_cons]
 by_cases hc : c = 45
 ·rw [if_pos hc,if_neg (by rw [decide_eq_true hc]; decide)]; rfl
 ·rw [if_neg hc,if_pos (by rw [decide_eq_false hc]; rfl)]; rfl
theorem JcF (row : List Nat) (n : Nat) : dut (row.take n) ≤ dut row := by
 unfold dut
 exact (List.Sublist.filter _ (List.take_sublist n row)).length_le
theorem J9O (row : List Nat) : ∀ n ≤ row.length,0 < dut (row.take n) → ∃ d < n,∃ c,row[d]? = some c ∧ c ≠ 45 ∧ dut (row.take (d + 1)) = dut (row.take n)
 | 0,_,h => by
  rw [List.take_zero] at h
  exact absurd h (by decide)
 | n + 1,hn,h => by
  have hc : row[n]? = some (row[n]'(by omega)) := List.getElem?_eq_getElem (by omega)
  generalize row[n]'(by omega) = c at hc
  have e := J7O row n c hc
  by_cases h45 : c = 45
  ·rw [if_pos h45] at e
   have e' : dut (row.take (n + 1)) = dut (row.take n) := by omega
   obtain ⟨d,hd,c',h1,h2,h3⟩ := J9O row n (by omega) (by omega)
   exact ⟨d,by omega,c',h1,h2,by omega⟩
  ·exact ⟨n,by omega,c,hc,h45,rfl⟩
theorem Jfa {row : List Nat} {d : Nat} {c : Nat} (h : row[d]? = some c) : mkA row (0 + (d : Int)) = c := by
 unfold mkA
 rw [show (0 + (d : Int)).toNat = d by omega,List.getD_eq_getElem?_getD,h]
 rfl
theorem J8K (row : List Nat) (d : Nat) : cutN row none (some (0 + (d : Int) + 1)) = row.take (d + 1) := by
 rw [JaC _ _ (by omega)]
 congr 1
 omega
theorem Jcs {p : Ps} {row : List Nat} (m0 : 0 ≤ p.most) : (∀ d < row.length,onB (0 + (d : Int)) (p,row) = true → moB (0 + (d : Int)) (p,row) = false) ↔ (dut row : Int) ≤ p.most := by
 constructor
 ·intro h
  refine Decidable.byContradiction fun hn => ?_
  have e : row.take row.length = row := List.take_of_length_le (Nat.le_refl _)
  obtain ⟨d,hd,c,h1,h2,h3⟩ := J9O row row.length (Nat.le_refl _) (by rw [e]; omega)
  have a := h d hd (by unfold onB; rw [show mkA (p,row).2 (0 + (d : Int)) = c from Jfa h1,decide_eq_false h2]; rfl)
  unfold moB at a
  rw [show (p,row).2 = row from rfl,J8K,h3,e] at a
  exact of_decide_eq_false a (by show p.most < _; omega)
 ·intro h d _ _
  unfold moB
  rw [show (p,row).2 = row from rfl,J8K]
  have := JcF row (d + 1)
  exact decide_eq_false (by show ¬ p.most < _; omega)
theorem Jbe {k : Nat} (k1 : k ≠ 63) (k2 : k ≠ 35) {row : List Nat} {d : Nat} (hd : d < row.length) : nevB [k,k] (row.take (d + 1)) = true ↔ ∃ e,e + 1 = d ∧ row[e]? = some k ∧ row[d]? = some k := by
 have fit : ∀ m : Nat,J2Q (T [k]) (T [m]) = decide (k = m) := fun m => by
  unfold J2Q
  have n1 : ¬ T [k] = T [63] := fun z => k1 (by simpa using J1S z)
  have n2 : ¬ T [k] = T [35] := fun z => k2 (by simpa using J1S z)
  rw [decide_eq_false n1,decide_eq_false n2,if_neg Bool.false_ne_true,if_neg Bool.false_ne_true]
  exact decide_eq_decide.mpr ⟨fun z => by simpa using J1S z,fun z => by rw [z]⟩
 have hl : (row.take (d + 1)).length = d + 1 := by rw [List.length_take]; omega
 unfold nevB
 rw [hl]
 cases d with
 | zero =>
  rw [if_pos (by show 1 < 2; omega)]
  constructor
  ·intro h; cases h
  ·rintro ⟨e,he,_⟩; omega
 | succ e =>
  rw [if_neg (by show ¬ e + 2 < 2; omega)]
  have ha : row[e]? = some (row[e]'(by omega)) := List.getElem?_eq_getElem (by omega)
  have hb : row[e + 1]? = some (row[e + 1]'hd) := List.getElem?_eq_getElem hd
  generalize row[e]'(by omega) = a at ha
  generalize row[e + 1]'hd = b at hb
  have hdr : (row.take (e + 1 + 1)).drop (e + 1 + 1 - [k,k].length) = [a,b] := by
   show (row.take (e + 2)).drop e = [a,b]
   refine List.ext_getElem? fun i => ?_
   rw [List.getElem?_drop,List.getElem?_take]
   match i with
   | 0 => rw [if_pos (by omega),Nat.add_zero,ha]; rfl
   | 1 => rw [if_pos (by omega),hb]; rfl
   | i + 2 => rw [if_neg (by omega)]; rfl
  rw [hdr]
  show (([J2Q (T [k]) (T [a]),J2Q (T [k]) (T [b])].all id) = true) ↔ _
  rw [fit,fit]
  simp only [List.all_cons,List.all_nil,Bool.and_true,id,Bool.and_eq_true,decide_eq_true_eq]
  constructor
  ·rintro ⟨rfl,rfl⟩
   exact ⟨e,rfl,ha,hb⟩
  ·rintro ⟨e',he,h1,h2⟩
   have : e' = e := by omega
   subst this
   rw [ha] at h1
   rw [hb] at h2
   exact ⟨(Option.some.inj h1).symm,(Option.some.inj h2).symm⟩
theorem Jdm {k : Nat} (k1 : k ≠ 63) (k2 : k ≠ 35) {row : List Nat} : (∀ d < row.length,nevB [k,k] (row.take (d + 1)) = false) ↔ dblB k row = false := by
 constructor
 ·intro h
  refine Bool.eq_false_iff.mpr fun z => ?_
  unfold dblB at z
  obtain ⟨i,hi,h2⟩ := List.any_eq_true.mp z
  rw [Bool.and_eq_true] at h2
  have a := of_decide_eq_true h2.1
  have b := of_decide_eq_true h2.2
  have hl := (List.getElem?_eq_some_iff.mp b).1
  have := h (i + 1) hl
  rw [(Jbe k1 k2 hl).mpr ⟨i,rfl,a,b⟩] at this
  cases this
 ·intro h d hd
  refine Bool.eq_false_iff.mpr fun z => ?_
  obtain ⟨e,he,h1,h2⟩ := (Jbe k1 k2 hd).mp z
  have : dblB k row = true := by
   unfold dblB
   refine List.any_eq_true.mpr ⟨e,List.mem_range.mpr (List.getElem?_eq_some_iff.mp h1).1,?_⟩
   rw [decide_eq_true h1,decide_eq_true (show row[e + 1]? = some k by rw [he]; exact h2)]
   rfl
  rw [this] at h
  cases h
noncomputable def filB (dn : Nat) (ks : List Nat) (nds : List Nd) (rows : List (List Nat)) : Bool := (List.range dn).all fun (d : Nat) => ks.all fun k => !neB nds rows (0 + (d : Int)) k
noncomputable def badD (ls : List (List Nat × Int)) (d : Int) (a : Ps × List Nat) : Bool := onB d a && (skB d a || lvB ls d a)
noncomputable def perG (dn : Nat) (ls : List (List Nat × Int)) (ruled : Bool) (k0 : Nat) (a : Ps × List Nat) : Bool := ((List.range dn).all fun (d : Nat) => !badD ls (0 + (d : Int)) a) && !(decide (a.1.most < (dut a.2 : Int)) || (ruled && dblB k0 a.2))
noncomputable def prG (dn : Nat) (rows : List (List Nat)) : Bool := (List.range dn).all fun (d : Nat) => !(!decide (mkA (rows.getD 0 []) (0 + (d : Int)) = 45) && decide (mkA (rows.getD 0 []) (0 + (d : Int)) = mkA (rows.getD 1 []) (0 + (d : Int))))
noncomputable def goB (dn : Nat) (ks : List Nat) (nds : List Nd) (ls : List (List Nat × Int)) (ruled : Bool) (k0 : Nat) (ps : List Ps) (rows : List (List Nat)) : Bool := ((ps.zip rows).all (perG dn ls ruled k0)) && ((!(ruled && decide (1 < rows.length)) || prG dn rows) && filB dn ks nds rows)
theorem all_nil {ks : List Nat} {nds : List Nd} {ls : List (List Nat × Int)} {rls : List Ru} {prs : List Pr} {ps : List Ps} {rows : List (List Nat)} : ∀ n,allF ks nds ls rls prs ps rows n = [] ↔ ∀ d < n,dayF ks nds ls rls prs ps rows (0 + (d : Int)) = []
 | 0 => ⟨fun _ d hd => absurd hd (Nat.not_lt_zero _),fun _ => rfl⟩
 | n + 1 => by
  rw [allF,List.append_eq_nil_iff,all_nil n]
  constructor
  ·rintro ⟨h1,h2⟩ d hd
   by_cases e : d = n
   ·rw [e]; exact h2
   ·exact h1 d (by omega)
  ·exact fun h => ⟨fun d hd => h d (by omega),h n (by omega)⟩
theorem J5F {l : List (Ps × List Nat)} {f g : Ps × List Nat → Bool} {v : Ps × List Nat → List V} : ((l.filter f).filter g).map v = [] ↔ ∀ a ∈ l,f a = true → g a = false := by
 rw [List.map_eq_nil_iff,List.filter_filter,List.filter_eq_nil_iff]
 constructor
 ·intro h a ha hf
  refine Bool.eq_false_iff.mpr fun hg => h a ha ?_
  rw [hg,hf]
  rfl
 ·intro h a ha z
  rw [Bool.and_eq_true] at z
  rw [h a ha z.2] at z
  cases z.1
structure RPs (ruled : Bool) (k0 : Nat) (ps : List Ps) (rls : List Ru) (prs : List Pr) : Prop where
 r : rls = if ruled = true then [⟨wAll,nevB [k0,k0]⟩] else []
 p : if ruled = true ∧ 1 < ps.length then ∃ a b,prs = [⟨J36,a,b,0,1⟩] else prs = []
theorem JcV {dn : Nat} {ks : List Nat} {nds : List Nd} {ls : List (List Nat × Int)} {ruled : Bool} {k0 : Nat} {ps : List Ps} {rows : List (List Nat)} {rls : List Ru} {prs : List Pr} (R : RPs ruled k0 ps rls prs) (k1 : k0 ≠ 63) (k2 : k0 ≠ 35) (hl : rows.length = ps.length) (hd : ∀ r ∈ rows,r.length = dn) (m0 : ∀ p ∈ ps,0 ≤ p.most) (hp : ∀ p ∈ ps,p.past = []) :
  goB dn ks nds ls ruled k0 ps rows = decide (allF ks nds ls rls prs ps rows dn = []) := by
 have hz : ∀ a ∈ ps.zip rows,a.1 ∈ ps ∧ a.2 ∈ rows := fun a ha => List.of_mem_zip (a := a.1) (b := a.2) ha
 have key : goB dn ks nds ls ruled k0 ps rows = true ↔ allF ks nds ls rls prs ps rows dn = [] := by
  rw [all_nil]
  unfold goB
  rw [Bool.and_eq_true,Bool.and_eq_true,List.all_eq_true]
  have hfil : filB dn ks nds rows = true ↔ ∀ d < dn,neF ks nds rows (0 + (d : Int)) = [] := by
   unfold filB neF
   rw [List.all_eq_true]
   constructor
   ·intro h d hd
    rw [List.map_eq_nil_iff,List.filter_eq_nil_iff]
    intro k hk z
    have := List.all_eq_true.mp (h d (List.mem_range.mpr hd)) k hk
    rw [z] at this
    cases this
   ·intro h d hd
    refine List.all_eq_true.mpr fun k hk => ?_
    have := h d (List.mem_range.mp hd)
    rw [List.map_eq_nil_iff,List.filter_eq_nil_iff] at this
    rw [Bool.eq_false_iff.mpr (this k hk)]
    rfl
  have hper : (∀ a ∈ ps.zip rows,perG dn ls ruled k0 a = true) ↔ ∀ d < dn,skF ps rows (0 + (d : Int)) = [] ∧ lvF ls ps rows (0 + (d : Int)) = [] ∧ moF ps rows (0 + (d : Int)) = [] ∧ ruF rls ps rows (0 + (d : Int)) = [] := by
   have hmo : ∀ a ∈ ps.zip rows,(∀ d < dn,onB (0 + (d : Int)) a = true → moB (0 + (d : Int)) a = false) ↔ (dut a.2 : Int) ≤ a.1.most := fun a ha => by
    obtain ⟨z1,z2⟩ := hz a ha
    have := Jcs (p := a.1) (row := a.2) (m0 _ z1)
    rw [hd _ z2] at this
    exact this
   have hru : ∀ d : Nat,ruF rls ps rows (0 + (d : Int)) = [] ↔ ∀ a ∈ ps.zip rows,ruP rls (0 + (d : Int)) a = [] := fun d => by
    unfold ruF
    rw [List.flatten_eq_nil_iff]
    constructor
    ·exact fun h a ha => h _ (List.mem_map.mpr ⟨a,ha,rfl⟩)
    ·intro h l hl'
     obtain ⟨a,ha,rfl⟩ := List.mem_map.mp hl'
     exact h a ha
   have hrp : ∀ a ∈ ps.zip rows,(∀ d < dn,ruP rls (0 + (d : Int)) a = []) ↔ (ruled && dblB k0 a.2) = false := fun a ha => by
    obtain ⟨z1,z2⟩ := hz a ha
    have hdn := hd _ z2
    have hpast := hp _ z1
    cases hr : ruled with
    | false =>
     have e : rls = [] := by rw [R.r,hr]; rfl
     rw [Bool.false_and]
     refine ⟨fun _ => rfl,fun _ d _ => ?_⟩
     rw [e]
     rfl
    | true =>
     have e : rls = [⟨wAll,nevB [k0,k0]⟩] := by rw [R.r,hr]; rfl
     rw [Bool.true_and,← Jdm k1 k2,hdn]
     have eq : ∀ d : Nat,ruP rls (0 + (d : Int)) a = [] ↔ nevB [k0,k0] (a.2.take (d + 1)) = false := fun d => by
      unfold ruP ruI
      rw [e,hpast,List.nil_append,J8K]
      have em : J8c [⟨wAll,nevB [k0,k0]⟩] a.1.nm 0 = true := decide_eq_true List.mem_cons_self
      have ei : (List.range [(⟨wAll,nevB [k0,k0]⟩ : Ru)].length).filter (J8c [⟨wAll,nevB [k0,k0]⟩] a.1.nm) = [0] := by
       show (List.filter _ [0]) = [0]
       rw [List.filter_cons,if_pos em]
       rfl
      rw [ei,List.map_eq_nil_iff,List.filter_cons]
      show (if nevB [k0,k0] (a.2.take (d + 1)) = true then _ else _) = _ ↔ _
      cases nevB [k0,k0] (a.2.take (d + 1)) with
      | true => simp
      | false => simp
     exact ⟨fun h d hd' => (eq d).mp (h d hd'),fun h d hd' => (eq d).mpr (h d hd')⟩
   constructor
   ·intro h d hd'
    have h1 : ∀ a ∈ ps.zip rows,badD ls (0 + (d : Int)) a = false := fun a ha => by
     have := h a ha
     unfold perG at this
     rw [Bool.and_eq_true] at this
     have := List.all_eq_true.mp this.1 d (List.mem_range.mpr hd')
     simpa using this
    refine ⟨J5F.mpr fun a ha ho => ?_,J5F.mpr fun a ha ho => ?_,J5F.mpr fun a ha => ?_,(hru d).mpr fun a ha => ?_⟩
    ·have := h1 a ha
     unfold badD at this
     rw [ho,Bool.true_and,Bool.or_eq_false_iff] at this
     exact this.1
    ·have := h1 a ha
     unfold badD at this
     rw [ho,Bool.true_and,Bool.or_eq_false_iff] at this
     exact this.2
    ·have := h a ha
     unfold perG at this
     rw [Bool.and_eq_true,Bool.not_eq_true',Bool.or_eq_false_iff] at this
     exact (hmo a ha).mpr (by have := of_decide_eq_false this.2.1; omega) d hd'
    ·have := h a ha
     unfold perG at this
     rw [Bool.and_eq_true,Bool.not_eq_true',Bool.or_eq_false_iff] at this
     exact (hrp a ha).mpr this.2.2 d hd'
   ·intro h a ha
    unfold perG
    rw [Bool.and_eq_true,Bool.not_eq_true',Bool.or_eq_false_iff]
    refine ⟨List.all_eq_true.mpr fun d hd' => ?_,decide_eq_false ?_,(hrp a ha).mp fun d hd' => (hru d).mp (h d hd').2.2.2 a ha⟩
    ·obtain ⟨q1,q2,_⟩ := h d (List.mem_range.mp hd')
     unfold badD
     cases ho : onB (0 + (d : Int)) a with
     | false => rfl
     | true =>
      rw [J5F.mp q1 a ha ho,J5F.mp q2 a ha ho]
      rfl
    ·have := (hmo a ha).mp fun d hd' => J5F.mp (h d hd').2.2.1 a ha
     omega
  have hpa : ((!(ruled && decide (1 < rows.length)) || prG dn rows) = true) ↔ ∀ d < dn,paF prs rows (0 + (d : Int)) = [] := by
   have hp' := R.p
   by_cases hc : ruled = true ∧ 1 < ps.length
   ·rw [if_pos hc] at hp'
    obtain ⟨a,b,e⟩ := hp'
    have e1 : (ruled && decide (1 < rows.length)) = true := by rw [hc.1,decide_eq_true (by omega)]; rfl
    rw [e1,Bool.not_true,Bool.false_or]
    unfold prG
    rw [List.all_eq_true]
    have eq : ∀ d : Nat,paF prs rows (0 + (d : Int)) = [] ↔ (!(!decide (mkA (rows.getD 0 []) (0 + (d : Int)) = 45) && decide (mkA (rows.getD 0 []) (0 + (d : Int)) = mkA (rows.getD 1 []) (0 + (d : Int))))) = true := fun d => by
     rw [e]
     unfold paF paL
     rw [List.map_eq_nil_iff]
     show List.filter _ [0] = [] ↔ _
     have eb : paB rows (0 + (d : Int)) (prAt [⟨J36,a,b,0,1⟩] 0) = (!decide (mkA (rows.getD 0 []) (0 + (d : Int)) = 45) && decide (mkA (rows.getD 0 []) (0 + (d : Int)) = mkA (rows.getD 1 []) (0 + (d : Int)))) := by
      show brkB J36 _ _ = _
      unfold brkB
      rw [if_pos rfl]
      rfl
     rw [List.filter_cons,eb]
     cases (!decide (mkA (rows.getD 0 []) (0 + (d : Int)) = 45) && decide (mkA (rows.getD 0 []) (0 + (d : Int)) = mkA (rows.getD 1 []) (0 + (d : Int)))) with
     | true => simp
     | false => simp
    exact ⟨fun h d hd' => (eq d).mpr (h d (List.mem_range.mpr hd')),fun h d hd' => (eq d).mp (h d (List.mem_range.mp hd'))⟩
   ·rw [if_neg hc] at hp'
    have e1 : (ruled && decide (1 < rows.length)) = false := by
     refine Bool.eq_false_iff.mpr fun z => hc ?_
     rw [Bool.and_eq_true] at z
     exact ⟨z.1,by have := of_decide_eq_true z.2; omega⟩
    rw [e1]
    refine ⟨fun _ d _ => ?_,fun _ => rfl⟩
    rw [hp']
    rfl
  rw [hper,hpa,hfil]
  constructor
  ·rintro ⟨h1,h2,h3⟩ d hd'
   obtain ⟨q1,q2,q3,q4⟩ := h1 d hd'
   unfold dayF
   rw [q1,q2,h3 d hd',q3,q4,h2 d hd']
   rfl
  ·intro h
   have all : ∀ d < dn,skF ps rows (0 + (d : Int)) = [] ∧ lvF ls ps rows (0 + (d : Int)) = [] ∧ neF ks nds rows (0 + (d : Int)) = [] ∧ moF ps rows (0 + (d : Int)) = [] ∧ ruF rls ps rows (0 + (d : Int)) = [] ∧ paF prs rows (0 + (d : Int)) = [] := fun d hd' => by
    have := h d hd'
    unfold dayF at this
    simp only [List.append_eq_nil_iff] at this
    obtain ⟨⟨⟨⟨⟨q1,q2⟩,q3⟩,q4⟩,q5⟩,q6⟩ := this
    exact ⟨q1,q2,q3,q4,q5,q6⟩
   exact ⟨fun d hd' => ⟨(all d hd').1,(all d hd').2.1,(all d hd').2.2.2.1,(all d hd').2.2.2.2.1⟩,fun d hd' => (all d hd').2.2.2.2.2,fun d hd' => (all d hd').2.2.1⟩
 by_cases h : allF ks nds ls rls prs ps rows dn = []
 ·rw [decide_eq_true h]
  exact key.mpr h
 ·rw [decide_eq_false h]
  exact Bool.eq_false_iff.mpr fun z => h (key.mp z)
structure NdO3 (rows : List (List Nat)) (ks : List Nat) (d : Int) (nds : List Nd) : Prop where
 u : nds.Pairwise J2D
 k : ∀ n ∈ nds,n.kind ∈ ks ∧ 0 ≤ n.day ∧ n.day < d
 f : ∀ n ∈ nds,(n.least ≤ (cntR rows n : Int) ∧ (cntR rows n : Int) ≤ n.most) ∧ 0 ≤ n.least ∧ n.most ≤ 9
 l : nds.length ≤ 21
 a : ∀ (j c : Nat),(j : Int) < d → c ∈ ks → (∃ r ∈ rows,r[j]? = some c) → ∃ n ∈ nds,n.day = (j : Int) ∧ n.kind = c
noncomputable def JeE : Sp := fun vs H Q _ => ∃ (c d : Int) (ks : List Nat) (rl : Addr) (rows : List (List Nat)),vs = [.int c,T ks,.int d,.ref rl] ∧ 1 ≤ d ∧ d ≤ 7 ∧ ks.length ≤ 3 ∧ ks.Nodup ∧ H rl = some (.lst (rows.map T)) ∧ rows.length ≤ 5 ∧ (∀ r ∈ rows,(r.length : Int) = d) ∧
 ∀ (a : Addr) (H' : Hp) (nds : List Nd) (xs : List V),Same H H' → H a = none → H' a = some (.lst xs) → All2 NdAt H' nds xs → NdO3 rows ks d nds → Q (.ref a) H'
section
variable {P : Program} {w : World} {K : PySem.W.Frag} {mg : Str → Option Value} {base : Heap} {Jg J7 J4 Ji J1 J2 Jk Jc Ja Jb Jf J9 : Addr}
theorem J92 (tx : Tx K mg Jg J7 J4 Ji J1 J2 Jk Jc Ja Jb Jf J9) : FnG P w K mg base "_law_needs" 2 ["_law_cell","_law_kinds_here","_law_days","_law_rows"] JeE := by
 have JQ := J2x (P := P) (w := w) (base := base) tx
 refine tx.J9r.g J1b (fun _ _ _ _ _ _ us hl => match us,hl with | [_,_,_,_],_ => rfl) (fun vs H Q E h => ?_) (fun f cdv A outer s H vs Q E hr h => ?_)
 ·obtain ⟨c,d,ks,rl,rows,rfl,_⟩ := h
  rfl
 ·obtain ⟨c,d,ks,rl,rows,rfl,d1,d7,hk,hkn,hrl,hrn,hrd,q⟩ := h
  refine ⟨_,(J6 (Jq (i := 4) J1b.nd rfl (Or.inl rfl) (J0X J5))
   (J6 (J0G PassesOwn.never rfl (J03 rfl tx.J0i (J0 (pv 2) J5)) (Jm (i := 5) J1b.nd rfl (Or.inr rfl)) (J6 (Jq (i := 6) J1b.nd rfl (Or.inl rfl) (JO JQ (hr.mono (by decide)) (J0 (Jl J00 (pv 0) (Jl J1P J8 (pv 5))) (J0 (Jl J1P J8 (Ju J14 rfl tx.J0g PySem.boot_len (J0 (pv 1) J5))) J5))))
   (Jh (J0G PassesOwn.never rfl (J03 rfl tx.J0i (J0 (Ju J14 rfl tx.J0g PySem.boot_len (J0 (pv 1) J5)) J5)) (Jm (i := 7) J1b.nd rfl (Or.inr rfl)) (J6 (Jq (i := 8) J1b.nd rfl (Or.inl rfl) (Ju (JD (K := K) rfl) rfl tx.J0g PySem.boot_len (J0 (JP (osc := J3 J1C) (ON := ["_law_cell","_law_kinds_here","_law_days","_law_rows","_law_needs_here","_law_day","_law_xs","_law_k","_law_many","_law_least"]) (N := ["_law_row_here","_law_day","_law_kinds_here","_law_k"]) (js := [none,some 5,some 1,some 7]) ⟨rfl,by decide +kernel,by decide +kernel,by decide +kernel,rfl,by decide +kernel⟩ rfl rfl rfl (JZ (K := K) rfl (pv 3)) (fun _ _ _ _ _ => Jm (i := 0) (show List.Nodup (["_law_row_here","_law_day","_law_kinds_here","_law_k"] : List Str) from by decide +kernel) rfl (Or.inl rfl)) (fun _ _ _ _ _ => J0o (Js J0P (Jo J09 (pv 0) (pv 1) (fun _ _ => rfl)) (Jo J09 (pv 2) (pv 3) (fun _ _ => rfl)) (Jw _))) (fun _ _ _ _ _ => (pv 0))) J5)))
   (J6 (Jq (i := 9) J1b.nd rfl (Or.inl rfl) (Jl J3M (pv 8) (Jl J1P (Jl J0a (Jl JM (Jo (Jy (K := K) rfl) (pv 6) (Jl J1P J8 (pv 7)) (fun _ _ => rfl)) J8) J8) (Jl JM (Jl J0a (Jo (Jy (K := K) rfl) (pv 6) (Jl J1P J8 (pv 7)) (fun _ _ => rfl)) J8) (Jl J00 (pv 8) J8)))))
   (Jh (J0E (PW.pt (J3z (Js J3Q (pv 8) J8 (Jw _)) (J3p (Js J3Q (Jl JM (Jl J0a (Jo (Jy (K := K) rfl) (pv 6) (Jl J00 (Jl J1P J8 (pv 7)) J8) (fun _ _ => rfl)) J8) J8) J8 (Jw _))))) (Jh (J2X (J4N PySem.F.plainAttrs_list PySem.F.slot_list_append PySem.F.type_list_append J1w (pv 4) (J0 (J0t (J0 (pv 5) (J0 (Jo J09 (pv 1) (pv 7) (fun _ _ => rfl)) (J0 (pv 9) (J0 (Jl J00 (pv 8) (Jl JM (Jo (Jy (K := K) rfl) (pv 6) (Jl J00 (Jl J1P J8 (pv 7)) J8) (fun _ _ => rfl)) J8)) J5))))) J5)))) JK))))))))
   (Jh (Jv (pv 4))))),?_⟩
  walk_at "st"
  clear JQ
  have hk' : ks.length ≤ 1000 := by omega
  walk_at "rd"
  intro nl fnl
  obtain ⟨H1,e1,ynl,s1⟩ := newl (xs := []) fnl
  rw [← e1]
  have nrl : rl ≠ nl := Je hrl fnl
  walk_at "rd"
  refine J1v (n := d.toNat) (fun i σ H2 => Here (∃ (v5 v6 v7 v8 v9 : Option V) (nds : List Nd) (xs : List V),σ = [some (.int c),some (T ks),some (.int d),some (.ref rl),some (.ref nl),v5,v6,v7,v8,v9] ∧ Same H H2 ∧ H2 nl = some (.lst xs) ∧ All2 NdAt H2 nds xs ∧ nds.Pairwise J2D ∧ (∀ n ∈ nds,n.kind ∈ ks ∧ 0 ≤ n.day ∧ n.day < (i : Int)) ∧ (∀ n ∈ nds,(n.least ≤ (cntR rows n : Int) ∧ (cntR rows n : Int) ≤ n.most) ∧ 0 ≤ n.least ∧ n.most ≤ 9) ∧ nds.length ≤ 3 * i ∧ (∀ (j c : Nat),j < i → c ∈ ks → (∃ r ∈ rows,r[j]? = some c) → ∃ n ∈ nds,n.day = (j : Int) ∧ n.kind = c))) (Here.mk ⟨none,none,none,none,none,[],[],rfl,s1,ynl,trivial,List.Pairwise.nil,fun n h => (by cases h),fun n h => (by cases h),Nat.zero_le _,fun j c hj => absurd hj (Nat.not_lt_zero _)⟩) ?_ ?_
  ·rintro i σ H2 hi hv
   obtain ⟨v5,v6,v7,v8,v9,nds,xs,rfl,S2,ynl2,aN,hU,hK,hF,hL,hC⟩ := hv.out
   walk_at "rd"
   intro xa H3 zs s3 nxa hxa hzl hzb
   have hxn : xa ≠ nl := fun z => by rw [z,ynl2] at nxa; cases nxa
   have aN3 := aN.imp fun a y => NdAt.keeps a y _ _ s3.keeps
   have ynl3 := s3 _ _ ynl2
   walk_at "rd"
   refine J1v (n := ks.length) (fun j σ H4 => Here (∃ (v7 v8 v9 : Option V) (nds : List Nd) (xs : List V),σ = [some (.int c),some (T ks),some (.int d),some (.ref rl),some (.ref nl),some (.int (0 + (i : Int))),some (.ref xa),v7,v8,v9] ∧ Same H H4 ∧ H4 xa = some (.lst (zs.map V.int)) ∧ H4 nl = some (.lst xs) ∧ All2 NdAt H4 nds xs ∧ nds.Pairwise J2D ∧ (∀ n ∈ nds,n.kind ∈ ks ∧ 0 ≤ n.day ∧ (n.day < (i : Int) ∨ (n.day = (i : Int) ∧ ∃ k' < j,ks[k']? = some n.kind))) ∧ (∀ n ∈ nds,(n.least ≤ (cntR rows n : Int) ∧ (cntR rows n : Int) ≤ n.most) ∧ 0 ≤ n.least ∧ n.most ≤ 9) ∧ nds.length ≤ 3 * i + j ∧ (∀ (j' c : Nat),j' < i → c ∈ ks → (∃ r ∈ rows,r[j']? = some c) → ∃ n ∈ nds,n.day = (j' : Int) ∧ n.kind = c) ∧ (∀ (k' c : Nat),k' < j → ks[k']? = some c → (∃ r ∈ rows,r[i]? = some c) → ∃ n ∈ nds,n.day = (i : Int) ∧ n.kind = c))) (Here.mk ⟨_,_,_,nds,xs,rfl,S2.trans s3,hxa,ynl3,aN3,hU,fun n h => ⟨(hK n h).1,(hK n h).2.1,.inl (hK n h).2.2⟩,hF,by omega,hC,fun k' c hk => absurd hk (Nat.not_lt_zero _)⟩) ?_ ?_
   ·clear hU hK hF hL hC aN aN3 ynl2 ynl3 hv
    rintro j σ H4 hj hv
    obtain ⟨v7,v8,v9,nds,xs,rfl,S4,hxa4,ynl4,aN4,hU,hK,hF,hL,hC,hC2⟩ := hv.out
    have hrl4 := S4 _ _ hrl
    obtain ⟨kk,hkk,hkk2⟩ := J2l ks (0 + (j : Int)) (by omega) (by omega)
    have hkj : ks[j]? = some kk := by rw [show (0 + (j : Int)).toNat = j by omega] at hkk2; exact hkk2
    have x1 := J1M (ns := zs) (k := 2 * (0 + (j : Int))) (by omega) (by omega)
    have x2 := J1M (ns := zs) (k := 2 * (0 + (j : Int)) + 1) (by omega) (by omega)
    walk_at "rd"
    refine JF rows (hitB ⟨(i : Int),kk,0,0⟩) (fun r y _ => y = T r) (fun σ => ∃ v,σ = [v,some (.int (0 + (i : Int))),some (T ks),some (.int (0 + (j : Int)))]) (JL (SqL.of hrl4)) (by rw [List.length_map]) (by omega) ⟨_,rfl⟩ (fun _ _ _ _ _ z => z) (fun i' a v σ H' ha hv hσ s' Rf Rt hF' hR => ?_) (fun D H5 ys nD s5 hys hD => ?_)
    ·obtain ⟨w1,rfl⟩ := hσ
     rw [List.getElem?_map,ha] at hv
     cases hv
     have hal := hrd a (List.mem_of_getElem? ha)
     obtain ⟨cc,hc1,hc2⟩ := J2l a (0 + (i : Int)) (by omega) (by omega)
     have hal' : a.length ≤ 1000 := by omega
     have hh : hitB ⟨(i : Int),kk,0,0⟩ a = decide (T [cc] = T [kk]) := by
      unfold hitB
      show decide (a[((i : Int)).toNat]? = some kk) = _
      rw [show (0 + (i : Int)).toNat = ((i : Int)).toNat by omega] at hc2
      rw [hc2]
      refine decide_eq_decide.mpr ⟨fun z => by rw [Option.some.inj z],fun z => by have := J1S z; simpa using this⟩
     walk_at "rd"
     refine ite2 (fun e => ?_) (fun e => ?_)
     ·walk_at "rd"
      exact hR _ _ _ (hh.trans e) ⟨_,rfl⟩ (Same.refl _) rfl
     ·exact hF' _ _ (Bool.eq_false_iff.mpr fun z => e (hh.symm.trans z)) ⟨_,rfl⟩ (Same.refl _)
    have hyl := hys.len
    have hxa5 := s5 _ _ hxa4
    have ynl5 := s5 _ _ ynl4
    have aN5 := aN4.imp fun a y => NdAt.keeps a y _ _ s5.keeps
    have S5 := S4.trans s5
    have hcn : ∀ (l m : Int),cntR rows ⟨(i : Int),kk,l,m⟩ = ys.length := fun l m => hyl.symm
    have hxl := aN4.len
    have hm0 : (0 : Int) ≤ (ys.length : Int) := by omega
    have m1 : (0 : Int) < (ys.length : Int) + 1 := by omega
    have t0 := Int.emod_nonneg (Jz zs (2 * (0 + (j : Int))) / 3) (show (ys.length : Int) + 1 ≠ 0 by omega)
    have t1 := Int.emod_lt_of_pos (Jz zs (2 * (0 + (j : Int))) / 3) m1
    have yl5 : ys.length ≤ 5 := by
     have := List.length_filter_le (hitB ⟨(i : Int),kk,0,0⟩) rows
     omega
    have fin : ∀ (H6 : Hp) (t : Addr) (l m : Int),Same H5 H6 → H6 t = some (.tup [.int (0 + (i : Int)),T [kk],.int l,.int m]) → l ≤ (ys.length : Int) → (ys.length : Int) ≤ m → 0 ≤ l → m ≤ 9 → (H6 nl = some (.lst xs) ∧ (∃ nds' : List Nd,Same H (upd H6 nl (.lst (xs ++ [.ref t]))) ∧ upd H6 nl (.lst (xs ++ [.ref t])) xa = some (.lst (zs.map V.int)) ∧ All2 NdAt (upd H6 nl (.lst (xs ++ [.ref t]))) nds' (xs ++ [.ref t]) ∧ nds'.Pairwise J2D ∧ (∀ n ∈ nds',n.kind ∈ ks ∧ 0 ≤ n.day ∧ (n.day < (i : Int) ∨ (n.day = (i : Int) ∧ ∃ k' < j + 1,ks[k']? = some n.kind))) ∧ (∀ n ∈ nds',(n.least ≤ (cntR rows n : Int) ∧ (cntR rows n : Int) ≤ n.most) ∧ 0 ≤ n.least ∧ n.most ≤ 9) ∧ nds'.length ≤ 3 * i + (j + 1) ∧ (∀ (j' c : Nat),j' < i → c ∈ ks → (∃ r ∈ rows,r[j']? = some c) → ∃ n ∈ nds',n.day = (j' : Int) ∧ n.kind = c) ∧ (∀ (k' c : Nat),k' < j + 1 → ks[k']? = some c → (∃ r ∈ rows,r[i]? = some c) → ∃ n ∈ nds',n.day = (i : Int) ∧ n.kind = c))) := fun H6 t l m s6 ht hlm hmm hl0 hm9 => by
     have ynl6 := s6 _ _ ynl5
     have kp : JY H6 (upd H6 nl (.lst (xs ++ [.ref t]))) := J0z ynl6
     have kk5 := s6.keeps.trans kp
     rw [Int.zero_add] at ht
     refine ⟨ynl6,nds ++ [⟨(i : Int),kk,l,m⟩],(S5.trans s6).upd fnl,by rw [Jj hxn]; exact s6 _ _ hxa5,(aN5.imp fun a y => NdAt.keeps a y _ _ kk5).snoc ⟨t,rfl,kp _ _ ht (fun zs z => by cases z)⟩,?_,fun n hn => ?_,fun n hn => ?_,by rw [List.length_append,List.length_singleton]; omega,fun j' c hj' hc hr => ?_,fun k' c hk' hc hr => ?_⟩
     ·rw [List.pairwise_append]
      refine ⟨hU,List.pairwise_singleton _ _,fun n hn m' hm' => ?_⟩
      rw [List.mem_singleton.mp hm']
      rintro ⟨e1,e2⟩
      have e1' : n.day = (i : Int) := e1
      have e2' : n.kind = kk := e2
      rcases (hK n hn).2.2 with z | ⟨_,k',hk',z⟩
      ·omega
      ·rw [e2'] at z
       have hl1 := (List.getElem?_eq_some_iff.mp z).1
       have hl2 := (List.getElem?_eq_some_iff.mp hkj).1
       have := (List.getElem_inj hkn).mp ((List.getElem?_eq_some_iff.mp z).2.trans (List.getElem?_eq_some_iff.mp hkj).2.symm)
       omega
     ·rcases List.mem_append.mp hn with hn | hn
      ·obtain ⟨a1,a2,a3⟩ := hK n hn
       exact ⟨a1,a2,a3.imp id fun ⟨b1,k',b2,b3⟩ => ⟨b1,k',by omega,b3⟩⟩
      ·rw [List.mem_singleton.mp hn]
       exact ⟨List.mem_of_getElem? hkj,by show (0 : Int) ≤ (i : Int); omega,.inr ⟨rfl,j,by omega,hkj⟩⟩
     ·rcases List.mem_append.mp hn with hn | hn
      ·exact hF n hn
      ·rw [List.mem_singleton.mp hn,hcn]
       exact ⟨⟨hlm,hmm⟩,hl0,hm9⟩
     ·obtain ⟨n,hn,e⟩ := hC j' c hj' hc hr
      exact ⟨n,List.mem_append_left _ hn,e⟩
     ·by_cases e : k' = j
      ·subst e
       rw [hkj] at hc
       cases hc
       exact ⟨_,List.mem_append_right _ (List.mem_singleton_self _),rfl,rfl⟩
      ·obtain ⟨n,hn,e⟩ := hC2 k' c (by omega) hc hr
       exact ⟨n,List.mem_append_left _ hn,e⟩
    have hxl' : xs.length ≤ 1000 := by omega
    have cm : CMul (Jz zs (2 * (0 + (j : Int))) % 3 / 2) (Jz zs (2 * (0 + (j : Int))) / 3 % ((ys.length : Int) + 1)) := .inl ⟨by omega,by omega⟩
    have hle : (ys.length : Int) - Jz zs (2 * (0 + (j : Int))) % 3 / 2 * (Jz zs (2 * (0 + (j : Int))) / 3 % ((ys.length : Int) + 1)) ≤ (ys.length : Int) := by
     have := Int.mul_nonneg (show 0 ≤ Jz zs (2 * (0 + (j : Int))) % 3 / 2 by omega) t0
     omega
    have hmo : (ys.length : Int) ≤ (ys.length : Int) + Jz zs (2 * (0 + (j : Int)) + 1) % 3 := by omega
    have hle0 : 0 ≤ (ys.length : Int) - Jz zs (2 * (0 + (j : Int))) % 3 / 2 * (Jz zs (2 * (0 + (j : Int))) / 3 % ((ys.length : Int) + 1)) := by
     have h1 : Jz zs (2 * (0 + (j : Int))) % 3 / 2 = 0 ∨ Jz zs (2 * (0 + (j : Int))) % 3 / 2 = 1 := by omega
     rcases h1 with h1 | h1 <;> rw [h1] <;> omega
    have hmo9 : (ys.length : Int) + Jz zs (2 * (0 + (j : Int)) + 1) % 3 ≤ 9 := by omega
    walk_at "rd"
    refine ite2 (fun _ => ?_) (fun eN => ?_)
    ·walk_at "rd"
     intro t ft
     obtain ⟨H6,e6,yt6,s6⟩ := newt (xs := [V.int (0 + (i : Int)),T [kk],.int ((ys.length : Int) - Jz zs (2 * (0 + (j : Int))) % 3 / 2 * (Jz zs (2 * (0 + (j : Int))) / 3 % ((ys.length : Int) + 1))),.int ((ys.length : Int) + Jz zs (2 * (0 + (j : Int)) + 1) % 3)]) ft
     have e6' : upd H5 t (.tup [V.int (0 + (i : Int)),T [kk],.int ((ys.length : Int) - Jz zs (2 * (0 + (j : Int))) % 3 / 2 * (Jz zs (2 * (0 + (j : Int))) / 3 % ((ys.length : Int) + 1))),.int ((ys.length : Int) + Jz zs (2 * (0 + (j : Int)) + 1) % 3)]) = H6 := e6.symm
     rw [e6']
     obtain ⟨b1,nds',b2,b3,b4,b5,b6,b7,b8,b9,b10⟩ := fin H6 t _ _ s6 yt6 hle hmo hle0 hmo9
     walk_at "rd"
     exact Here.mk ⟨_,_,_,nds',_,rfl,b2,b3,Jd,b4,b5,b6,b7,b8,b9,b10⟩
    walk_at "rd"
    refine ite2 (fun _ => ?_) (fun _ => ?_)
    ·walk_at "rd"
     intro t ft
     obtain ⟨H6,e6,yt6,s6⟩ := newt (xs := [V.int (0 + (i : Int)),T [kk],.int ((ys.length : Int) - Jz zs (2 * (0 + (j : Int))) % 3 / 2 * (Jz zs (2 * (0 + (j : Int))) / 3 % ((ys.length : Int) + 1))),.int ((ys.length : Int) + Jz zs (2 * (0 + (j : Int)) + 1) % 3)]) ft
     have e6' : upd H5 t (.tup [V.int (0 + (i : Int)),T [kk],.int ((ys.length : Int) - Jz zs (2 * (0 + (j : Int))) % 3 / 2 * (Jz zs (2 * (0 + (j : Int))) / 3 % ((ys.length : Int) + 1))),.int ((ys.length : Int) + Jz zs (2 * (0 + (j : Int)) + 1) % 3)]) = H6 := e6.symm
     rw [e6']
     obtain ⟨b1,nds',b2,b3,b4,b5,b6,b7,b8,b9,b10⟩ := fin H6 t _ _ s6 yt6 hle hmo hle0 hmo9
     walk_at "rd"
     exact Here.mk ⟨_,_,_,nds',_,rfl,b2,b3,Jd,b4,b5,b6,b7,b8,b9,b10⟩
    ·walk_at "rd"
     exact Here.mk ⟨_,_,_,nds,xs,rfl,S5,hxa5,ynl5,aN5,hU,fun n hn => by
      obtain ⟨a1,a2,a3⟩ := hK n hn
      exact ⟨a1,a2,a3.imp id fun ⟨b1,k',b2,b3⟩ => ⟨b1,k',by omega,b3⟩⟩,hF,by omega,hC,fun k' c hk' hc hr => by
      by_cases e : k' = j
      ·subst e
       rw [hkj] at hc
       cases hc
       obtain ⟨r,hr1,hr2⟩ := hr
       have h0 : ¬ 0 < ys.length := fun z => eN (decide_eq_true (by omega))
       have : 0 < cntR rows ⟨(i : Int),kk,0,0⟩ := List.length_pos_of_mem (List.mem_filter.mpr ⟨hr1,decide_eq_true (by show r[((i : Int)).toNat]? = some kk; rw [Int.toNat_natCast]; exact hr2)⟩)
       rw [hcn] at this
       exact absurd this h0
      ·exact hC2 k' c (by omega) hc hr⟩
   ·clear hU hK hF hL hC aN aN3 ynl2 ynl3 hv
    rintro σ H4 hv
    obtain ⟨v7,v8,v9,nds,xs,rfl,S4,hxa4,ynl4,aN4,hU,hK,hF,hL,hC,hC2⟩ := hv.out
    exact Here.mk ⟨_,_,_,_,_,nds,xs,rfl,S4,ynl4,aN4,hU,fun n hn => by
     obtain ⟨a1,a2,a3⟩ := hK n hn
     refine ⟨a1,a2,?_⟩
     rcases a3 with z | ⟨z,_⟩ <;> omega,hF,by omega,fun j' c hj' hc hr => by
     by_cases e : j' = i
     ·subst e
      obtain ⟨k',hk'⟩ := List.getElem?_of_mem hc
      exact hC2 k' c (List.getElem?_eq_some_iff.mp hk').1 hk' hr
     ·exact hC j' c (by omega) hc hr⟩
  ·rintro σ H2 hv
   obtain ⟨v5,v6,v7,v8,v9,nds,xs,rfl,S2,ynl2,aN,hU,hK,hF,hL,hC⟩ := hv.out
   walk_at "rd"
   exact q nl H2 nds xs S2 fnl ynl2 aN ⟨hU,fun n hn => ⟨(hK n hn).1,(hK n hn).2.1,by have := (hK n hn).2.2; omega⟩,hF,by omega,fun j c hj hc hr => hC j c (by omega) hc hr⟩
end
noncomputable def Ps4 : Ps → V → Hp → Prop := fun n y H => ∃ t,y = .ref t ∧ H t = some (.tup [T n.nm,T n.sk,.int n.most,.int n.car])
theorem Ps4.keeps (n : Ps) (y : V) (Ha Hb : Hp) (k : JY Ha Hb) (h : Ps4 n y Ha) : Ps4 n y Hb := let ⟨t,e,h⟩ := h; ⟨t,e,k _ _ h fun zs z => by cases z⟩
noncomputable def cntC (way : Int) (W : List Wi) (ps : List Ps) (lv : Int) (p m : Int) : Int :=
 let load := (ps.getD p.toNat dft).car + m
 if way = 1 then ((W.length : Int) + 1) * load * load else if way = 2 ∧ load > lv then load - lv else 0
noncomputable def mrkC (way : Int) (W : List Wi) (old : List (List Nat)) (p d : Int) (x : Nat) : Int :=
 if way = 1 then (notM W p.toNat d.toNat x : Nat) else if way = 3 ∧ ¬ (old.getD p.toNat []).getD d.toNat 0 = x then 1 else 0
noncomputable def p2 (p : Ps) : List Nat × Int := (p.nm,p.car)
theorem Jfl {ps : List Ps} {p : Int} : Jz ((ps.map p2).map (·.2)) p = (ps.getD p.toNat dft).car := by
 unfold Jz
 rw [List.getD_eq_getElem?_getD,List.getD_eq_getElem?_getD,List.getElem?_map,List.getElem?_map]
 cases ps[p.toNat]? <;> rfl
theorem J8Q (nds : List Nd) (d : Int) (k : Nat) : J0F nds d k = match nds.filter (fun n => decide (n.day = d) && decide (n.kind = k)) with | [] => (0,0) | n :: _ => (n.least,n.most) := by
 induction nds with
 | nil => rfl
 | cons n r ih =>
  unfold J0F
  rw [List.filter_cons]
  by_cases h : n.day = d ∧ n.kind = k
  ·rw [if_pos h,if_pos (by rw [decide_eq_true h.1,decide_eq_true h.2]; rfl)]
  ·rw [if_neg h,if_neg (fun z => by rw [Bool.and_eq_true] at z; exact h ⟨of_decide_eq_true z.1,of_decide_eq_true z.2⟩)]
   exact ih
structure Pt5 (H : Hp) (t : Addr) (dd : Int) (ks : List Nat) (nds : List Nd) (ps : List Ps) (ls : List (List Nat × Int)) (nl pl ll : Addr) (xs ys zs : List V) : Prop where
 t : H t = some (.tup [.int dd,T ks,.ref nl,.ref pl,.ref ll])
 n : H nl = some (.lst xs)
 na : All2 NdAt H nds xs
 p : H pl = some (.lst ys)
 pa : All2 Ps4 H ps ys
 l : H ll = some (.lst zs)
 la : All2 LvT H ls zs
theorem Pt5.same {H H' : Hp} {t : Addr} {dd : Int} {ks : List Nat} {nds : List Nd} {ps : List Ps} {ls : List (List Nat × Int)} {nl pl ll : Addr} {xs ys zs : List V} (x : Pt5 H t dd ks nds ps ls nl pl ll xs ys zs) (s : Same H H') : Pt5 H' t dd ks nds ps ls nl pl ll xs ys zs :=
 ⟨s _ _ x.t,s _ _ x.n,x.na.imp fun a y => NdAt.keeps a y _ _ s.keeps,s _ _ x.p,x.pa.imp fun a y => Ps4.keeps a y _ _ s.keeps,s _ _ x.l,x.la.imp fun a y => LvT.keeps a y _ _ s.keeps⟩
theorem tup5 (a b c d e : V) : atI [a,b,c,d,e] 0 = some a ∧ atI [a,b,c,d,e] 1 = some b ∧ atI [a,b,c,d,e] 2 = some c ∧ atI [a,b,c,d,e] 3 = some d ∧ atI [a,b,c,d,e] 4 = some e := ⟨by simp [atI,ixN],by simp [atI,ixN],by simp [atI,ixN],by simp [atI,ixN],by simp [atI,ixN]⟩
theorem tup4 (a b c d : V) : atI [a,b,c,d] 0 = some a ∧ atI [a,b,c,d] 1 = some b ∧ atI [a,b,c,d] 2 = some c ∧ atI [a,b,c,d] 3 = some d := ⟨by simp [atI,ixN],by simp [atI,ixN],by simp [atI,ixN],by simp [atI,ixN]⟩
noncomputable def Jbk : Sp := fun vs H Q _ => ∃ (t rl : Addr) (dd : Int) (ks : List Nat) (nds : List Nd) (ps : List Ps) (ls : List (List Nat × Int)) (nl pl ll : Addr) (xs ys zs : List V) (rows : List (List Nat)),vs = [.ref t,.ref rl] ∧ Pt5 H t dd ks nds ps ls nl pl ll xs ys zs ∧ nds.length ≤ 21 ∧ ks.length ≤ 3 ∧ 0 ≤ dd ∧ dd ≤ 7 ∧ H rl = some (.lst (rows.map T)) ∧ rows.length ≤ 5 ∧ (∀ r ∈ rows,(r.length : Int) = dd) ∧ ∀ H',Same H H' → Q (.bl (filB dd.toNat ks nds rows)) H'
section
variable {P : Program} {w : World} {K : PySem.W.Frag} {mg : Str → Option Value} {base : Heap} {Jg J7 J4 Ji J1 J2 Jk Jc Ja Jb Jf J9 : Addr}
theorem J8C (tx : Tx K mg Jg J7 J4 Ji J1 J2 Jk Jc Ja Jb Jf J9) : FnG P w K mg base "_law_filled" 1 ["_law_parts","_law_rows"] Jbk := by
 refine tx.J8w.g J27 (fun _ _ _ _ _ _ us hl => match us,hl with | [_,_],_ => rfl) (fun vs H Q E h => ?_) (fun f cdv A outer s H vs Q E hr h => ?_)
 ·obtain ⟨t,rl,dd,ks,nds,ps,ls,nl,pl,ll,xs,ys,zs,rows,rfl,_⟩ := h
  rfl
 ·obtain ⟨t,rl,dd,ks,nds,ps,ls,nl,pl,ll,xs,ys,zs,rows,rfl,hP,n21,k3,dd0,dd7,hrl,hrn,hrd,q⟩ := h
  refine ⟨_,(J6 (J0G PassesOwn.never rfl (J03 rfl tx.J0i (J0 (Jo (JC (K := K) rfl) (pv 0) J8 (fun _ _ => rfl)) J5)) (Jm (i := 2) J27.nd rfl (Or.inr rfl)) (Jh (J0G PassesOwn.never rfl (J5E (Jo (JC (K := K) rfl) (pv 0) J8 (fun _ _ => rfl))) (Jm (i := 3) J27.nd rfl (Or.inr rfl)) (J6 (Jq (i := 4) J27.nd rfl (Or.inl rfl) (Ju (JD (K := K) rfl) rfl tx.J0g PySem.boot_len (J0 (JP (osc := J3 J0M) (ON := ["_law_parts","_law_rows","_law_day","_law_kind","_law_many","_law_known"]) (N := ["_law_row_here","_law_kind","_law_day"]) (js := [none,some 3,some 2]) ⟨rfl,by decide +kernel,by decide +kernel,by decide +kernel,rfl,by decide +kernel⟩ rfl rfl rfl (JZ (K := K) rfl (pv 1)) (fun _ _ _ _ _ => Jm (i := 0) (show List.Nodup (["_law_row_here","_law_kind","_law_day"] : List Str) from by decide +kernel) rfl (Or.inl rfl)) (fun _ _ _ _ _ => J0o (Js J0P (Jo J09 (pv 0) (pv 2) (fun _ _ => rfl)) (pv 1) (Jw _))) (fun _ _ _ _ _ => (pv 0))) J5)))
   (J6 (J3o (k := 5) (osc := J3 J0M) (ON := ["_law_parts","_law_rows","_law_day","_law_kind","_law_many","_law_known"]) (N := ["_law_need","_law_day","_law_kind"]) (js := [none,some 2,some 3]) J27.nd rfl (Or.inl rfl) ⟨rfl,by decide +kernel,by decide +kernel,by decide +kernel,rfl,by decide +kernel⟩ rfl rfl rfl (JZ (K := K) rfl (Jo (JC (K := K) rfl) (pv 0) J8 (fun _ _ => rfl))) (fun _ _ _ _ _ => Jm (i := 0) (show List.Nodup (["_law_need","_law_day","_law_kind"] : List Str) from by decide +kernel) rfl (Or.inl rfl)) (fun _ _ _ _ _ => J0o (PW.pt (J38 (Js J0P (Jo (JC (K := K) rfl) (pv 0) J8 (fun _ _ => rfl)) (pv 1) (Jw _)) (J2v (Js J0P (Jo (JC (K := K) rfl) (pv 0) J8 (fun _ _ => rfl)) (pv 2) (Jw _)))))) (fun _ _ _ _ _ => (pv 0)))
   (J6 (J0E (PW.pt (J38 (Js (Jf7 (K := K) rfl hr.units0) (pv 5) (J0X J5) (Jw _)) (J2v (Js J3Q (pv 4) J8 (Jw _))))) (Jh (Jv J2W)) JK)
   (Jh (J0E (PW.pt (J38 (Js (Jd2 (K := K) rfl hr.units0) (pv 5) (J0X J5) (Jw _)) (J2v (J8O (JcC Jel Jel (Jo (JC (K := K) rfl) (Jo (Jy (K := K) rfl) (pv 5) J8 (fun _ _ => rfl)) J8 (fun _ _ => rfl)) (pv 4) (Jo (JC (K := K) rfl) (Jo (Jy (K := K) rfl) (pv 5) J8 (fun _ _ => rfl)) J8 (fun _ _ => rfl))))))) (Jh (Jv J2W)) JK))))))))
   (Jh (Jv J2W))),?_⟩
  walk_at "st"
  obtain ⟨x0,x1,x2,x3,x4⟩ := tup5 (.int dd) (T ks) (.ref nl) (.ref pl) (.ref ll)
  have ht := hP.t
  walk_at "rd"
  refine J1v (n := dd.toNat) (fun i σ H2 => Here (∃ v2 v3 v4 v5,σ = [some (.ref t),some (.ref rl),v2,v3,v4,v5] ∧ Same H H2 ∧ ∀ d < i,∀ k ∈ ks,neB nds rows (0 + (d : Int)) k = false)) (Here.mk ⟨_,_,_,_,rfl,Same.refl _,fun d hd => absurd hd (Nat.not_lt_zero _)⟩) ?_ ?_
  ·rintro i σ H2 hi hv
   obtain ⟨v2,v3,v4,v5,rfl,s2,hok⟩ := hv.out
   have ht2 := s2 _ _ ht
   walk_at "rd"
   refine Jb4 (l := ks) (fun j σ H3 => Here (∃ v3 v4 v5,σ = [some (.ref t),some (.ref rl),some (.int (0 + (i : Int))),v3,v4,v5] ∧ Same H H3 ∧ ∀ j' < j,∀ k,ks[j']? = some k → neB nds rows (0 + (i : Int)) k = false)) (Here.mk ⟨_,_,_,rfl,s2,fun j' hj' => absurd hj' (Nat.not_lt_zero _)⟩) ?_ ?_
   ·rintro j k σ H3 hk hv3
    obtain ⟨v3,v4,v5,rfl,s3,hok3⟩ := hv3.out
    have hrl3 := s3 _ _ hrl
    have hP3 := hP.same s3
    have ht3 := hP3.t
    have nx : neB nds rows (0 + (i : Int)) k = false → ∀ j' < j + 1,∀ k',ks[j']? = some k' → neB nds rows (0 + (i : Int)) k' = false := fun h j' hj' k' hk' => by
     by_cases e : j' = j
     ·subst e
      rw [hk] at hk'
      cases hk'
      exact h
     ·exact hok3 j' (by omega) k' hk'
    have no : neB nds rows (0 + (i : Int)) k = true → filB dd.toNat ks nds rows = false := fun h => Bool.eq_false_iff.mpr fun z => by
     unfold filB at z
     have := List.all_eq_true.mp (List.all_eq_true.mp z i (List.mem_range.mpr hi)) k (List.mem_of_getElem? hk)
     rw [h] at this
     cases this
    walk_at "rd"
    refine JF rows (fun r => decide (mkA r (0 + (i : Int)) = k)) (fun _ _ _ => True) (fun σ => ∃ v,σ = [v,some (T [k]),some (.int (0 + (i : Int)))]) (JL (SqL.of hrl3)) (by rw [List.length_map]) (by omega) ⟨_,rfl⟩ (fun _ _ _ _ _ z => z) (fun i' row v σ H' hj' hv hσ s' Rf Rt hF hR' => ?_) (fun D H4 us nD s4 hus hD => ?_)
    ·obtain ⟨w1,rfl⟩ := hσ
     rw [List.getElem?_map,hj'] at hv
     cases hv
     have hrow := hrd row (List.mem_of_getElem? hj')
     have e := J4c (row := row) (d := 0 + (i : Int)) (by omega) (by omega)
     have hrl' : row.length ≤ 1000 := by omega
     walk_at "rd"
     refine ite2 (fun c => ?_) (fun c => ?_)
     ·have c' : mkA row (0 + (i : Int)) = k := by simpa using J1S (of_decide_eq_true c)
      walk_at "rd"
      exact hR' _ _ _ (decide_eq_true c') ⟨_,rfl⟩ (Same.refl _) trivial
     ·exact hF _ _ (decide_eq_false fun z => c (decide_eq_true (by rw [z]))) ⟨_,rfl⟩ (Same.refl _)
    have hul : us.length = cntF rows (0 + (i : Int)) k := hus.len
    have hP4 := hP3.same s4
    have ht4 := hP4.t
    have hnl4 := hP4.n
    have qnl4 : SqL K H4 nl xs := SqL.of hnl4
    walk_at "rd"
    rw [hul]
    refine JF nds (fun n => decide (n.day = 0 + (i : Int)) && decide (n.kind = k)) NdAt (fun σ => ∃ v,σ = [v,some (.int (0 + (i : Int))),some (T [k])]) (JL (SqL.of hnl4)) hP4.na.len (by omega) ⟨_,rfl⟩ NdAt.keeps (fun i' n v σ H' hn hv hσ s' Rf Rt hF hR' => ?_) (fun D2 H5 us2 nD2 s5 hus2 hD2 => ?_)
    ·obtain ⟨w1,rfl⟩ := hσ
     obtain ⟨n',hn',t1,rfl,ht1⟩ := hP4.na.back hv
     rw [hn] at hn'
     cases hn'
     have ht1' := s' _ _ ht1
     obtain ⟨b0,b1,b2,b3⟩ := tup4 (.int n.day) (T [n.kind]) (.int n.least) (.int n.most)
     walk_at "rd"
     refine ite2 (fun c1 => ?_) (fun c1 => ?_)
     ·have c1' : n.day = 0 + (i : Int) := V.int.inj (of_decide_eq_true c1)
      walk_at "rd"
      refine ite2 (fun c2 => ?_) (fun c2 => ?_)
      ·have c2' : n.kind = k := by simpa using J1S (of_decide_eq_true c2)
       walk_at "rd"
       exact hR' _ _ _ (by rw [decide_eq_true c1',decide_eq_true c2']; rfl) ⟨_,rfl⟩ (Same.refl _) ⟨t1,rfl,ht1'⟩
      ·have c2' : ¬ n.kind = k := fun z => c2 (decide_eq_true (by rw [z]))
       exact hF _ _ (by rw [decide_eq_false c2',Bool.and_false]) ⟨_,rfl⟩ (Same.refl _)
     ·have c1' : ¬ n.day = 0 + (i : Int) := fun z => c1 (decide_eq_true (by rw [z]))
      exact hF _ _ (by rw [decide_eq_false c1',Bool.false_and]) ⟨_,rfl⟩ (Same.refl _)
    have hN := J8Q nds (0 + (i : Int)) k
    have S5 := (s3.trans s4).trans s5
    have hneB : neB nds rows (0 + (i : Int)) k = (decide ((cntF rows (0 + (i : Int)) k : Int) < (J0F nds (0 + (i : Int)) k).1) || decide ((J0F nds (0 + (i : Int)) k).2 < (cntF rows (0 + (i : Int)) k : Int))) := rfl
    have qD2 : SqL K H5 D2 us2 := SqL.of hD2
    generalize cntF rows (0 + (i : Int)) k = many at hneB ⊢
    generalize nds.filter (fun n => decide (n.day = 0 + (i : Int)) && decide (n.kind = k)) = kn at hus2 hN
    walk_at "rd"
    intro l1 f1
    obtain ⟨H6,e6,y6,s6⟩ := newl (xs := []) f1
    rw [← e6]
    have hD26 := s6 _ _ hD2
    have qD26 : SqL K H6 D2 us2 := SqL.of hD26
    have ql1 : SqL K H6 l1 [] := SqL.of y6
    cases kn with
    | nil =>
     cases us2 with
     | cons y r => exact hus2.elim
     | nil =>
      have hN' : J0F nds (0 + (i : Int)) k = (0,0) := hN
      rw [hN'] at hneB
      walk_at "rd"
      refine ite2 (fun c => ?_) (fun c => ?_)
      ·have c' : (0 : Int) < (many : Int) := of_decide_eq_true c
       have hb : neB nds rows (0 + (i : Int)) k = true := by rw [hneB,decide_eq_true (show ((0,0) : Int × Int).2 < (many : Int) from c'),Bool.or_true]
       have := q H6 (S5.trans s6)
       rw [no hb] at this
       walk_at "rd"
       exact this
      ·have c' : ¬ (0 : Int) < (many : Int) := of_decide_eq_false (Bool.eq_false_iff.mpr c)
       have hb : neB nds rows (0 + (i : Int)) k = false := by
        rw [hneB,decide_eq_false (show ¬ (many : Int) < ((0,0) : Int × Int).1 by show ¬ (many : Int) < 0; omega),decide_eq_false (show ¬ ((0,0) : Int × Int).2 < (many : Int) from c')]
        rfl
       walk_at "rd"
       intro l2 f2
       obtain ⟨H7,e7,y7,s7⟩ := newl (xs := []) f2
       rw [← e7]
       have hD27 := s7 _ _ hD26
       have qD27 : SqL K H7 D2 [] := SqL.of hD27
       have ql2 : SqL K H7 l2 [] := SqL.of y7
       walk_at "rd"
       exact Here.mk ⟨_,_,_,rfl,(S5.trans s6).trans s7,nx hb⟩
    | cons n kn =>
     cases us2 with
     | nil => exact hus2.elim
     | cons y r =>
      obtain ⟨t1,rfl,ht1⟩ := hus2.1
      have hN' : J0F nds (0 + (i : Int)) k = (n.least,n.most) := hN
      rw [hN'] at hneB
      walk_at "rd"
      intro l2 f2
      obtain ⟨H7,e7,y7,s7⟩ := newl (xs := []) f2
      rw [← e7]
      have hD27 := s7 _ _ hD26
      have qD27 : SqL K H7 D2 (.ref t1 :: r) := SqL.of hD27
      have ql2 : SqL K H7 l2 [] := SqL.of y7
      have ht17 := (s6.trans s7) _ _ ht1
      have S7 := (S5.trans s6).trans s7
      have u0 : atI (V.ref t1 :: r) 0 = some (.ref t1) := J01 (j := 0) rfl
      obtain ⟨b0,b1,b2,b3⟩ := tup4 (.int n.day) (T [n.kind]) (.int n.least) (.int n.most)
      walk_at "rd"
      refine ite2 (fun c1 => ?_) (fun c1 => ?_)
      ·have c1' : n.least ≤ (many : Int) := of_decide_eq_true c1
       walk_at "rd"
       refine ite2 (fun c2 => ?_) (fun c2 => ?_)
       ·have c2' : ¬ (many : Int) ≤ n.most := fun z => by rw [decide_eq_true z] at c2; cases c2
        have hb : neB nds rows (0 + (i : Int)) k = true := by rw [hneB,decide_eq_true (show ((n.least,n.most) : Int × Int).2 < (many : Int) by show n.most < (many : Int); omega),Bool.or_true]
        have := q H7 S7
        rw [no hb] at this
        walk_at "rd"
        exact this
       ·have c2' : (many : Int) ≤ n.most := Decidable.byContradiction fun z => c2 (by rw [decide_eq_false z]; rfl)
        have hb : neB nds rows (0 + (i : Int)) k = false := by
         rw [hneB,decide_eq_false (show ¬ (many : Int) < ((n.least,n.most) : Int × Int).1 by show ¬ (many : Int) < n.least; omega),decide_eq_false (show ¬ ((n.least,n.most) : Int × Int).2 < (many : Int) by show ¬ n.most < (many : Int); omega)]
         rfl
        walk_at "rd"
        exact Here.mk ⟨_,_,_,rfl,S7,nx hb⟩
      ·have c1' : ¬ n.least ≤ (many : Int) := fun z => c1 (decide_eq_true z)
       have hb : neB nds rows (0 + (i : Int)) k = true := by rw [hneB,decide_eq_true (show (many : Int) < ((n.least,n.most) : Int × Int).1 by show (many : Int) < n.least; omega),Bool.true_or]
       have := q H7 S7
       rw [no hb] at this
       walk_at "rd"
       exact this
   ·rintro σ H3 hv3
    obtain ⟨v3,v4,v5,rfl,s3,hok3⟩ := hv3.out
    refine Here.mk ⟨_,_,_,_,rfl,s3,fun d hd k hk => ?_⟩
    by_cases e : d = i
    ·subst e
     obtain ⟨j,hj⟩ := List.getElem?_of_mem hk
     exact hok3 j (List.getElem?_eq_some_iff.mp hj).1 k hj
    ·exact hok d (by omega) k hk
  ·rintro σ H2 hv
   obtain ⟨v2,v3,v4,v5,rfl,s2,hok⟩ := hv.out
   have hb : filB dd.toNat ks nds rows = true := by
    unfold filB
    refine List.all_eq_true.mpr fun d hd => List.all_eq_true.mpr fun k hk => ?_
    rw [hok d (List.mem_range.mp hd) k hk]
    rfl
   have := q H2 s2
   rw [hb] at this
   walk_at "rd"
   exact this
end
noncomputable def JdC : Sp := fun vs H Q _ => ∃ (t rl : Addr) (ruled : Bool) (k0 : Nat) (kr : List Nat) (dd : Int) (nds : List Nd) (ps : List Ps) (ls : List (List Nat × Int)) (nl pl ll : Addr) (xs ys zs : List V) (rows : List (List Nat)),vs = [.ref t,.ref rl,.bl ruled] ∧ Pt5 H t dd (k0 :: kr) nds ps ls nl pl ll xs ys zs ∧ nds.length ≤ 21 ∧ (k0 :: kr).length ≤ 3 ∧ 0 ≤ dd ∧ dd ≤ 7 ∧ H rl = some (.lst (rows.map T)) ∧ rows.length = ps.length ∧ ps.length ≤ 5 ∧ (∀ r ∈ rows,(r.length : Int) = dd) ∧ ∀ H',Same H H' → Q (.bl (goB dd.toNat (k0 :: kr) nds ls ruled k0 ps rows)) H'
section
variable {P : Program} {w : World} {K : PySem.W.Frag} {mg : Str → Option Value} {base : Heap} {Jg J7 J4 Ji J1 J2 Jk Jc Ja Jb Jf J9 : Addr}
theorem Ja7 (tx : Tx K mg Jg J7 J4 Ji J1 J2 Jk Jc Ja Jb Jf J9) : FnG P w K mg base "_law_good" 2 ["_law_parts","_law_rows","_law_ruled"] JdC := by
 have J4x := J8C (P := P) (w := w) (base := base) tx
 have J0O := J3l (P := P) (w := w) (base := base) tx
 refine tx.Ja6.g J2w (fun _ _ _ _ _ _ us hl => match us,hl with | [_,_,_],_ => rfl) (fun vs H Q E h => ?_) (fun f cdv A outer s H vs Q E hr h => ?_)
 ·obtain ⟨t,rl,ruled,k0,kr,dd,nds,ps,ls,nl,pl,ll,xs,ys,zs,rows,rfl,_⟩ := h
  rfl
 ·obtain ⟨t,rl,ruled,k0,kr,dd,nds,ps,ls,nl,pl,ll,xs,ys,zs,rows,rfl,hP,n21,k3,dd0,dd7,hrl,hrn,p5,hrd,q⟩ := h
  refine ⟨_,(J6 (J0G PassesOwn.never rfl (J4W (K := K) rfl rfl tx.J42 (J0 (Jo (JC (K := K) rfl) (pv 0) J8 (fun _ _ => rfl)) (J0 (pv 1) J5))) (J2C rfl (JE (Jm (i := 3) J2w.nd rfl (Or.inl rfl)) (JE (Jm (i := 4) J2w.nd rfl (Or.inl rfl)) J1z))) (J6 (J0G PassesOwn.never rfl (J03 rfl tx.J0i (J0 (Jo (JC (K := K) rfl) (pv 0) J8 (fun _ _ => rfl)) J5)) (Jm (i := 5) J2w.nd rfl (Or.inl rfl)) (Jh (J0E (PW.pt (J38 (Js J2U (Jo J09 (pv 4) (pv 5) (fun _ _ => rfl)) (JU (l := [45]) (by decide +kernel)) (Jw _)) (J2v (PW.pt (J3z (Js J84 (Jo J09 (pv 4) (pv 5) (fun _ _ => rfl)) (Jo (JC (K := K) rfl) (pv 3) J8 (fun _ _ => rfl)) rfl) (J3p (Js (J8M (K := K) rfl (J86 hr)) (J0t (J0 (Jo (JC (K := K) rfl) (pv 3) J8 (fun _ _ => rfl)) (J0 (pv 5) J5))) (Jo (JC (K := K) rfl) (pv 0) J8 (fun _ _ => rfl)) rfl))))))) (Jh (Jv J2W)) JK)))
   (Jh (J0E (PW.pt (J3z (Js J3Q (JO J0O (hr.mono (by decide)) (J0 (pv 4) J5)) (Jo (JC (K := K) rfl) (pv 3) J8 (fun _ _ => rfl)) (Jw _)) (J3p (PW.pt (J38 (J3T (pv 2)) (J2v (Js JeO (Jl J9Q (Jo J09 (Jo (JC (K := K) rfl) (pv 0) J8 (fun _ _ => rfl)) J8 (fun _ _ => rfl)) J8) (pv 4) rfl))))))) (Jh (Jv J2W)) JK))))
   (J6 (J0E (PW.pt (J38 (J3T (pv 2)) (J2v (Js J3Q (Ju (JD (K := K) rfl) rfl tx.J0g PySem.boot_len (J0 (pv 1) J5)) J8 (Jw _))))) (Jh (J0G PassesOwn.never rfl (J03 rfl tx.J0i (J0 (Jo (JC (K := K) rfl) (pv 0) J8 (fun _ _ => rfl)) J5)) (Jm (i := 5) J2w.nd rfl (Or.inl rfl)) (Jh (J0E (PW.pt (J38 (Js J2U (Jo J09 (Jo (Jy (K := K) rfl) (pv 1) J8 (fun _ _ => rfl)) (pv 5) (fun _ _ => rfl)) (JU (l := [45]) (by decide +kernel)) (Jw _)) (J2v (Js J0P (Jo J09 (Jo (Jy (K := K) rfl) (pv 1) J8 (fun _ _ => rfl)) (pv 5) (fun _ _ => rfl)) (Jo J09 (Jo (Jy (K := K) rfl) (pv 1) J8 (fun _ _ => rfl)) (pv 5) (fun _ _ => rfl)) (Jw _))))) (Jh (Jv J2W)) JK)))) JK)
   (Jh (Jv (JO J4x (hr.mono (by decide)) (J0 (pv 0) (J0 (pv 1) J5))))))),?_⟩
  walk_at "st"
  clear J4x J0O
  obtain ⟨x0,x1,x2,x3,x4⟩ := tup5 (.int dd) (T (k0 :: kr)) (.ref nl) (.ref pl) (.ref ll)
  have ht := hP.t
  have hpl := hP.p
  have hyl := hP.pa.len
  have hrn5 : rows.length ≤ 5 := by omega
  have k3' : (k0 :: kr).length ≤ 1000 := by omega
  have uk : atI (k0 :: kr) 0 = some k0 := J01 (j := 0) rfl
  have eG : goB dd.toNat (k0 :: kr) nds ls ruled k0 ps rows = (((ps.zip rows).all (perG dd.toNat ls ruled k0)) && ((!(ruled && decide (1 < rows.length)) || prG dd.toNat rows) && filB dd.toNat (k0 :: kr) nds rows)) := rfl
  have qF : goB dd.toNat (k0 :: kr) nds ls ruled k0 ps rows = false → ∀ H',Same H H' → Q (.bl false) H' := fun e H' s' => by have := q H' s'; rwa [e] at this
  walk_at "rd"
  refine J9N (K := K) (xs := ys) (ys := rows.map T) (fun i σ H2 => Here (∃ v3 v4 v5,σ = [some (.ref t),some (.ref rl),some (.bl ruled),v3,v4,v5] ∧ Same H H2 ∧ ∀ (j : Nat) (a : Ps × List Nat),j < i → (ps.zip rows)[j]? = some a → perG dd.toNat ls ruled k0 a = true)) (Here.mk ⟨_,_,_,rfl,Same.refl _,fun j a hj => absurd hj (Nat.not_lt_zero _)⟩) (fun i σ H2 _ _ hv => by obtain ⟨_,_,_,_,s2,_⟩ := hv.out; exact ⟨SqL.of (s2 _ _ hpl),SqL.of (s2 _ _ hrl)⟩) ?_ ?_
  ·rintro i x y p σ H2 hx hy hp hv
   obtain ⟨v3,v4,v5,rfl,s2,hok⟩ := hv.out
   obtain ⟨n,hn,tp,rfl,htp⟩ := hP.pa.back hx
   obtain ⟨row,hrow,rfl⟩ : ∃ row,rows[i]? = some row ∧ y = T row := by
    rw [List.getElem?_map] at hy
    cases h : rows[i]? with
    | none => rw [h] at hy; cases hy
    | some cc => rw [h] at hy; exact ⟨cc,rfl,(Option.some.inj hy).symm⟩
   have hz : (ps.zip rows)[i]? = some (n,row) := List.getElem?_zip_eq_some.mpr ⟨hn,hrow⟩
   have hrlen := hrd row (List.mem_of_getElem? hrow)
   have hrow' : row.length ≤ 1000 := by omega
   have no : perG dd.toNat ls ruled k0 (n,row) = false → goB dd.toNat (k0 :: kr) nds ls ruled k0 ps rows = false := fun h => by
    rw [eG]
    have : (ps.zip rows).all (perG dd.toNat ls ruled k0) = false := Bool.eq_false_iff.mpr fun z => by
     have := List.all_eq_true.mp z _ (List.mem_of_getElem? hz)
     rw [h] at this
     cases this
    rw [this,Bool.false_and]
   have ePer : perG dd.toNat ls ruled k0 (n,row) = (((List.range dd.toNat).all fun (d : Nat) => !badD ls (0 + (d : Int)) (n,row)) && !(decide (n.most < (dut row : Int)) || (ruled && dblB k0 row))) := rfl
   obtain ⟨H3,e3,yp3,s3⟩ := newt (xs := [V.ref tp,T row]) hp
   have e3' : upd H2 p (.tup [V.ref tp,T row]) = H3 := e3.symm
   rw [e3']
   have S3 := s2.trans s3
   have ht3 := S3 _ _ ht
   walk_at "rd"
   refine J1v (n := dd.toNat) (fun j σ H4 => Here (∃ v5,σ = [some (.ref t),some (.ref rl),some (.bl ruled),some (.ref tp),some (T row),v5] ∧ Same H H4 ∧ ∀ d < j,badD ls (0 + (d : Int)) (n,row) = false)) (Here.mk ⟨_,rfl,S3,fun d hd => absurd hd (Nat.not_lt_zero _)⟩) ?_ ?_
   ·rintro j σ H4 hj hv4
    obtain ⟨v5,rfl,s4,hok4⟩ := hv4.out
    have hP4 := hP.same s4
    have ht4 := hP4.t
    have hll4 := hP4.l
    have htp4 := s4 _ _ htp
    have em := J4c (row := row) (d := 0 + (j : Int)) (by omega) (by omega)
    obtain ⟨b0,b1,b2,b3⟩ := tup4 (T n.nm) (T n.sk) (.int n.most) (.int n.car)
    have eBad : badD ls (0 + (j : Int)) (n,row) = (!decide (mkA row (0 + (j : Int)) = 45) && (!decide (mkA row (0 + (j : Int)) ∈ n.sk) || J4X ls n.nm (0 + (j : Int)))) := rfl
    have yes : badD ls (0 + (j : Int)) (n,row) = false → ∀ d < j + 1,badD ls (0 + (d : Int)) (n,row) = false := fun h d hd => by
     by_cases e : d = j
     ·subst e; exact h
     ·exact hok4 d (by omega)
    have bad : badD ls (0 + (j : Int)) (n,row) = true → ∀ H',Same H H' → Q (.bl false) H' := fun h => qF (no (by
     rw [ePer]
     have : ((List.range dd.toNat).all fun (d : Nat) => !badD ls (0 + (d : Int)) (n,row)) = false := Bool.eq_false_iff.mpr fun z => by
      have := List.all_eq_true.mp z j (List.mem_range.mpr hj)
      rw [h] at this
      cases this
     rw [this,Bool.false_and]))
    walk_at "rd"
    refine ite2 (fun c1 => ?_) (fun c1 => ?_)
    ·have c1' : ¬ mkA row (0 + (j : Int)) = 45 := fun z => by rw [z] at c1; exact absurd c1 (by decide)
     walk_at "rd"
     refine ite2 (fun c2 => ?_) (fun c2 => ?_)
     ·walk_at "rd"
      exact bad (by rw [eBad,decide_eq_false c1',c2]; rfl) H4 s4
     ·walk_at "rd"
      intro t2 ft2
      obtain ⟨H5,e5,yt5,s5⟩ := newt (xs := [T n.nm,V.int (0 + (j : Int))]) ft2
      rw [← e5]
      have ht5 := s5 _ _ ht4
      have hll5 := s5 _ _ hll4
      have S5 := s4.trans s5
      have k7 := Jb0 (K := K) (hP.la.imp fun a y => LvT.keeps a y _ _ S5.keeps)
      have fl : ([T n.nm,V.int (0 + (j : Int))] : List V).all J15 = true := rfl
      walk_at "rd"
      refine ite2 (fun c3 => ?_) (fun c3 => ?_)
      ·have c3' : J4X ls n.nm (0 + (j : Int)) = true := c3
       walk_at "rd"
       exact bad (by rw [eBad,decide_eq_false c1',c3',Bool.or_true]; rfl) H5 S5
      ·have c3' : J4X ls n.nm (0 + (j : Int)) = false := Bool.eq_false_iff.mpr c3
       walk_at "rd"
       exact Here.mk ⟨_,rfl,S5,yes (by rw [eBad,Bool.eq_false_iff.mpr c2,c3',Bool.or_false,Bool.and_false])⟩
    ·have c1' : mkA row (0 + (j : Int)) = 45 := Decidable.byContradiction fun z => c1 (by rw [decide_eq_false fun y => z (by simpa using J1S y)]; rfl)
     walk_at "rd"
     exact Here.mk ⟨_,rfl,s4,yes (by rw [eBad,decide_eq_true c1']; rfl)⟩
   ·rintro σ H4 hv4
    obtain ⟨v5,rfl,s4,hok4⟩ := hv4.out
    have htp4 := s4 _ _ htp
    have ht4 := s4 _ _ ht
    obtain ⟨b0,b1,b2,b3⟩ := tup4 (T n.nm) (T n.sk) (.int n.most) (.int n.car)
    have hall : ((List.range dd.toNat).all fun (d : Nat) => !badD ls (0 + (d : Int)) (n,row)) = true := List.all_eq_true.mpr fun d hd => by rw [hok4 d (List.mem_range.mp hd)]; rfl
    rw [hall,Bool.true_and] at ePer
    walk_at "rd"
    intro H5 s5
    have S5 := s4.trans s5
    have htp5 := S5 _ _ htp
    have ht5 := S5 _ _ ht
    have nx : perG dd.toNat ls ruled k0 (n,row) = true → ∀ (j : Nat) (a : Ps × List Nat),j < i + 1 → (ps.zip rows)[j]? = some a → perG dd.toNat ls ruled k0 a = true := fun h j a hj ha => by
     by_cases e : j = i
     ·subst e
      rw [hz] at ha
      cases ha
      exact h
     ·exact hok j a (by omega) ha
    walk_at "rd"
    refine ite2 (fun c1 => ?_) (fun c1 => ?_)
    ·walk_at "rd"
     exact qF (no (by rw [ePer,c1]; rfl)) H5 S5
    ·rw [Bool.eq_false_iff.mpr c1,Bool.false_or] at ePer
     cases ruled with
     | false =>
      walk_at "rd"
      exact Here.mk ⟨_,_,_,rfl,S5,nx ePer⟩
     | true =>
      rw [Bool.true_and] at ePer
      walk_at "rd"
      refine ite2 (fun c2 => ?_) (fun c2 => ?_)
      ·walk_at "rd"
       exact qF (no (by rw [ePer,c2]; rfl)) H5 S5
      ·walk_at "rd"
       exact Here.mk ⟨_,_,_,rfl,S5,nx (by rw [ePer,Bool.eq_false_iff.mpr c2]; rfl)⟩
  ·rintro i σ H2 hi hv
   obtain ⟨v3,v4,v5,rfl,s2,hok⟩ := hv.out
   have hi' : i = ps.length := by rw [List.length_map] at hi; omega
   have hall : (ps.zip rows).all (perG dd.toNat ls ruled k0) = true := List.all_eq_true.mpr fun a ha => by
    obtain ⟨j,hj⟩ := List.getElem?_of_mem ha
    have hjl := (List.getElem?_eq_some_iff.mp hj).1
    rw [List.length_zip] at hjl
    exact hok j a (by omega) hj
   rw [hall,Bool.true_and] at eG
   have hrl2 := s2 _ _ hrl
   have hP2 := hP.same s2
   have ht2 := hP2.t
   have tr : (rows.map T).length = rows.length := List.length_map _
   have e1r : decide (1 < ((rows.map T).length : Int)) = decide (1 < rows.length) := decide_eq_decide.mpr (by rw [tr]; omega)
   have plain : (ruled && decide (1 < rows.length)) = false → ∀ H',Same H H' → Q (.bl (filB dd.toNat (k0 :: kr) nds rows)) H' := fun h H' s' => by
    have := q H' s'
    rw [eG,h] at this
    exact this
   cases ruled with
   | false =>
    have plain' := plain rfl
    walk_at "rd"
    intro H3 s3
    exact plain' H3 (s2.trans s3)
   | true =>
    walk_at "rd"
    rw [e1r]
    refine ite2 (fun c1 => ?_) (fun c1 => ?_)
    ·have c1' : 1 < rows.length := of_decide_eq_true c1
     rw [c1,Bool.and_true,Bool.not_true,Bool.false_or] at eG
     have r0 : rows[0]? = some (rows[0]'(by omega)) := List.getElem?_eq_getElem (by omega)
     have r1 : rows[1]? = some (rows[1]'(by omega)) := List.getElem?_eq_getElem (by omega)
     have g0 : rows.getD 0 [] = rows[0]'(by omega) := by rw [List.getD_eq_getElem?_getD,r0]; rfl
     have g1 : rows.getD 1 [] = rows[1]'(by omega) := by rw [List.getD_eq_getElem?_getD,r1]; rfl
     have d0 := hrd _ (List.mem_of_getElem? r0)
     have d1 := hrd _ (List.mem_of_getElem? r1)
     have a0 : atI (rows.map T) 0 = some (T (rows[0]'(by omega))) := J01 (j := 0) (by rw [List.getElem?_map,r0]; rfl)
     have a1 : atI (rows.map T) 1 = some (T (rows[1]'(by omega))) := J01 (j := 1) (by rw [List.getElem?_map,r1]; rfl)
     generalize rows[0]'(by omega) = ra at r0 g0 d0 a0
     generalize rows[1]'(by omega) = rb at r1 g1 d1 a1
     have ra' : ra.length ≤ 1000 := by omega
     have rb' : rb.length ≤ 1000 := by omega
     walk_at "rd"
     refine J1v (n := dd.toNat) (fun j σ H4 => Here (∃ v5,σ = [some (.ref t),some (.ref rl),some (.bl true),v3,v4,v5] ∧ Same H H4 ∧ ∀ d < j,(!decide (mkA ra (0 + (d : Int)) = 45) && decide (mkA ra (0 + (d : Int)) = mkA rb (0 + (d : Int)))) = false)) (Here.mk ⟨_,rfl,s2,fun d hd => absurd hd (Nat.not_lt_zero _)⟩) ?_ ?_
     ·rintro j σ H4 hj hv4
      obtain ⟨v5,rfl,s4,hok4⟩ := hv4.out
      have hrl4 := s4 _ _ hrl
      have ma := J4c (row := ra) (d := 0 + (j : Int)) (by omega) (by omega)
      have mb := J4c (row := rb) (d := 0 + (j : Int)) (by omega) (by omega)
      have yes : (!decide (mkA ra (0 + (j : Int)) = 45) && decide (mkA ra (0 + (j : Int)) = mkA rb (0 + (j : Int)))) = false → ∀ d < j + 1,(!decide (mkA ra (0 + (d : Int)) = 45) && decide (mkA ra (0 + (d : Int)) = mkA rb (0 + (d : Int)))) = false := fun h d hd => by
       by_cases e : d = j
       ·subst e; exact h
       ·exact hok4 d (by omega)
      have bad : (!decide (mkA ra (0 + (j : Int)) = 45) && decide (mkA ra (0 + (j : Int)) = mkA rb (0 + (j : Int)))) = true → ∀ H',Same H H' → Q (.bl false) H' := fun h => qF (by
       rw [eG]
       have : prG dd.toNat rows = false := Bool.eq_false_iff.mpr fun z => by
        unfold prG at z
        rw [g0,g1] at z
        have := List.all_eq_true.mp z j (List.mem_range.mpr hj)
        rw [h] at this
        cases this
       rw [this,Bool.false_and])
      walk_at "rd"
      refine ite2 (fun c2 => ?_) (fun c2 => ?_)
      ·have c2' : ¬ mkA ra (0 + (j : Int)) = 45 := fun z => by rw [z] at c2; exact absurd c2 (by decide)
       walk_at "rd"
       refine ite2 (fun c3 => ?_) (fun c3 => ?_)
       ·have c3' : mkA ra (0 + (j : Int)) = mkA rb (0 + (j : Int)) := by simpa using J1S (of_decide_eq_true c3)
        walk_at "rd"
        exact bad (by rw [decide_eq_false c2',decide_eq_true c3']; rfl) H4 s4
       ·have c3' : ¬ mkA ra (0 + (j : Int)) = mkA rb (0 + (j : Int)) := fun z => c3 (decide_eq_true (by rw [z]))
        walk_at "rd"
        exact Here.mk ⟨_,rfl,s4,yes (by rw [decide_eq_false c3',Bool.and_false])⟩
      ·have c2' : mkA ra (0 + (j : Int)) = 45 := Decidable.byContradiction fun z => c2 (by rw [decide_eq_false fun y => z (by simpa using J1S y)]; rfl)
       walk_at "rd"
       exact Here.mk ⟨_,rfl,s4,yes (by rw [decide_eq_true c2']; rfl)⟩
     ·rintro σ H4 hv4
      obtain ⟨v5,rfl,s4,hok4⟩ := hv4.out
      have hpr : prG dd.toNat rows = true := by
       unfold prG
       rw [g0,g1]
       exact List.all_eq_true.mpr fun d hd => by rw [hok4 d (List.mem_range.mp hd)]; rfl
      rw [hpr,Bool.true_and] at eG
      have hrl4 := s4 _ _ hrl
      have hP4 := hP.same s4
      walk_at "rd"
      intro H3 s3
      have := q H3 (s4.trans s3)
      rw [eG] at this
      exact this
    ·have plain' := plain (by rw [Bool.eq_false_iff.mpr c1]; rfl)
     walk_at "rd"
     intro H3 s3
     exact plain' H3 (s2.trans s3)
end
noncomputable def Jbq (P : Program) (w : World) (K : PySem.W.Frag) (mg : Str → Option Value) (base : Heap) (C1 C2 : Addr) : Sp := fun vs H Q _ => ∃ (t : Addr) (ruled : Bool) (k0 : Nat) (kr : List Nat) (dd : Int) (nds : List Nd) (ps : List Ps) (ls : List (List Nat × Int)) (nl pl ll : Addr) (xs ys zs : List V),vs = [.ref t,.bl ruled] ∧ Pt5 H t dd (k0 :: kr) nds ps ls nl pl ll xs ys zs ∧ (k0 :: kr).length ≤ 3 ∧ ps.length ≤ 5 ∧ (∀ p ∈ ps,p.past = []) ∧ (∀ (i j : Nat) (p p' : Ps),ps[i]? = some p → ps[j]? = some p' → p.nm = p'.nm → i = j) ∧
 ∀ (h : Addr) (H' : Hp) (u5 u6 : List V) (rls : List Ru) (prs : List Pr),Same H H' → Hq C1 C2 H' h dd (k0 :: kr) nds ps ls u5 u6 → HouQ C1 C2 H' h (ps.map p2) [] → All2 (RuT P w K mg base) H' rls u5 → All2 PrT H' prs u6 → rls.length ≤ 6 → prs.length ≤ 2 → (∀ p ∈ prs,PrIn ps p) → RPs ruled k0 ps rls prs → Q (.ref h) H'
section
variable {P : Program} {w : World} {K : PySem.W.Frag} {mg : Str → Option Value} {base : Heap} {Jg J7 J4 Ji J1 J2 Jk Jc Ja Jb Jf J9 : Addr}
theorem J95 (tx : Tx K mg Jg J7 J4 Ji J1 J2 Jk Jc Ja Jb Jf J9) : FnG P w K mg base "_law_house" 4 ["_law_parts","_law_ruled"] (Jbq P w K mg base J7 J4) := by
 have J9p := tx.J0n.g (J7C (P := P) (w := w) (base := base) tx)
 have JaP := tx.JN.g (J8y (P := P) (w := w) (base := base) tx)
 have JaO := tx.J3k.g (J8E (P := P) (w := w) (base := base) tx)
 refine tx.J9b.g J20 (fun _ _ _ _ _ _ us hl => match us,hl with | [_,_],_ => rfl) (fun vs H Q E h => ?_) (fun f cdv A outer s H vs Q E hr h => ?_)
 ·obtain ⟨t,ruled,k0,kr,dd,nds,ps,ls,nl,pl,ll,xs,ys,zs,rfl,_⟩ := h
  rfl
 ·obtain ⟨t,ruled,k0,kr,dd,nds,ps,ls,nl,pl,ll,xs,ys,zs,rfl,hP,k3,p5,hpast,hun,q⟩ := h
  refine ⟨_,(J6 (J3o (k := 2) (osc := J3 J1K) (ON := ["_law_parts","_law_ruled","_law_people","_law_rules","_law_pairs"]) (N := ["_law_name","_law_skills","_law_most","_law_carried"]) (js := [none,none,none,none]) J20.nd rfl (Or.inl rfl) ⟨rfl,by decide +kernel,by decide +kernel,by decide +kernel,rfl,by decide +kernel⟩ rfl rfl rfl (JZ (K := K) rfl (Jo (JC (K := K) rfl) (pv 0) J8 (fun _ _ => rfl))) (fun _ _ _ _ _ => J8N (K := K) (n := 4) rfl rfl (JE (Jm (i := 0) (show List.Nodup (["_law_name","_law_skills","_law_most","_law_carried"] : List Str) from by decide +kernel) rfl (Or.inl rfl)) (JE (Jm (i := 1) (show List.Nodup (["_law_name","_law_skills","_law_most","_law_carried"] : List Str) from by decide +kernel) rfl (Or.inl rfl)) (JE (Jm (i := 2) (show List.Nodup (["_law_name","_law_skills","_law_most","_law_carried"] : List Str) from by decide +kernel) rfl (Or.inl rfl)) (JE (Jm (i := 3) (show List.Nodup (["_law_name","_law_skills","_law_most","_law_carried"] : List Str) from by decide +kernel) rfl (Or.inl rfl)) J1z))))) (fun _ _ _ _ _ => J0b) (fun _ _ _ _ _ => (J3t (r := rPer J7) J9p (hr.mono (by decide)) Jf5 (J0 (pv 0) (J0 (pv 1) (J0 (pv 2) (J0 (pv 3) (J0 (JU (l := []) (by decide +kernel)) J5))))))))
   (J6 (Jq (i := 3) J20.nd rfl (Or.inl rfl) (J0X J5))
   (J6 (Jq (i := 4) J20.nd rfl (Or.inl rfl) (J0X J5))
   (J6 (J3N (J0E (J3T (pv 1)) (J6 (Jq (i := 3) J20.nd rfl (Or.inl rfl) (J0X (J0 (J0t (J0 (JU (l := [97,108,108]) (by decide +kernel)) (J0 (J3t (r := rNev Jg) JaO (hr.mono (by decide)) Jfm (J0 (Jl J9Q (Jo J09 (Jo (JC (K := K) rfl) (pv 0) J8 (fun _ _ => rfl)) J8 (fun _ _ => rfl)) J8) J5)) J5))) J5)))
   (Jh (J0E (Js J3Q (Ju (JD (K := K) rfl) rfl tx.J0g PySem.boot_len (J0 (pv 2) J5)) J8 (Jw _)) (Jh (Jq (i := 4) J20.nd rfl (Or.inl rfl) (J0X (J0 (J0t (J0 (JU (l := [97,112,97,114,116]) (by decide +kernel)) (J0 (Jo (JC (K := K) rfl) (Jo (Jy (K := K) rfl) (Jo (JC (K := K) rfl) (pv 0) J8 (fun _ _ => rfl)) J8 (fun _ _ => rfl)) J8 (fun _ _ => rfl)) (J0 (Jo (JC (K := K) rfl) (Jo (Jy (K := K) rfl) (Jo (JC (K := K) rfl) (pv 0) J8 (fun _ _ => rfl)) J8 (fun _ _ => rfl)) J8 (fun _ _ => rfl)) J5)))) J5)))) JK))) JK))
   (Jh (Jv (J3t (r := rHou J4) JaP (hr.mono (by decide)) JeY (J0 (Jo (JC (K := K) rfl) (pv 0) J8 (fun _ _ => rfl)) (J0 (Jo (JC (K := K) rfl) (pv 0) J8 (fun _ _ => rfl)) (J0 (JX JI rfl tx.J13 JT (J0 (Jo (JC (K := K) rfl) (pv 0) J8 (fun _ _ => rfl)) J5)) (J0 (pv 2) (J0 (JX JI rfl tx.J13 JT (J0 (Jo (JC (K := K) rfl) (pv 0) J8 (fun _ _ => rfl)) J5)) (J0 (J0X J5) (J0 (pv 3) (J0 (pv 4) J5))))))))))))))),?_⟩
  walk_at "st"
  clear J9p JaP JaO
  obtain ⟨x0,x1,x2,x3,x4⟩ := tup5 (.int dd) (T (k0 :: kr)) (.ref nl) (.ref pl) (.ref ll)
  have ht := hP.t
  have hpl := hP.p
  have qpl : SqL K H pl ys := SqL.of hpl
  have k3' : (k0 :: kr).length ≤ 1000 := by omega
  have uk : atI (k0 :: kr) 0 = some k0 := J01 (j := 0) rfl
  walk_at "rd"
  refine JF ps (fun _ => true) (PsO J7) (fun σ => ∃ v1 v2 v3 v4,σ = [v1,v2,v3,v4]) (JL (SqL.of hpl)) hP.pa.len (by omega) ⟨_,_,_,_,rfl⟩ PsO.keeps (fun i p v σ H' hp hv hσ s' Rf Rt _ hR => ?_) (fun D H2 us nD s2 hus hD => ?_)
  ·obtain ⟨v1,v2,v3,v4,rfl⟩ := hσ
   obtain ⟨p',hp',t1,rfl,ht1⟩ := hP.pa.back hv
   rw [hp] at hp'
   cases hp'
   have hpa := hpast p (List.mem_of_getElem? hp)
   have ht1' := s' _ _ ht1
   walk_at "rd"
   intro pp H3 s3 npp hper
   exact hR _ _ _ rfl ⟨_,_,_,_,rfl⟩ s3 ⟨pp,rfl,by rw [hpa]; exact hper⟩
  rw [List.filter_eq_self.mpr fun _ _ => rfl] at hus
  have hul := hus.len
  have hP2 := hP.same s2
  clear hP ht hpl qpl
  walk_at "rd"
  intro r5 f5
  obtain ⟨H3,e3,y5,s3⟩ := newl (xs := []) f5
  rw [← e3]
  walk_at "rd"
  intro r6 f6
  obtain ⟨H4,e4,y6,s4⟩ := newl (xs := []) f6
  rw [← e4]
  have S4 := s3.trans s4
  have y54 := s4 _ _ y5
  have hP4 := hP2.same S4
  have hD4 := S4 _ _ hD
  refine tCut.mk (fun σ' H' => Here (∃ (r5 r6 : Addr) (u5 u6 : List V) (rls : List Ru) (prs : List Pr),σ' = [some (.ref t),some (.bl ruled),some (.ref D),some (.ref r5),some (.ref r6)] ∧ Same H2 H' ∧ H' r5 = some (.lst u5) ∧ H' r6 = some (.lst u6) ∧ All2 (RuT P w K mg base) H' rls u5 ∧ All2 PrT H' prs u6 ∧ rls.length ≤ 6 ∧ prs.length ≤ 2 ∧ (∀ p ∈ prs,PrIn ps p) ∧ RPs ruled k0 ps rls prs)) ?_ ?_
  ·cases ruled with
   | false =>
    walk_at "rd"
    exact Here.mk ⟨r5,r6,[],[],[],[],rfl,S4,y54,y6,trivial,trivial,Nat.zero_le _,Nat.zero_le _,fun p h => (by cases h),⟨rfl,by rw [if_neg fun z => Bool.false_ne_true z.1]⟩⟩
   | true =>
    have ht4 := hP4.t
    walk_at "rd"
    intro pn H5 s5 hnev
    have hBad := Je7 (P := P) (w := w) (base := base) tx hnev (by show 2 ≤ 1000; omega)
    walk_at "rd"
    intro t5 ft5
    obtain ⟨H6,e6,yt5,s6⟩ := newt (xs := [T wAll,V.ref pn]) ft5
    have e6' : upd H5 t5 (.tup [T wAll,V.ref pn]) = H6 := e6.symm
    rw [e6']
    walk_at "rd"
    intro l5 fl5
    obtain ⟨H7,e7,yl5,s7⟩ := newl (xs := [V.ref t5]) fl5
    rw [← e7]
    have S67 := s6.trans s7
    have hRu : All2 (RuT P w K mg base) H7 [⟨wAll,nevB [k0,k0]⟩] [V.ref t5] := ⟨⟨t5,pn,rfl,s7 _ _ yt5,hBad.keeps S67.keeps⟩,trivial⟩
    have hD7 := (s5.trans S67) _ _ hD4
    have y67 := (s5.trans S67) _ _ y6
    have hP7 := hP4.same (s5.trans S67)
    have ht7 := hP7.t
    have hpl7 := hP7.p
    have S7 := S4.trans (s5.trans S67)
    walk_at "rd"
    rw [hul]
    refine ite2 (fun c => ?_) (fun c => ?_)
    ·have c' : 1 < ps.length := by have := of_decide_eq_true c; omega
     have h0 : ps[0]? = some (ps[0]'(by omega)) := List.getElem?_eq_getElem (by omega)
     have h1 : ps[1]? = some (ps[1]'(by omega)) := List.getElem?_eq_getElem (by omega)
     generalize ps[0]'(by omega) = pa at h0
     generalize ps[1]'(by omega) = pb at h1
     obtain ⟨ya,hya,ta,rfl,hta⟩ := hP7.pa.get h0
     obtain ⟨yb,hyb,tb,rfl,htb⟩ := hP7.pa.get h1
     have ia : atI ys 0 = some (.ref ta) := J01 (j := 0) hya
     have ib : atI ys 1 = some (.ref tb) := J01 (j := 1) hyb
     obtain ⟨ba,_⟩ := tup4 (T pa.nm) (T pa.sk) (.int pa.most) (.int pa.car)
     obtain ⟨bb,_⟩ := tup4 (T pb.nm) (T pb.sk) (.int pb.most) (.int pb.car)
     walk_at "rd"
     intro t6 ft6
     obtain ⟨H8,e8,yt6,s8⟩ := newt (xs := [T J36,T pa.nm,T pb.nm]) ft6
     have e8' : upd H7 t6 (.tup [T J36,T pa.nm,T pb.nm]) = H8 := e8.symm
     rw [e8']
     walk_at "rd"
     intro l6 fl6
     obtain ⟨H9,e9,yl6,s9⟩ := newl (xs := [V.ref t6]) fl6
     rw [← e9]
     walk_at "rd"
     have hPr : All2 PrT H9 [(⟨J36,pa.nm,pb.nm,0,1⟩ : Pr)] [V.ref t6] := ⟨⟨t6,rfl,s9 _ _ yt6⟩,trivial⟩
     have hin : PrIn ps ⟨J36,pa.nm,pb.nm,0,1⟩ := by
      refine ⟨⟨by rw [List.getElem?_map,h0]; rfl,fun j hj => absurd hj (Nat.not_lt_zero _)⟩,by rw [List.getElem?_map,h1]; rfl,fun j hj z => ?_⟩
      have hj0 : j = 0 := by have : j < 1 := hj; omega
      subst hj0
      rw [List.getElem?_map,h0] at z
      have z' : pa.nm = pb.nm := Option.some.inj z
      have := hun 0 1 pa pb h0 h1 z'
      omega
     exact Here.mk ⟨l5,l6,_,_,_,_,rfl,(S7.trans s8).trans s9,(s8.trans s9) _ _ yl5,yl6,hRu.imp fun a y => RuT.keeps a y _ _ (s8.trans s9).keeps,hPr,by show 1 ≤ 6; omega,by show 1 ≤ 2; omega,fun p hp => by rw [List.mem_singleton.mp hp]; exact hin,⟨rfl,by rw [if_pos ⟨rfl,c'⟩]; exact ⟨_,_,rfl⟩⟩⟩
    ·have c' : ¬ 1 < ps.length := fun z => c (decide_eq_true (by omega))
     walk_at "rd"
     exact Here.mk ⟨l5,r6,_,[],_,[],rfl,S7,yl5,y67,hRu,trivial,by show 1 ≤ 6; omega,Nat.zero_le _,fun p h => (by cases h),⟨rfl,by rw [if_neg fun z => c' z.2]⟩⟩
  clear y6 y54 y5 hP4 hD4 S4
  rintro σ' H5 hv'
  obtain ⟨r5,r6,u5,u6,rls,prs,rfl,s5,y5,y6,hRu,hPr,r6',p2',hin,hRP⟩ := hv'.out
  have hP5 := hP2.same s5
  have ht5 := hP5.t
  have hnl5 := hP5.n
  have hD5 := s5 _ _ hD
  walk_at "rd"
  intro b1 f1
  obtain ⟨H6,e6,z1,s6⟩ := newl (xs := xs) f1
  rw [← e6]
  have hP6 := hP5.same s6
  have ht6 := hP6.t
  have hll6 := hP6.l
  walk_at "rd"
  intro b3 f3
  obtain ⟨H7,e7,z3,s7⟩ := newl (xs := zs) f3
  rw [← e7]
  walk_at "rd"
  intro b4 f4
  obtain ⟨H8,e8,z4,s8⟩ := newl (xs := []) f4
  rw [← e8]
  have S78 := s7.trans s8
  have S68 := s6.trans S78
  have hD8 := S68 _ _ hD5
  have z18 := S78 _ _ z1
  have z38 := s8 _ _ z3
  have y58 := S68 _ _ y5
  have y68 := S68 _ _ y6
  have hP8 := hP6.same S78
  walk_at "rd"
  intro ho Hb a1 a2 a3 a4 a5 a6 sb hHo w1 w2 w3 w4 w5 w6 _ _ _ _ _ _
  have hPb := hP8.same sb
  have husb := hus.imp fun a y => PsO.keeps a y _ _ ((s5.trans S68).trans sb).keeps
  exact q ho Hb u5 u6 rls prs ((s2.trans s5).trans (S68.trans sb)) ⟨a1,a2,a3,a4,a5,a6,xs,us,zs,[],hHo,w1,hPb.na,w2,husb,w3,hPb.la,w4,w5,w6⟩ ⟨_,_,a1,a2,a3,a4,a5,a6,us,[],hHo,w2,All2.mapL (P := PerQ J7) (husb.imp fun a y ⟨b,e,h⟩ => ⟨b,_,_,_,e,h⟩),w4,trivial⟩ (hRu.imp fun a y => RuT.keeps a y _ _ (S68.trans sb).keeps) (hPr.imp fun a y => PrT.keeps a y _ _ (S68.trans sb).keeps) r6' p2' hin hRP
end
noncomputable abbrev fT (way : Int) (W : List Wi) (ps : List Ps) (lv : Int) : Nat → List Nat → Int := fun p row => cntC way W ps lv (p : Int) (dut row : Int)
noncomputable abbrev gT (way : Int) (W : List Wi) (old : List (List Nat)) : Nat → Nat → Nat → Int := fun p d c => mrkC way W old (p : Int) (d : Int) c
noncomputable def perT (way lv : Int) (W : List Wi) (ps : List Ps) (old : List (List Nat)) (p : Nat) (row : List Nat) : Int := fT way W ps lv p row + (if way = 3 then rowN (gT way W old) p row row.length else 0)
theorem Je3 (way lv : Int) (W : List Wi) (ps : List Ps) (old rows : List (List Nat)) (hW : ∀ w ∈ W,WIn rows w) : ((List.range rows.length).map fun p => perT way lv W ps old p (rows.getD p [])).sum + (if way = 1 then ((unm W rows : Nat) : Int) else (0 : Int)) = totN (fT way W ps lv) (gT way W old) rows rows.length := by
 rw [JbU]
 have e1 : ((List.range rows.length).map fun p => perT way lv W ps old p (rows.getD p [])).sum = ((List.range rows.length).map fun p => fT way W ps lv p (rows.getD p [])).sum + ((List.range rows.length).map fun p => if way = 3 then rowN (gT way W old) p (rows.getD p []) (rows.getD p []).length else 0).sum := J2z _ _ _
 rw [e1]
 by_cases h1 : way = 1
 ·have e := J9B rows W W.length (Nat.le_refl _) hW
  rw [List.take_of_length_le (Nat.le_refl _)] at e
  rw [if_pos h1,J2k _ _ fun p _ => if_neg (by omega),Int.add_zero,← e]
  congr 2
  refine List.map_congr_left fun p _ => ?_
  unfold rowN
  congr 1
  refine List.map_congr_left fun d _ => ?_
  show _ = mrkC way W old (p : Int) (d : Int) _
  unfold mrkC
  rw [if_pos h1,Int.toNat_natCast,Int.toNat_natCast]
 ·rw [if_neg h1,Int.add_zero]
  congr 2
  refine List.map_congr_left fun p _ => ?_
  by_cases h3 : way = 3
  ·rw [if_pos h3]
  ·rw [if_neg h3]
   refine (J2k _ _ fun d _ => ?_).symm
   show mrkC way W old (p : Int) (d : Int) _ = 0
   unfold mrkC
   rw [if_neg h1,if_neg fun z => h3 z.1]
theorem Jea {old : List (List Nat)} {W : List Wi} {p : Nat} {row : List Nat} : ((((List.range row.length).filter fun (d : Nat) => !decide (row.getD d 0 = (old.getD p []).getD d 0)).length : Nat) : Int) = rowN (gT 3 W old) p row row.length := by
 unfold rowN
 generalize row.length = n
 induction n with
 | zero => rfl
 | succ n ih =>
  rw [List.range_succ,List.filter_append,List.length_append,List.map_append,List.sum_append,← ih,Int.natCast_add]
  congr 1
  rw [List.map_singleton,List.sum_singleton,List.filter_cons]
  have hm : ∀ x,mrkC 3 W old (p : Int) (n : Int) x = if (old.getD p []).getD n 0 = x then 0 else 1 := fun x => by
   unfold mrkC
   rw [if_neg (show ¬ (3 : Int) = 1 by decide),Int.toNat_natCast,Int.toNat_natCast]
   by_cases z : (old.getD p []).getD n 0 = x
   ·rw [if_neg fun y => y.2 z,if_pos z]
   ·rw [if_pos ⟨rfl,z⟩,if_neg z]
  show _ = mrkC 3 W old (p : Int) (n : Int) (row.getD n 0)
  rw [hm]
  by_cases h : row.getD n 0 = (old.getD p []).getD n 0
  ·rw [if_neg (show ¬ (!decide (row.getD n 0 = (old.getD p []).getD n 0)) = true by rw [decide_eq_true h]; decide),if_pos h.symm]
   rfl
  ·rw [if_pos (show (!decide (row.getD n 0 = (old.getD p []).getD n 0)) = true by rw [decide_eq_false h]; rfl),if_neg fun z => h z.symm]
   rfl
noncomputable def wyF (way : Int) : Int := if way = 0 then 0 else way + 1
noncomputable def Jbj : Sp := fun vs H Q _ => ∃ (way lv : Int) (t rl ol : Addr) (dd : Int) (ks : List Nat) (nds : List Nd) (ps : List Ps) (ls : List (List Nat × Int)) (nl pl ll : Addr) (xs ys zs : List V) (rows old : List (List Nat)),vs = [.int way,.ref t,.ref rl,.int lv,.ref ol] ∧ 0 ≤ way ∧ way ≤ 2 ∧ Pt5 H t dd ks nds ps ls nl pl ll xs ys zs ∧ dd ≤ 7 ∧ ps.length ≤ 5 ∧ H rl = some (.lst (rows.map T)) ∧ rows.length = ps.length ∧ (∀ r ∈ rows,(r.length : Int) = dd) ∧ H ol = some (.lst (old.map T)) ∧ old.length = ps.length ∧ (∀ r ∈ old,(r.length : Int) = dd) ∧ ∀ H',Same H H' → Q (.int (totN (fT (wyF way) [] ps lv) (gT (wyF way) [] old) rows rows.length)) H'
section
variable {P : Program} {w : World} {K : PySem.W.Frag} {mg : Str → Option Value} {base : Heap} {Jg J7 J4 Ji J1 J2 Jk Jc Ja Jb Jf J9 : Addr}
theorem J9v (tx : Tx K mg Jg J7 J4 Ji J1 J2 Jk Jc Ja Jb Jf J9) : FnG P w K mg base "_law_total" 2 ["_law_way","_law_parts","_law_rows","_law_level","_law_old"] Jbj := by
 have J0O := J3l (P := P) (w := w) (base := base) tx
 refine tx.J9j.g J22 (fun _ _ _ _ _ _ us hl => match us,hl with | [_,_,_,_,_],_ => rfl) (fun vs H Q E h => ?_) (fun f cdv A outer s H vs Q E hr h => ?_)
 ·obtain ⟨way,lv,t,rl,ol,dd,ks,nds,ps,ls,nl,pl,ll,xs,ys,zs,rows,old,rfl,_⟩ := h
  rfl
 ·obtain ⟨way,lv,t,rl,ol,dd,ks,nds,ps,ls,nl,pl,ll,xs,ys,zs,rows,old,rfl,w0,w2,hP,dd7,hp5,hrl,hrn,hrd,hol,hon,hod,q⟩ := h
  refine ⟨_,(J6 (Jq (i := 5) J22.nd rfl (Or.inl rfl) J8)
   (J6 (J0G PassesOwn.never rfl (J03 rfl tx.J0i (J0 (Ju (JD (K := K) rfl) rfl tx.J0g PySem.boot_len (J0 (pv 2) J5)) J5)) (Jm (i := 6) J22.nd rfl (Or.inr rfl)) (J6 (Jq (i := 7) J22.nd rfl (Or.inl rfl) (Jl J00 (Jo (JC (K := K) rfl) (Jo (Jy (K := K) rfl) (Jo (JC (K := K) rfl) (pv 1) J8 (fun _ _ => rfl)) (pv 6) (fun _ _ => rfl)) J8 (fun _ _ => rfl)) (JO J0O (hr.mono (by decide)) (J0 (Jo (Jy (K := K) rfl) (pv 2) (pv 6) (fun _ _ => rfl)) J5))))
   (J6 (J3N (J0E (Js J0P (pv 0) J8 (Jw _)) (Jh (Jq (i := 5) J22.nd rfl (Or.inl rfl) (Jl J00 (pv 5) (Ju (J5B rfl) rfl tx.J6D JaD (J0 J8 (J0 (Jl J3M (pv 7) (pv 3)) J5)))))) JK))
   (Jh (J3N (J0E (Js J0P (pv 0) J8 (Jw _)) (Jh (Jq (i := 5) J22.nd rfl (Or.inl rfl) (Jl J00 (pv 5) (Ju (JD (K := K) rfl) rfl tx.J0g PySem.boot_len (J0 (JP (osc := J3 J1L) (ON := ["_law_way","_law_parts","_law_rows","_law_level","_law_old","_law_whole","_law_p","_law_load"]) (N := ["_law_day","_law_rows","_law_p","_law_old"]) (js := [none,some 2,some 6,some 4]) ⟨rfl,by decide +kernel,by decide +kernel,by decide +kernel,rfl,by decide +kernel⟩ rfl rfl rfl (J03 rfl tx.J0i (J0 (Jo (JC (K := K) rfl) (pv 1) J8 (fun _ _ => rfl)) J5)) (fun _ _ _ _ _ => Jm (i := 0) (show List.Nodup (["_law_day","_law_rows","_law_p","_law_old"] : List Str) from by decide +kernel) rfl (Or.inl rfl)) (fun _ _ _ _ _ => J0o (Js J2U (Jo J09 (Jo (Jy (K := K) rfl) (pv 1) (pv 2) (fun _ _ => rfl)) (pv 0) (fun _ _ => rfl)) (Jo J09 (Jo (Jy (K := K) rfl) (pv 3) (pv 2) (fun _ _ => rfl)) (pv 0) (fun _ _ => rfl)) (Jw _))) (fun _ _ _ _ _ => (pv 0))) J5))))) JK))))))
   (Jh (Jv (pv 5))))),?_⟩
  walk_at "st"
  clear J0O
  obtain ⟨x0,x1,x2,x3,x4⟩ := tup5 (.int dd) (T ks) (.ref nl) (.ref pl) (.ref ll)
  have tr : (rows.map T).length = rows.length := List.length_map _
  have e1 : ¬ wyF way = 1 := fun z => by unfold wyF at z; split at z <;> omega
  have e2 : wyF way = 2 ↔ way = 1 := by unfold wyF; split <;> omega
  have e3 : wyF way = 3 ↔ way = 2 := by unfold wyF; split <;> omega
  have hT := Je3 (wyF way) lv [] ps old rows (fun w hw => by cases hw)
  rw [if_neg e1,Int.add_zero] at hT
  walk_at "rd"
  rw [tr]
  refine J1v (n := rows.length) (fun i σ H2 => Here (∃ v7 v8,σ = [some (.int way),some (.ref t),some (.ref rl),some (.int lv),some (.ref ol),some (.int ((List.range i).map fun p => perT (wyF way) lv [] ps old p (rows.getD p [])).sum),v7,v8] ∧ Same H H2)) (Here.mk ⟨_,_,rfl,Same.refl _⟩) ?_ ?_
  ·rintro i σ H2 hi hv
   obtain ⟨v7,v8,rfl,s2⟩ := hv.out
   have hil : i < ps.length := by omega
   have hn : ps[i]? = some (ps[i]'hil) := List.getElem?_eq_getElem hil
   have hr1 : rows[i]? = some (rows[i]'hi) := List.getElem?_eq_getElem hi
   have ho1 : old[i]? = some (old[i]'(by omega)) := List.getElem?_eq_getElem (by omega)
   have hrlen := hrd _ (List.mem_of_getElem? hr1)
   have holen := hod _ (List.mem_of_getElem? ho1)
   generalize ps[i]'hil = n at hn
   generalize rows[i]'hi = row at hr1 hrlen
   generalize old[i]'(by omega) = orow at ho1 holen
   have hsum : ((List.range (i + 1)).map fun p => perT (wyF way) lv [] ps old p (rows.getD p [])).sum = ((List.range i).map fun p => perT (wyF way) lv [] ps old p (rows.getD p [])).sum + perT (wyF way) lv [] ps old i row := by
    rw [List.range_succ,List.map_append,List.sum_append,List.map_singleton,List.sum_singleton,List.getD_eq_getElem?_getD,hr1]
    rfl
   generalize ((List.range i).map fun p => perT (wyF way) lv [] ps old p (rows.getD p [])).sum = S0 at hsum ⊢
   generalize ((List.range (i + 1)).map fun p => perT (wyF way) lv [] ps old p (rows.getD p [])).sum = S1 at hsum ⊢
   have hP2 := hP.same s2
   have ht2 := hP2.t
   have hpl2 := hP2.p
   have hrl2 := s2 _ _ hrl
   obtain ⟨y,hy,tp,rfl,htp⟩ := hP2.pa.get hn
   have hix : atI ys (0 + (i : Int)) = some (.ref tp) := by rw [Int.zero_add]; exact J01 hy
   have hir : atI (rows.map T) (0 + (i : Int)) = some (T row) := by rw [Int.zero_add]; exact J01 (by rw [List.getElem?_map,hr1]; rfl)
   have hio : atI (old.map T) (0 + (i : Int)) = some (T orow) := by rw [Int.zero_add]; exact J01 (by rw [List.getElem?_map,ho1]; rfl)
   obtain ⟨y0,y1,y2,y3⟩ := tup4 (T n.nm) (T n.sk) (.int n.most) (.int n.car)
   have hrow' : row.length ≤ 1000 := by omega
   have horow' : orow.length ≤ 1000 := by omega
   have hper : perT (wyF way) lv [] ps old i row = (if way = 1 then (if 0 < n.car + (dut row : Int) - lv then n.car + (dut row : Int) - lv else 0) else 0) + (if way = 2 then rowN (gT 3 [] old) i row row.length else 0) := by
    unfold perT
    show cntC (wyF way) [] ps lv (i : Int) (dut row : Int) + _ = _
    unfold cntC
    rw [Int.toNat_natCast,List.getD_eq_getElem?_getD,hn]
    simp only [Option.getD_some]
    generalize n.car + (dut row : Int) = L
    rw [if_neg e1]
    congr 1
    ·by_cases h1 : way = 1
     ·rw [if_pos h1]
      by_cases h3 : L > lv
      ·rw [if_pos ⟨e2.mpr h1,h3⟩,if_pos (show 0 < L - lv by omega)]
      ·rw [if_neg fun z => h3 z.2,if_neg (show ¬ 0 < L - lv by omega)]
     ·rw [if_neg h1,if_neg fun z => h1 (e2.mp z.1)]
    ·by_cases h2 : way = 2
     ·rw [if_pos h2,if_pos (e3.mpr h2),e3.mpr h2]
     ·rw [if_neg h2,if_neg fun z => h2 (e3.mp z)]
   rw [hper] at hsum
   clear hper
   walk_at "rd"
   intro H3 s3
   have S3 := s2.trans s3
   walk_at "rd"
   refine tCut.mk (fun σ' H' => Here (σ' = [some (.int way),some (.ref t),some (.ref rl),some (.int lv),some (.ref ol),some (.int (S0 + (if way = 1 then (if 0 < n.car + (dut row : Int) - lv then n.car + (dut row : Int) - lv else 0) else 0))),some (.int (0 + (i : Int))),some (.int (n.car + (dut row : Int)))] ∧ H' = H3)) ?_ ?_
   ·walk_at "rd"
    refine ite2 (fun e => ?_) (fun e => ?_)
    ·have e' : way = 1 := V.int.inj (of_decide_eq_true e)
     walk_at "rd"
     exact Here.mk ⟨by rw [if_pos e'],rfl⟩
    ·have e' : ¬ way = 1 := fun z => e (decide_eq_true (by rw [z]))
     exact Here.mk ⟨by rw [if_neg e',Int.add_zero],rfl⟩
   rintro σ' H' hv'
   obtain ⟨rfl,eH⟩ := hv'.out
   rw [eH]
   clear hv' eH
   generalize n.car + (dut row : Int) = L at hsum ⊢
   generalize (if way = 1 then (if 0 < L - lv then L - lv else 0) else 0) = A1 at hsum ⊢
   have ht3 := S3 _ _ hP.t
   have hrl3 := S3 _ _ hrl
   have hol3 := S3 _ _ hol
   refine tCut.mk (fun σ' H' => Here (σ' = [some (.int way),some (.ref t),some (.ref rl),some (.int lv),some (.ref ol),some (.int S1),some (.int (0 + (i : Int))),some (.int L)] ∧ Same H H')) ?_ ?_
   ·walk_at "rd"
    refine ite2 (fun e => ?_) (fun e => ?_)
    ·have e' : way = 2 := V.int.inj (of_decide_eq_true e)
     walk_at "rd"
     refine JF (List.range dd.toNat) (fun (d : Nat) => !decide (row.getD d 0 = (old.getD i []).getD d 0)) (fun _ _ _ => True) (fun σ => ∃ v,σ = [v,some (.ref rl),some (.int (0 + (i : Int))),some (.ref ol)]) (J1O 0 dd.toNat) (by rw [List.length_map]) (by rw [List.length_range]; omega) ⟨_,rfl⟩ (fun _ _ _ _ _ z => z) (fun i' d v σ H' hd hv hσ s' Rf Rt hF hR => ?_) (fun D H4 us nD s4 hus hD => ?_)
     ·obtain ⟨w1,rfl⟩ := hσ
      rw [List.getElem?_map,hd] at hv
      cases hv
      have hd' : d < row.length := by have := List.mem_range.mp (List.mem_of_getElem? hd); omega
      have g1 := J8T (l := row) hd'
      have g2 := J8T (l := orow) (i := d) (by omega)
      have eo : (old.getD i []).getD d 0 = orow.getD d 0 := by rw [List.getD_eq_getElem?_getD (l := old),ho1,Option.getD_some]
      have hrl' := s' _ _ hrl3
      have hol' := s' _ _ hol3
      have dec : (!decide (row.getD d 0 = (old.getD i []).getD d 0)) = !decide (T [row.getD d 0] = T [orow.getD d 0]) := by
       rw [eo]
       congr 1
       exact decide_eq_decide.mpr ⟨fun z => by rw [z],fun z => by simpa using J1S z⟩
      walk_at "rd"
      refine ite2 (fun c => ?_) (fun c => ?_)
      ·walk_at "rd"
       exact hR _ _ _ (dec.trans c) ⟨_,rfl⟩ (Same.refl _) trivial
      ·exact hF _ _ (dec.trans (Bool.eq_false_iff.mpr c)) ⟨_,rfl⟩ (Same.refl _)
     have hul := hus.len
     rw [show dd.toNat = row.length by omega] at hul
     have hcl := Jea (old := old) (W := []) (p := i) (row := row)
     rw [← hul] at hcl
     walk_at "rd"
     refine Here.mk ⟨?_,S3.trans s4⟩
     rw [hcl,hsum,if_pos e',Int.add_assoc]
    ·have e' : ¬ way = 2 := fun z => e (decide_eq_true (by rw [z]))
     exact Here.mk ⟨by rw [hsum,if_neg e',Int.add_zero],S3⟩
   rintro σ' H' hv'
   obtain ⟨rfl,s'⟩ := hv'.out
   exact Here.mk ⟨_,_,rfl,s'⟩
  ·rintro σ H2 hv
   obtain ⟨v7,v8,rfl,s2⟩ := hv.out
   rw [hT]
   walk_at "rd"
   exact q H2 s2
end
noncomputable def PpAt (C1 C2 C3 : Addr) (x : V) (H : Hp) : Prop := (∃ (pp dx a b : Addr) (prs ods : List Int),x = .ref pp ∧ H pp = some (.ins C1 dx (fPr (.ref a) (.ref b))) ∧ H a = some (.lst (prs.map V.int)) ∧ H b = some (.lst (ods.map V.int))) ∨ (∃ (pp dx : Addr),x = .ref pp ∧ H pp = some (.ins C2 dx [])) ∨ (∃ (pp dx a : Addr) (pc : List (Int × List Nat)) (as : List V),x = .ref pp ∧ H pp = some (.ins C3 dx [("places",.ref a)]) ∧ H a = some (.lst as) ∧ All2 PlT H pc as ∧ pc.length ≤ 100)
theorem J8I : ∀ {ys : List V},(∀ y ∈ ys,∃ z,y = V.int z) → ∃ zs : List Int,ys = zs.map V.int
 | [],_ => ⟨[],rfl⟩
 | y :: ys,h => by
  obtain ⟨z,rfl⟩ := h y List.mem_cons_self
  obtain ⟨zs,e⟩ := J8I (ys := ys) fun z hz => h z (List.mem_cons_of_mem _ hz)
  exact ⟨z :: zs,by rw [e]; rfl⟩
noncomputable def Jdy : Sp := fun vs H Q _ => ∃ (rl : Addr) (c dd : Int) (ks : List Nat) (rows : List (List Nat)),vs = [.ref rl,.int c,T ks] ∧ H rl = some (.lst (rows.map T)) ∧ rows.length ≤ 5 ∧ ks.length ≤ 3 ∧ 1 ≤ dd ∧ dd ≤ 7 ∧ (∀ r ∈ rows,(r.length : Int) = dd) ∧ ∀ (a : Addr) (H' : Hp) (rows' : List (List Nat)),Same H H' → H a = none → H' a = some (.lst (rows'.map T)) → rows'.length = rows.length → (∀ r ∈ rows',(r.length : Int) = dd) → Q (.ref a) H'
noncomputable def Jcb (C1 C2 C3 : Addr) : Sp := fun vs H Q _ => ∃ (c : Int) (t : Addr) (dd : Int) (ks : List Nat) (nds : List Nd) (ps : List Ps) (ls : List (List Nat × Int)) (nl pl ll : Addr) (xs ys zs : List V),vs = [.int c,.ref t] ∧ Pt5 H t dd ks nds ps ls nl pl ll xs ys zs ∧ nds.length ≤ 21 ∧ ps.length ≤ 5 ∧ ∀ (pp : Addr) (H' : Hp),Same H H' → PpAt C1 C2 C3 (.ref pp) H' → Q (.ref pp) H'
section
variable {P : Program} {w : World} {K : PySem.W.Frag} {mg : Str → Option Value} {base : Heap} {Jg J7 J4 Ji J1 J2 Jk Jc Ja Jb Jf J9 : Addr}
theorem J7u (tx : Tx K mg Jg J7 J4 Ji J1 J2 Jk Jc Ja Jb Jf J9) : FnG P w K mg base "_law_changed" 1 ["_law_rows","_law_cell","_law_kinds_here"] Jdy := by
 refine tx.J7F.g J1J (fun _ _ _ _ _ _ us hl => match us,hl with | [_,_,_],_ => rfl) (fun vs H Q E h => ?_) (fun f cdv A outer s H vs Q E hr h => ?_)
 ·obtain ⟨rl,c,dd,ks,rows,rfl,_⟩ := h
  rfl
 ·obtain ⟨rl,c,dd,ks,rows,rfl,hrl,hr5,hk3,dd1,dd7,hrd,q⟩ := h
  refine ⟨_,(J6 (Jq (i := 3) J1J.nd rfl (Or.inl rfl) (JX JI rfl tx.J13 JT (J0 (pv 0) J5)))
   (J6 (J0E (PW.pt (J38 (Js (Jd2 (K := K) rfl hr.units0) (pv 3) (J0X J5) (Jw _)) (J2v (Js J3Q (Jl JM (pv 1) J8) J8 (Jw _))))) (J6 (Jq (i := 4) J1J.nd rfl (Or.inl rfl) (Jl JM (Jl J0a (pv 1) J8) (Ju (JD (K := K) rfl) rfl tx.J0g PySem.boot_len (J0 (pv 3) J5))))
   (J6 (Jq (i := 5) J1J.nd rfl (Or.inl rfl) (Jl JM (Jl J0a (pv 1) J8) (Ju J14 rfl tx.J0g PySem.boot_len (J0 (Jo (Jy (K := K) rfl) (pv 3) (pv 4) (fun _ _ => rfl)) J5))))
   (J6 (Jq (i := 6) J1J.nd rfl (Or.inl rfl) (Jo J09 (Jl J2V (pv 2) (JU (l := [45]) (by decide +kernel))) (Jl JM (Jl J0a (pv 1) J8) (Jl J00 (Ju J14 rfl tx.J0g PySem.boot_len (J0 (pv 2) J5)) J8)) (fun _ _ => rfl)))
   (Jh (Jfc (Jl J2V (Jl J2V (J1T J3V (Jo (Jy (K := K) rfl) (pv 3) (pv 4) (fun _ _ => rfl)) J2u (J2b (pv 5))) (pv 6)) (J1T J3V (Jo (Jy (K := K) rfl) (pv 3) (pv 4) (fun _ _ => rfl)) (J2b (Jl J00 (pv 5) J8)) J2u)) (JeR (pv 3) (pv 4) JcB)))))) JK)
   (Jh (Jv (pv 3))))),?_⟩
  walk_at "st"
  have hI : SqL K H rl (rows.map T) ∨ SqT K H rl (rows.map T) := .inl (SqL.of hrl)
  have tr : (rows.map T).length = rows.length := List.length_map _
  have hk' : ks.length ≤ 1000 := by omega
  walk_at "rd"
  intro fl ffl
  obtain ⟨H1,e1,yfl,s1⟩ := newl (xs := rows.map T) ffl
  rw [← e1]
  walk_at "rd"
  intro l1 f1
  obtain ⟨H2,e2,y1,s2⟩ := newl (xs := []) f1
  rw [← e2]
  have yfl2 := s2 _ _ yfl
  have qfl2 : SqL K H2 fl (rows.map T) := SqL.of yfl2
  have ql1 : SqL K H2 l1 [] := SqL.of y1
  have S2 := s1.trans s2
  walk_at "rd"
  refine ite2 (fun e => ?_) (fun e => ?_)
  ·have hlp : 0 < rows.length := by
    cases rows with
    | nil => cases e
    | cons a r => exact Nat.succ_pos _
   walk_at "rd"
   refine ite2 (fun e2 => ?_) (fun e2 => ?_)
   ·have l0 : (0 : Int) < ((rows.map T).length : Int) := by rw [tr]; omega
    have i0 := Int.emod_nonneg (c / 4) (show ((rows.map T).length : Int) ≠ 0 by omega)
    have i1 := Int.emod_lt_of_pos (c / 4) l0
    have l0' : ((rows.map T).length : Int) < 1000 := by rw [tr]; omega
    have hpl : (c / 4 % ((rows.map T).length : Int)).toNat < rows.length := by rw [tr] at i1 ⊢; omega
    have hrow : rows[(c / 4 % ((rows.map T).length : Int)).toNat]? = some (rows[(c / 4 % ((rows.map T).length : Int)).toNat]'hpl) := List.getElem?_eq_getElem hpl
    generalize rows[(c / 4 % ((rows.map T).length : Int)).toNat]'hpl = row at hrow
    have hix : atI (rows.map T) (c / 4 % ((rows.map T).length : Int)) = some (T row) := by
     have : atI (rows.map T) (((c / 4 % ((rows.map T).length : Int)).toNat : Nat) : Int) = some (T row) := J01 (by rw [List.getElem?_map,hrow]; rfl)
     rwa [Int.toNat_of_nonneg i0] at this
    have hrlen := hrd row (List.mem_of_getElem? hrow)
    have hrow' : row.length ≤ 1000 := by omega
    have lr : (0 : Int) < (row.length : Int) := by omega
    have lr' : (row.length : Int) < 1000 := by omega
    have j0 := Int.emod_nonneg (c / 32) (show (row.length : Int) ≠ 0 by omega)
    have j1 := Int.emod_lt_of_pos (c / 32) lr
    have l2 : (0 : Int) < (ks.length : Int) + 1 := by omega
    obtain ⟨mk,hm1,hm2⟩ := J2l (ks ++ [45]) (c / 512 % ((ks.length : Int) + 1)) (Int.emod_nonneg _ (by omega)) (by have := Int.emod_lt_of_pos (c / 512) l2; rw [List.length_append]; show _ < ((ks.length + 1 : Nat) : Int); omega)
    have c1 := J3u row none (some (c / 32 % (row.length : Int)))
    have c2 := J3u row (some (c / 32 % (row.length : Int) + 1)) none
    have hixn : ixN (rows.map T).length (c / 4 % ((rows.map T).length : Int)) = some (c / 4 % ((rows.map T).length : Int)).toNat := by
     unfold ixN
     rw [if_pos i0,if_pos i1]
    have hnl : ((cutN row none (some (c / 32 % (row.length : Int))) ++ [mk] ++ cutN row (some (c / 32 % (row.length : Int) + 1)) none).length : Int) = dd := by
     rw [JaC _ _ j0,J7g _ _ (by omega),List.length_append,List.length_append,List.length_take,List.length_drop,List.length_singleton]
     omega
    walk_at "rd"
    refine q fl _ (rows.set (c / 4 % ((rows.map T).length : Int)).toNat (cutN row none (some (c / 32 % (row.length : Int))) ++ [mk] ++ cutN row (some (c / 32 % (row.length : Int) + 1)) none)) (S2.upd ffl) ffl ?_ (by rw [List.length_set]) fun r hr => ?_
    ·rw [Jd,List.map_set]
     try rfl
    ·rcases List.mem_or_eq_of_mem_set hr with z | z
     ·exact hrd r z
     ·rw [z]; exact hnl
   ·walk_at "rd"
    exact q fl H2 rows S2 ffl yfl2 rfl hrd
  ·walk_at "rd"
   exact q fl H2 rows S2 ffl yfl2 rfl hrd
theorem J9k (tx : Tx K mg Jg J7 J4 Ji J1 J2 Jk Jc Ja Jb Jf J9) : FnG P w K mg base "_law_paper" 4 ["_law_cell","_law_parts"] (Jcb Ja Jk Jc) := by
 have JQ := J2x (P := P) (w := w) (base := base) tx
 have J93 := tx.J3F.g (J7t (P := P) (w := w) (base := base) tx)
 have J9y := tx.J3D.g (J7n (P := P) (w := w) (base := base) tx)
 refine tx.J9g.g J4E (fun _ _ _ _ _ _ us hl => match us,hl with | [_,_],_ => rfl) (fun vs H Q E h => ?_) (fun f cdv A outer s H vs Q E hr h => ?_)
 ·obtain ⟨c,t,dd,ks,nds,ps,ls,nl,pl,ll,xs,ys,zs,rfl,_⟩ := h
  rfl
 ·obtain ⟨c,t,dd,ks,nds,ps,ls,nl,pl,ll,xs,ys,zs,rfl,hP,n21,p5,q⟩ := h
  refine ⟨_,(J6 (J0E (Js J0P (Jl JM (pv 0) J8) J8 (Jw _)) (Jh (Jv (JaG (K := K) rfl tx.J65.makes tx.J65.kp tx.J3C tx.J65.mg))) JK)
   (J6 (J0E (Js J0P (Jl JM (pv 0) J8) J8 (Jw _)) (Jh (Jv (J3t (r := rPla Jc) J9y (hr.mono (by decide)) JeI (J0 (JP (osc := J3 J0L) (ON := ["_law_cell","_law_parts","_law_numbers"]) (N := ["_law_day","_law_kind","_law_least","_law_most"]) (js := [none,none,none,none]) ⟨rfl,by decide +kernel,by decide +kernel,by decide +kernel,rfl,by decide +kernel⟩ rfl rfl rfl (JZ (K := K) rfl (Jo (JC (K := K) rfl) (pv 1) J8 (fun _ _ => rfl))) (fun _ _ _ _ _ => J8N (K := K) (n := 4) rfl rfl (JE (Jm (i := 0) (show List.Nodup (["_law_day","_law_kind","_law_least","_law_most"] : List Str) from by decide +kernel) rfl (Or.inl rfl)) (JE (Jm (i := 1) (show List.Nodup (["_law_day","_law_kind","_law_least","_law_most"] : List Str) from by decide +kernel) rfl (Or.inl rfl)) (JE (Jm (i := 2) (show List.Nodup (["_law_day","_law_kind","_law_least","_law_most"] : List Str) from by decide +kernel) rfl (Or.inl rfl)) (JE (Jm (i := 3) (show List.Nodup (["_law_day","_law_kind","_law_least","_law_most"] : List Str) from by decide +kernel) rfl (Or.inl rfl)) J1z))))) (fun _ _ _ _ _ => J0b) (fun _ _ _ _ _ => (J0t (J0 (pv 0) (J0 (pv 1) J5))))) J5)))) JK)
   (J6 (J3o (k := 2) (osc := J3 J0L) (ON := ["_law_cell","_law_parts","_law_numbers"]) (N := ["_law_x"]) (js := [none]) J4E.nd rfl (Or.inl rfl) ⟨rfl,by decide +kernel,by decide +kernel,by decide +kernel,rfl,by decide +kernel⟩ rfl rfl rfl (JZ (K := K) rfl (JO JQ (hr.mono (by decide)) (J0 (pv 0) (J0 (Ju (JD (K := K) rfl) rfl tx.J0g PySem.boot_len (J0 (Jo (JC (K := K) rfl) (pv 1) J8 (fun _ _ => rfl)) J5)) J5)))) (fun _ _ _ _ _ => Jm (i := 0) (show List.Nodup (["_law_x"] : List Str) from by decide +kernel) rfl (Or.inl rfl)) (fun _ _ _ _ _ => J0b) (fun _ _ _ _ _ => (Jl J3M (Jl JM (Jl J0a (pv 0) J8) J8) J8)))
   (Jh (Jv (J3t (r := rPri Ja) J93 (hr.mono (by decide)) Jfn (J0 (pv 2) (J0 (JP (osc := J3 J0L) (ON := ["_law_cell","_law_parts","_law_numbers"]) (N := ["_law_x"]) (js := [none]) ⟨rfl,by decide +kernel,by decide +kernel,by decide +kernel,rfl,by decide +kernel⟩ rfl rfl rfl (JZ (K := K) rfl (JO JQ (hr.mono (by decide)) (J0 (Jl J00 (pv 0) J8) (J0 (Ju (JD (K := K) rfl) rfl tx.J0g PySem.boot_len (J0 (Jo (JC (K := K) rfl) (pv 1) J8 (fun _ _ => rfl)) J5)) J5)))) (fun _ _ _ _ _ => Jm (i := 0) (show List.Nodup (["_law_x"] : List Str) from by decide +kernel) rfl (Or.inl rfl)) (fun _ _ _ _ _ => J0b) (fun _ _ _ _ _ => (Jl J3M (Jl JM (Jl J0a (pv 0) J8) J8) J8))) J5)))))))),?_⟩
  walk_at "st"
  clear JQ J93 J9y
  obtain ⟨x0,x1,x2,x3,x4⟩ := tup5 (.int dd) (T ks) (.ref nl) (.ref pl) (.ref ll)
  have ht := hP.t
  have hpl := hP.p
  have hnl := hP.n
  have hyl := hP.pa.len
  have hxl := hP.na.len
  have qnl : SqL K H nl xs := SqL.of hnl
  walk_at "rd"
  refine ite2 (fun e => ?_) (fun e => ?_)
  ·walk_at "rd"
   intro cx dcx n1 n2 n3
   exact q cx _ ((JB n2 _).upd n1) (.inr (.inl ⟨cx,dcx,rfl,Jd⟩))
  walk_at "rd"
  refine ite2 (fun e => ?_) (fun e => ?_)
  ·walk_at "rd"
   refine JF nds (fun _ => true) (fun n y H => PlT (n.day,[n.kind]) y H) (fun σ => ∃ v1 v2 v3 v4,σ = [v1,v2,v3,v4]) (JL (SqL.of hnl)) hxl (by omega) ⟨_,_,_,_,rfl⟩ (fun n y Ha Hb k h => PlT.keeps _ y Ha Hb k h) (fun i n v σ H' hn hv hσ s' Rf Rt _ hR => ?_) (fun pa H3 us npa s3 hus hpa => ?_)
   ·obtain ⟨v1,v2,v3,v4,rfl⟩ := hσ
    obtain ⟨n',hn',t1,rfl,ht1'⟩ := hP.na.back hv
    rw [hn] at hn'
    cases hn'
    have ht1'' := s' _ _ ht1'
    walk_at "rd"
    intro t2 ft2
    exact hR _ _ _ rfl ⟨_,_,_,_,rfl⟩ (JB ft2 _) ⟨t2,rfl,Jd⟩
   rw [List.filter_eq_self.mpr fun _ _ => rfl] at hus
   have aP3 : All2 PlT H3 (nds.map fun n => (n.day,[n.kind])) us := All2.mapL (P := PlT) hus
   have lpc : (nds.map fun n => (n.day,[n.kind])).length ≤ 21 := by rw [List.length_map]; exact n21
   generalize (nds.map fun n => (n.day,[n.kind])) = pc at aP3 lpc
   walk_at "rd"
   intro p5' dx5 a5 Hc sc5 hp5 ha5 _
   exact q p5' Hc (s3.trans sc5) (.inr (.inr ⟨p5',dx5,a5,pc,us,rfl,hp5,ha5,aP3.imp fun a y => PlT.keeps a y _ _ sc5.keeps,by omega⟩))
  walk_at "rd"
  intro xa H1 xs1 s1 nxa hxa hx1 hb1
  refine ⟨xa,rfl,⟨_,SqL.of hxa⟩,?_⟩
  refine JF xs1 (fun _ => true) (fun _ y _ => ∃ z,y = V.int z) (fun σ => ∃ v,σ = [v]) (JL (SqL.of hxa)) (by rw [List.length_map]) (by omega) ⟨_,rfl⟩ (fun _ _ _ _ _ z => z) (fun i a v σ H' ha hv hσ s' Rf Rt _ hR => ?_) (fun na H2 us1 nna s2 hus1 hna => ?_)
  ·obtain ⟨w1,rfl⟩ := hσ
   rw [List.getElem?_map,ha] at hv
   cases hv
   walk_at "rd"
   exact hR _ _ _ rfl ⟨_,rfl⟩ (Same.refl _) ⟨_,rfl⟩
  obtain ⟨prs,rfl⟩ := J8I (ys := us1) fun y hy => by
   obtain ⟨j,hj⟩ := List.getElem?_of_mem hy
   obtain ⟨_,_,z⟩ := hus1.back hj
   exact z
  have S2 := s1.trans s2
  have hP2 := hP.same S2
  have ht2 := hP2.t
  have hnl2 := hP2.n
  walk_at "rd"
  intro xb H3 xs3 s3 nxb hxb hx3 hb3
  refine ⟨xb,rfl,⟨_,SqL.of hxb⟩,?_⟩
  refine JF xs3 (fun _ => true) (fun _ y _ => ∃ z,y = V.int z) (fun σ => ∃ v,σ = [v]) (JL (SqL.of hxb)) (by rw [List.length_map]) (by omega) ⟨_,rfl⟩ (fun _ _ _ _ _ z => z) (fun i a v σ H' ha hv hσ s' Rf Rt _ hR => ?_) (fun oa H4 us3 noa s4 hus3 hoa => ?_)
  ·obtain ⟨w1,rfl⟩ := hσ
   rw [List.getElem?_map,ha] at hv
   cases hv
   walk_at "rd"
   exact hR _ _ _ rfl ⟨_,rfl⟩ (Same.refl _) ⟨_,rfl⟩
  obtain ⟨ods,rfl⟩ := J8I (ys := us3) fun y hy => by
   obtain ⟨j,hj⟩ := List.getElem?_of_mem hy
   obtain ⟨_,_,z⟩ := hus3.back hj
   exact z
  have hna4 := (s3.trans s4) _ _ hna
  walk_at "rd"
  intro p1 dx1 a1 b1 H6 s6 hp1 ha1 hb1' _ _
  exact q p1 H6 ((S2.trans (s3.trans s4)).trans s6) (.inl ⟨p1,dx1,a1,b1,prs,ods,rfl,hp1,ha1,hb1'⟩)
end
theorem Jek {H : Hp} : ∀ {ys : List V} {C : Nat → Ps → Prop},(∀ (j : Nat) (y : V),ys[j]? = some y → ∃ p,Ps4 p y H ∧ C j p) → ∃ ps,All2 Ps4 H ps ys ∧ ∀ (j : Nat) (p : Ps),ps[j]? = some p → C j p
 | [],_,_ => ⟨[],trivial,fun j p h => by simp at h⟩
 | y :: ys,C,h => by
  obtain ⟨p,h1,h2⟩ := h 0 y rfl
  obtain ⟨ps,h3,h4⟩ := Jek (ys := ys) (C := fun j p => C (j + 1) p) fun j y hy => h (j + 1) y hy
  refine ⟨p :: ps,⟨h1,h3⟩,fun j q hq => ?_⟩
  cases j with
  | zero => cases hq; exact h2
  | succ j => exact h4 j q hq
theorem Jb1 : ∀ {ys : List V} {C : List Nat → Prop},(∀ y ∈ ys,∃ r,y = T r ∧ C r) → ∃ rows : List (List Nat),ys = rows.map T ∧ ∀ r ∈ rows,C r
 | [],_,_ => ⟨[],rfl,fun _ h => by cases h⟩
 | y :: ys,C,h => by
  obtain ⟨r,rfl,hr⟩ := h _ List.mem_cons_self
  obtain ⟨rows,rfl,hrs⟩ := Jb1 (ys := ys) (C := C) fun y hy => h y (List.mem_cons_of_mem _ hy)
  refine ⟨r :: rows,rfl,fun q hq => ?_⟩
  rcases List.mem_cons.mp hq with rfl | z
  ·exact hr
  ·exact hrs q z
theorem Jbz {α : Type} (l : List α) : (cutN l (some 3) (some 8)).length ≤ 5 := by
 unfold cutN
 have e1 : HT.sIx l.length 0 (some 3) = min 3 l.length := by
  show (if (3 : Int) < 0 then ((3 : Int) + (l.length : Int)).toNat else min (3 : Int).toNat l.length) = _
  rw [if_neg (by decide)]
  rfl
 have e2 : HT.sIx l.length l.length (some 8) = min 8 l.length := by
  show (if (8 : Int) < 0 then ((8 : Int) + (l.length : Int)).toNat else min (8 : Int).toNat l.length) = _
  rw [if_neg (by decide)]
  rfl
 rw [e1,e2,List.length_take,List.length_drop]
 omega
theorem CoQ.at {P : Program} {w : World} {K : PySem.W.Frag} {mg : Str → Option Value} {base : Heap} {H : Hp} {c : Addr} {f : Int → Int → Int} {g : Int → Int → Nat → Int} {n : Nat} {dd : Int} {rows : List (List Nat)} (x : CoQ P w K mg base H c f g n dd) (hn : rows.length = n) (hd : ∀ r ∈ rows,(r.length : Int) = dd) (d7 : dd ≤ 7) : CoAt P w K mg base H c (fun p row => f (p : Int) (dut row : Int)) (fun p d c => g (p : Int) (d : Int) c) rows := by
 obtain ⟨C,dx,fs,ps1,ps2,sp1,sp2,h1,h2,h3,h4,h5,h6,h7⟩ := x
 refine ⟨C,dx,fs,1,1,ps1,ps2,sp1,sp2,h1,h2,h3,h4,by decide,h5,by decide,fun p row hr => ?_,fun p d x row hr hx => ?_⟩
 ·have hp := (List.getElem?_eq_some_iff.mp hr).1
  have hl := hd row (List.mem_of_getElem? hr)
  have hu : dut row ≤ row.length := List.length_filter_le _ _
  exact h6 p _ (by omega) (by omega) (by omega) (by omega)
 ·have hp := (List.getElem?_eq_some_iff.mp hr).1
  have hl := hd row (List.mem_of_getElem? hr)
  have hdl := (List.getElem?_eq_some_iff.mp hx).1
  exact h7 p d x (by omega) (by omega) (by omega) (by omega)
theorem Jf3 (rows : List (List Nat)) : (rows.map T).all J15 = true := List.all_eq_true.mpr fun x hx => by
 obtain ⟨z,_,rfl⟩ := List.mem_map.mp hx
 rfl
section
variable {P : Program} {w : World} {K : PySem.W.Frag} {mg : Str → Option Value} {base : Heap} {Jg J7 J4 Ji J1 J2 Jk Jc Ja Jb Jf J9 : Addr}
theorem Je5 (tx : Tx K mg Jg J7 J4 Ji J1 J2 Jk Jc Ja Jb Jf J9) {H : Hp} {c dx : Addr} {ps : List Ps} {lv : Int} {old : List (List Nat)} {n dd : Int} (h : H c = some (.ins Ji dx [])) : CoQ P w K mg base H c (cntC 0 [] ps lv) (mrkC 0 [] old) n dd := by
 refine ⟨Ji,dx,[],_,_,_,_,h,rfl,rfl,Jfx (P := P) (w := w) (base := base) tx tx.J5t tx.J4A.cl,Jfy (P := P) (w := w) (base := base) tx tx.J5X tx.J4A.cl,fun p m p0 p1 m0 m6 H' Q' s' q' => ?_,fun p d x p0 p1 d0 d1 H' Q' s' q' => ?_⟩
 ·refine ⟨_,_,_,rfl,?_⟩
  have := q' H' (Same.refl _)
  unfold cntC at this
  rw [if_neg (show ¬ (0 : Int) = 1 by decide),if_neg (fun y => absurd y.1 (show ¬ (0 : Int) = 2 by decide))] at this
  exact this
 ·refine ⟨_,_,_,_,rfl,?_⟩
  have := q' H' (Same.refl _)
  unfold mrkC at this
  rw [if_neg (show ¬ (0 : Int) = 1 by decide),if_neg (fun y => absurd y.1 (show ¬ (0 : Int) = 3 by decide))] at this
  exact this
theorem JcU (tx : Tx K mg Jg J7 J4 Ji J1 J2 Jk Jc Ja Jb Jf J9) {H : Hp} {c : Addr} {ps : List Ps} {lv : Int} {old : List (List Nat)} {dd : Int} (hE : LvAt J2 H c ((ps.map p2).map (·.2)) lv) : CoQ P w K mg base H c (cntC 2 [] ps lv) (mrkC 2 [] old) ps.length dd := by
 obtain ⟨dx,b,h1,h2⟩ := id hE
 have hcs : (((ps.map p2).map (·.2)).length : Int) = ps.length := by rw [List.length_map,List.length_map]
 refine ⟨_,dx,_,_,_,_,_,h1,J9S _ _,Jaw _ _,J9e (P := P) (w := w) (base := base) tx,Jfy (P := P) (w := w) (base := base) tx tx.J3H tx.J1X.cl,fun p m p0 p1 m0 m6 H' Q' s' q' => ?_,fun p d x p0 p1 d0 d1 H' Q' s' q' => ?_⟩
 ·refine ⟨c,p,m,_,lv,rfl,hE.same s',p0,by omega,?_⟩
  have := q' H' (Same.refl _)
  unfold cntC at this
  rw [if_neg (show ¬ (2 : Int) = 1 by decide),← Jfl] at this
  generalize Jz ((ps.map p2).map (·.2)) p + m = L at this ⊢
  by_cases z : L > lv
  ·rw [if_pos ⟨rfl,z⟩] at this
   rw [if_pos (by omega)]
   exact this
  ·rw [if_neg fun y => z y.2] at this
   rw [if_neg (by omega)]
   exact this
 ·refine ⟨_,_,_,_,rfl,?_⟩
  have := q' H' (Same.refl _)
  unfold mrkC at this
  rw [if_neg (show ¬ (2 : Int) = 1 by decide),if_neg (fun y => absurd y.1 (show ¬ (2 : Int) = 3 by decide))] at this
  exact this
theorem Jc7 (tx : Tx K mg Jg J7 J4 Ji J1 J2 Jk Jc Ja Jb Jf J9) {H : Hp} {c : Addr} {ps : List Ps} {lv : Int} {old : List (List Nat)} {dd : Int} (hE : ChAt J1 H c old) (hon : old.length = ps.length) (d7 : dd ≤ 7) (hor : ∀ r ∈ old,(r.length : Int) = dd) : CoQ P w K mg base H c (cntC 3 [] ps lv) (mrkC 3 [] old) ps.length dd := by
 have hrow : ∀ p d : Int,0 ≤ p → p < ps.length → 0 ≤ d → d < dd → ∃ row x,old[p.toNat]? = some row ∧ row[d.toNat]? = some x ∧ row.length ≤ 1000 ∧ (old.getD p.toNat []).getD d.toNat 0 = x := fun p d p0 p1 d0 d1 => by
  have hl : p.toNat < old.length := by omega
  have e1 : old[p.toNat]? = some (old[p.toNat]'hl) := List.getElem?_eq_getElem hl
  have hr := hor _ (List.getElem_mem hl)
  generalize old[p.toNat]'hl = row at e1 hr
  have e2 : row[d.toNat]? = some (row[d.toNat]'(by omega)) := List.getElem?_eq_getElem (by omega)
  refine ⟨row,_,e1,e2,by omega,?_⟩
  rw [List.getD_eq_getElem?_getD (l := old),e1,Option.getD_some,List.getD_eq_getElem?_getD,e2,Option.getD_some]
 obtain ⟨dx,r,h1,h2⟩ := id hE
 refine ⟨_,dx,_,_,_,_,_,h1,J9W _,Jax _,Jfx (P := P) (w := w) (base := base) tx tx.J3i tx.J1q.cl,J8B (P := P) (w := w) (base := base) tx,fun p m p0 p1 m0 m6 H' Q' s' q' => ?_,fun p d x p0 p1 d0 d1 H' Q' s' q' => ?_⟩
 ·refine ⟨_,_,_,rfl,?_⟩
  have := q' H' (Same.refl _)
  unfold cntC at this
  rw [if_neg (show ¬ (3 : Int) = 1 by decide),if_neg (fun y => absurd y.1 (show ¬ (3 : Int) = 2 by decide))] at this
  exact this
 ·obtain ⟨row,mk,r1,r2,r3,r4⟩ := hrow p d p0 p1 d0 d1
  refine ⟨c,p.toNat,d.toNat,x,mk,old,row,by rw [Int.toNat_of_nonneg p0,Int.toNat_of_nonneg d0],hE.same s',r1,r2,r3,?_⟩
  have := q' H' (Same.refl _)
  unfold mrkC at this
  rw [if_neg (show ¬ (3 : Int) = 1 by decide),r4] at this
  by_cases z : mk = x
  ·rw [if_neg fun y => y.2 z] at this
   rw [if_pos z]
   exact this
  ·rw [if_pos ⟨rfl,z⟩] at this
   rw [if_neg z]
   exact this
theorem JeK (tx : Tx K mg Jg J7 J4 Ji J1 J2 Jk Jc Ja Jb Jf J9) {H : Hp} {pp h c : Addr} {dd : Int} {ks : List Nat} {nds : List Nd} {ps : List Ps} {ls : List (List Nat × Int)} {f : Int → Int → Int} {g : Int → Int → Nat → Int} (hp : PpAt Ja Jk Jc (.ref pp) H) (hK : Hk J7 J4 H h dd ks nds ps ls) (hC : CoQ P w K mg base H c f g ps.length dd) (hOk : PlOk ks nds ps)
  (hsm : ∀ n ∈ nds,(-(2 ^ 64) < n.least ∧ n.least < 2 ^ 64) ∧ (-(2 ^ 64) < n.most ∧ n.most < 2 ^ 64)) (hpm : ∀ n ∈ ps,0 ≤ n.most ∧ n.most ≤ 9) (dd0 : 0 ≤ dd) (dd7 : dd ≤ 7) : ∃ v,PapQ P w K mg base H pp h c v ∧ (v = .non ∨ ∃ z,v = .int z) := by
 rcases hp with ⟨pp',dx,a,b,prs,ods,e,h1,h2,h3⟩ | ⟨pp',dx,e,h1⟩ | ⟨pp',dx,a,pc,as,e,h1,h2,h3,h4⟩
 ·cases e
  exact ⟨.int (if prs.length = ps.length ∧ ods.length = nds.length then J8P f g dd ks nds ps ls prs ods else 0),⟨Ja,dx,_,4,_,_,h1,JbQ _ _,JdA (P := P) (w := w) (base := base) tx,by decide,fun H' Q' s' q => ⟨pp,h,c,a,b,dx,dd,ks,nds,ps,ls,f,g,prs,ods,rfl,s' _ _ h1,s' _ _ h2,s' _ _ h3,hK.same s',hC.same s',hOk.u,hOk.n21,hsm,hOk.p5,hpm,hOk.k3,dd0,dd7,q⟩⟩,.inr ⟨_,rfl⟩⟩
 ·cases e
  exact ⟨.int 0,⟨Jk,dx,_,1,_,_,h1,rfl,Jfv (P := P) (w := w) (base := base) tx,by decide,fun H' Q' s' q => ⟨_,_,_,rfl,q H' (Same.refl _)⟩⟩,.inr ⟨_,rfl⟩⟩
 ·cases e
  refine ⟨if canF ls ps (nds.filter (inP pc)) < J5z (nds.filter (inP pc)) then .non else .int 0,⟨Jc,dx,_,4,_,_,h1,lPf _,Jbl (P := P) (w := w) (base := base) tx,by decide,fun H' Q' s' q => ⟨pp,h,a,dx,_,dd,ks,nds,ps,ls,pc,as,rfl,s' _ _ h1,s' _ _ h2,h3.imp fun a y => PlT.keeps a y _ _ s'.keeps,hK.same s',hOk,h4,q⟩⟩,?_⟩
  by_cases z : canF ls ps (nds.filter (inP pc)) < J5z (nds.filter (inP pc))
  ·rw [if_pos z]; exact .inl rfl
  ·rw [if_neg z]; exact .inr ⟨0,rfl⟩
end
section
variable {P : Program} {w : World} {K : PySem.W.Frag} {mg : Str → Option Value} {base : Heap} {Jg J7 J4 Ji J1 J2 Jk Jc Ja Jb Jf J9 : Addr}
local macro_rules | `(tactic| walk_at "lk") => `(tactic| first | exact J87 _ _ _ | exact J7X _ | exact Jbg _ _ _ | exact J9Z _ _ _ | exact J9P _ _ _)
theorem Jfh {f : Addr} {fd : FuncData} (tx : Tx K mg Jg J7 J4 Ji J1 J2 Jk Jc Ja Jb Jf J9) (F : Fun K "law" "law" J39 f fd) : FnOk P w K mg base CX0 14 f fd ["_law_script"] (sp_law K) := by
 have J28 := J7o (P := P) (w := w) (base := base) tx
 have J5I := J98 (P := P) (w := w) (base := base) tx
 have J5K := J9x (P := P) (w := w) (base := base) tx
 have J7P := Jbr (P := P) (w := w) (base := base) tx
 have J4v := J8z (P := P) (w := w) (base := base) tx
 have J5L := J92 (P := P) (w := w) (base := base) tx
 have J5O := J91 (P := P) (w := w) (base := base) tx
 have J5M := J95 (P := P) (w := w) (base := base) tx
 have J3E := J9v (P := P) (w := w) (base := base) tx
 have J49 := J7u (P := P) (w := w) (base := base) tx
 have J5J := J9k (P := P) (w := w) (base := base) tx
 have J6l := Ja7 (P := P) (w := w) (base := base) tx
 have J4t := tx.J1X.g (J8i (P := P) (w := w) (base := base) tx)
 have J46 := tx.J1q.g (J7r (P := P) (w := w) (base := base) tx)
 have JaM := tx.J3Y.g (J8x (P := P) (w := w) (base := base) tx)
 have J7Q := tx.J3b.g (J6G (P := P) (w := w) (base := base) tx)
 have M1 := J6S (P := P) (w := w) (base := base) tx
 have M2 := J5a (P := P) (w := w) (base := base) tx
 have M3 := J62 (P := P) (w := w) (base := base) tx
 refine F.ok J0k (fun vs H Q E h => ?_) (fun cdv A outer s H vs Q E hr h => ?_)
 ·obtain ⟨a,ns,rfl,_⟩ := h
  rfl
 ·obtain ⟨sc,ns,rfl,hS,hns,q⟩ := h
  refine ⟨_,(J6 (Jq (i := 1) J0k.nd rfl (Or.inl rfl) (JO J28 (hr.mono (by decide)) (J0 (pv 0) (J0 J8 J5))))
   (J6 (Jq (i := 2) J0k.nd rfl (Or.inr rfl) (JO J28 (hr.mono (by decide)) (J0 (pv 0) (J0 J8 J5))))
   (J6 (Jq (i := 3) J0k.nd rfl (Or.inr rfl) (Jl J00 J8 (Jl JM (pv 1) J8)))
   (J6 (Jq (i := 4) J0k.nd rfl (Or.inr rfl) (JO J5I (hr.mono (by decide)) (J0 (Jl J0a (pv 2) J8) (J0 (Jl J00 J8 (Jl JM (Jl J0a (pv 1) J8) J8)) J5))))
   (J6 (Jq (i := 5) J0k.nd rfl (Or.inr rfl) (J1T (J79 (K := K) rfl) (pv 0) (J2b J8) (J2b J8)))
   (J6 (Jq (i := 6) J0k.nd rfl (Or.inr rfl) (JO J5K (hr.mono (by decide)) (J0 (pv 2) (J0 (Ju (JD (K := K) rfl) rfl tx.J0g PySem.boot_len (J0 (pv 5) J5)) J5))))
   (J6 (Jq (i := 7) J0k.nd rfl (Or.inr rfl) (JP (osc := J3 J39) (ON := ["_law_script","_law_first","_law_cell","_law_days","_law_kinds_here","_law_cells","_law_names_here","_law_rows","_law_people","_law_needs_here","_law_parts","_law_ruled","_law_house_here","_law_way","_law_level","_law_costs","_law_told","_law_total_here","_law_paper_here","_law_floor","_law_due","_law_handed","_law_answer","_law_found","_law_none"]) (N := ["_law_one","_law_kinds_here","_law_days"]) (js := [none,some 4,some 3]) ⟨rfl,by decide +kernel,by decide +kernel,by decide +kernel,rfl,by decide +kernel⟩ rfl rfl rfl (JZ (K := K) rfl (pv 5)) (fun _ _ _ _ _ => Jm (i := 0) (show List.Nodup (["_law_one","_law_kinds_here","_law_days"] : List Str) from by decide +kernel) rfl (Or.inl rfl)) (fun _ _ _ _ _ => J0b) (fun _ _ _ _ _ => (JO J7P (hr.mono (by decide)) (J0 (pv 0) (J0 (pv 1) (J0 (pv 2) J5)))))))
   (J6 (J3o (k := 8) (osc := J3 J39) (ON := ["_law_script","_law_first","_law_cell","_law_days","_law_kinds_here","_law_cells","_law_names_here","_law_rows","_law_people","_law_needs_here","_law_parts","_law_ruled","_law_house_here","_law_way","_law_level","_law_costs","_law_told","_law_total_here","_law_paper_here","_law_floor","_law_due","_law_handed","_law_answer","_law_found","_law_none"]) (N := ["_law_k","_law_kinds_here","_law_cells","_law_names_here","_law_rows","_law_cell"]) (js := [none,some 4,some 5,some 6,some 7,some 2]) J0k.nd rfl (Or.inl rfl) ⟨rfl,by decide +kernel,by decide +kernel,by decide +kernel,rfl,by decide +kernel⟩ rfl rfl rfl (J03 rfl tx.J0i (J0 (Ju (JD (K := K) rfl) rfl tx.J0g PySem.boot_len (J0 (pv 5) J5)) J5)) (fun _ _ _ _ _ => Jm (i := 0) (show List.Nodup (["_law_k","_law_kinds_here","_law_cells","_law_names_here","_law_rows","_law_cell"] : List Str) from by decide +kernel) rfl (Or.inl rfl)) (fun _ _ _ _ _ => J0b) (fun _ _ _ _ _ => (JO J4v (hr.mono (by decide)) (J0 (Jo (Jy (K := K) rfl) (pv 2) (pv 0) (fun _ _ => rfl)) (J0 (Jo (Jy (K := K) rfl) (pv 3) (pv 0) (fun _ _ => rfl)) (J0 (Jo (Jy (K := K) rfl) (pv 4) (pv 0) (fun _ _ => rfl)) (J0 (pv 1) (J0 (Jl JM (pv 5) (Jl JaF J8 J8)) J5))))))))
   (J6 (Jq (i := 9) J0k.nd rfl (Or.inl rfl) (JO J5L (hr.mono (by decide)) (J0 (JO J28 (hr.mono (by decide)) (J0 (pv 0) (J0 J8 J5))) (J0 (pv 4) (J0 (pv 3) (J0 (pv 7) J5))))))
   (J6 (Jq (i := 10) J0k.nd rfl (Or.inl rfl) (J0t (J0 (pv 3) (J0 (pv 4) (J0 (pv 9) (J0 (pv 8) (J0 (JO J5O (hr.mono (by decide)) (J0 (pv 5) (J0 (pv 6) (J0 (pv 7) J5)))) J5)))))))
   (J6 (Jq (i := 11) J0k.nd rfl (Or.inl rfl) (J24 J0P (Jl JM (Jl J0a (pv 1) J8) J8) J8 (Jw _)))
   (J6 (Jq (i := 12) J0k.nd rfl (Or.inl rfl) (JO J5M (hr.mono (by decide)) (J0 (pv 10) (J0 (pv 11) J5))))
   (J6 (Jq (i := 13) J0k.nd rfl (Or.inl rfl) (Jl JM (Jl J0a (pv 1) J8) J8))
   (J6 (Jq (i := 14) J0k.nd rfl (Or.inl rfl) (Jl J00 (Jl JM (Jl J0a (pv 2) J8) J8) (Jl J1P (Jl JM (Jl J0a (pv 2) J8) J8) (Jl JM (pv 2) (Jl JaF J8 J8)))))
   (J6 (Jq (i := 15) J0k.nd rfl (Or.inl rfl) (Jo (Jy (K := K) rfl) (J0X (J0 (JaG (K := K) rfl tx.J4A.makes tx.J4A.kp tx.J3G tx.J4A.mg) (J0 (J3t (r := rLv J7 J4 J2) J4t (hr.mono (by decide)) Jg3 (J0 (pv 12) (J0 (pv 14) J5))) (J0 (J3t (r := rCh J1) J46 (hr.mono (by decide)) JfF (J0 (pv 12) (J0 (JX JI rfl tx.J13 JT (J0 (pv 7) J5)) J5))) J5)))) (pv 13) (fun _ _ => rfl)))
   (J6 (Jq (i := 16) J0k.nd rfl (Or.inl rfl) (JO J49 (hr.mono (by decide)) (J0 (pv 7) (J0 (Jl J0a (pv 1) J8) (J0 (pv 4) J5)))))
   (J6 (Jq (i := 17) J0k.nd rfl (Or.inl rfl) (Jl J00 (JO J3E (hr.mono (by decide)) (J0 (pv 13) (J0 (pv 10) (J0 (pv 16) (J0 (pv 14) (J0 (pv 7) J5)))))) (JX JbT rfl tx.J9h JbK (J0 (J24 J0P (Jl JM (Jl J0a (pv 2) J8) J8) J8 (Jw _)) J5))))
   (J6 (Jq (i := 18) J0k.nd rfl (Or.inl rfl) (JO J5J (hr.mono (by decide)) (J0 (Jl J0a (JO J28 (hr.mono (by decide)) (J0 (pv 0) (J0 J8 J5))) J8) (J0 (pv 10) J5))))
   (J6 (Jq (i := 19) J0k.nd rfl (Or.inl rfl) (J2s (P := P) (w := w) (K := K) (mg := mg) (base := base) hr (pv 18) (J0 (pv 12) (J0 (pv 15) J5)) rfl rfl rfl rfl rfl))
   (J6 (J3N (Jq (i := 20) J0k.nd rfl (Or.inl rfl) (Jap (JO J6l (hr.mono (by decide)) (J0 (pv 10) (J0 (pv 16) (J0 (pv 11) J5)))) (JaK (J24 J0P (pv 19) (pv 17) (Jw _))))))
   (J6 (J3N (Jq (i := 20) J0k.nd rfl (Or.inl rfl) (Jap (pv 20) (JaK (J24 J0P (pv 17) (JO J3E (hr.mono (by decide)) (J0 (pv 13) (J0 (pv 10) (J0 (pv 16) (J0 (pv 14) (J0 (pv 7) J5)))))) (Jw _))))))
   (J6 (Jq (i := 21) J0k.nd rfl (Or.inl rfl) (JX JI rfl tx.J13 JT (J0 (pv 16) J5)))
   (J6 (Jq (i := 22) J0k.nd rfl (Or.inl rfl) (J3t (r := rFnd Jf) JaM (hr.mono (by decide)) Jfr (J0 (pv 21) (J0 (pv 17) (J0 (pv 18) J5)))))
   (J6 (J2X (J4N PySem.F.plainAttrs_list PySem.F.slot_list_append PySem.F.type_list_append J1w (pv 21) (J0 (JU (l := [45]) (by decide +kernel)) J5)))
   (J6 (Jq (i := 23) J0k.nd rfl (Or.inl rfl) (J2s (P := P) (w := w) (K := K) (mg := mg) (base := base) hr (pv 22) (J0 (pv 12) (J0 (pv 15) J5)) rfl rfl rfl rfl rfl))
   (J6 (J0E (PW.pt (J3z (J8O (J3T (Ju J89 rfl tx.J1g J37 (J0 (pv 23) (J0 (Jeh tx.J5y J7i) J5))))) (J3z (Js J2U (pv 23) (pv 20) (Jw _)) (J3z (Js (JcR (K := K) rfl hr.units0) (Jt (K := K) rfl (pv 22) rfl) (pv 16) (Jw _)) (J3p (Js J2U (Jt (K := K) rfl (pv 22) rfl) (pv 17) (Jw _))))))) (Jh (Jv J2W)) JK)
   (J6 (Jq (i := 24) J0k.nd rfl (Or.inl rfl) (J2s (P := P) (w := w) (K := K) (mg := mg) (base := base) hr (J3t (r := rWth J9) J7Q (hr.mono (by decide)) Jfq (J0 (pv 18) J5)) (J0 (pv 12) (J0 (pv 15) J5)) rfl rfl rfl rfl rfl))
   (J6 (J0E (PW.pt (J3z (J8O (J3T (Ju J89 rfl tx.J1g J37 (J0 (pv 24) (J0 (Jeh tx.J5y J7i) J5))))) (J3z (Js J2U (pv 24) (J24 Jd3 (pv 19) Jao (Jw _)) (Jw _)) (J3p (J8O (J3T (Ju (Jaq (K := K) rfl) rfl tx.J1g J37 (J0 (pv 22) (J0 (Je9 (v := .ref Jb) rfl tx.J3J.mg rfl) J5))))))))) (Jh (Jv J2W)) JK)
   (Jh (Jv (Jap (J24 Jfd (J2s (P := P) (w := w) (K := K) (mg := mg) (base := base) hr (JaG (K := K) rfl tx.J3J.makes tx.J3J.kp tx.J3a tx.J3J.mg) (J0 (pv 12) (J0 (pv 15) J5)) rfl rfl rfl rfl rfl) J2W (Jw _)) (JaK (J24 J0P (J2s (P := P) (w := w) (K := K) (mg := mg) (base := base) hr (Jt (K := K) rfl (pv 22) rfl) (J0 (pv 12) (J0 (pv 15) J5)) rfl rfl rfl rfl rfl) (pv 19) (Jw _)))))))))))))))))))))))))))))))))),?_⟩
  walk_at "st"
  clear J28 J5I J5K J7P J4v J5L J5O J5M J3E J49 J5J J6l J4t J46 JaM J7Q
  have f0 : 0 ≤ Jz ns 0 % 4 := Int.emod_nonneg _ (by decide)
  have f1 : Jz ns 0 % 4 < 4 := Int.emod_lt_of_pos _ (by decide)
  have g0 : 0 ≤ Jz ns 0 / 4 % 3 := Int.emod_nonneg _ (by decide)
  have g1 : Jz ns 0 / 4 % 3 < 3 := Int.emod_lt_of_pos _ (by decide)
  walk_at "rd"
  have hdd : ∃ dd : Int,dd = 1 + Jz ns 0 % 4 ∧ 1 ≤ dd ∧ dd ≤ 7 := ⟨_,rfl,by omega,by omega⟩
  obtain ⟨dd,edd,dd1,dd7⟩ := hdd
  rw [← edd]
  intro ks H1 s1 hkl hkn hk45 hkcap
  have hS1 := s1.seq hS
  walk_at "rd"
  intro cl fcl
  rw [Jej]
  have hcl := Jbz ns
  generalize cutN ns (some 3) (some 8) = cs at hcl ⊢
  obtain ⟨H2,e2,ycl,s2⟩ := newl (xs := cs.map V.int) fcl
  rw [← e2]
  have hS2 := s2.seq hS1
  have tc : (cs.map V.int).length = cs.length := List.length_map _
  walk_at "rd"
  rw [tc]
  walk_at "rd"
  intro nl0 H3 nms s3 fnl0 hnl0 hnn hnU
  have hS3 := s3.seq hS2
  have ycl3 := s3 _ _ ycl
  have hkl3 : ks.length ≤ 3 := by omega
  have qcl3 : SqL K H3 cl (cs.map V.int) := SqL.of ycl3
  walk_at "rd"
  refine JF cs (fun _ => true) (fun _ y _ => ∃ r : List Nat,y = T r ∧ ((r.length : Int) = dd ∧ ∀ c ∈ r,c ∈ ks ∨ c = 45)) (fun σ => ∃ v,σ = [v,some (T ks),some (.int dd)]) (JL (SqL.of ycl3)) (by rw [List.length_map]) (by omega) ⟨_,rfl⟩ (fun _ _ _ _ _ z => z) (fun i a v σ H' ha hv hσ s' Rf Rt _ hR => ?_) (fun rl H4 ys nrl s4 hys hrl => ?_)
  ·obtain ⟨w1,rfl⟩ := hσ
   rw [List.getElem?_map,ha] at hv
   cases hv
   walk_at "rd"
   intro row H5 s5 hl5 hc5
   exact hR _ _ _ rfl ⟨_,rfl⟩ s5 ⟨row,rfl,hl5,hc5⟩
  rw [List.filter_eq_self.mpr fun _ _ => rfl] at hys
  have hyl := hys.len
  obtain ⟨rows,rfl,hrows⟩ := Jb1 (ys := ys) (C := fun r => (r.length : Int) = dd ∧ ∀ c ∈ r,c ∈ ks ∨ c = 45) fun y hy => by
   obtain ⟨j,hj⟩ := List.getElem?_of_mem hy
   obtain ⟨_,_,z⟩ := hys.back hj
   exact z
  rw [List.length_map] at hyl
  have hS4 := s4.seq hS3
  have ycl4 := s4 _ _ ycl3
  have hnl4 := s4 _ _ hnl0
  have p39 : CPow 10 39 := ⟨by decide,by decide,by decide⟩
  have p39' : (0 : Int) < 10 ^ (39 : Int).toNat := by decide
  obtain ⟨far,efar,far0,far1⟩ : ∃ far : Int,Jz ns 1 % 10 ^ (39 : Int).toNat = far ∧ 0 ≤ far ∧ far < 10 ^ (39 : Int).toNat := ⟨_,rfl,Int.emod_nonneg _ (by decide),Int.emod_lt_of_pos _ p39'⟩
  clear hys hS hS1 hS2 hS3 ycl ycl3 e2 fcl hnl0 s1 s2 s3 s4 nrl qcl3
  walk_at "rd"
  rw [tc]
  walk_at "rd"
  have tcs : (((cs.length : Nat) : Int)).toNat = cs.length := Int.toNat_natCast _
  rw [tcs]
  refine JF (List.range cs.length) (fun _ => true) (fun (k : Nat) y H => ∃ p : Ps,Ps4 p y H ∧ (nms[k]? = some p.nm ∧ p.past = [] ∧ (∃ row,rows[k]? = some row ∧ (∀ c ∈ row,c ≠ 45 → c ∈ p.sk) ∧ (dut row : Int) ≤ p.most) ∧ p.most ≤ 9 ∧ 0 ≤ p.car ∧ p.car < 2 ^ 200)) (fun σ => ∃ v,σ = [v,some (T ks),some (.ref cl),some (.ref nl0),some (.ref rl),some (.int (Jz ns 1))]) (J1O 0 cs.length) (by rw [List.length_map]) (by rw [List.length_range]; omega) ⟨_,rfl⟩ (fun _ y Ha Hb k ⟨p,h,c⟩ => ⟨p,Ps4.keeps p y Ha Hb k h,c⟩) (fun i a v σ H' ha hv hσ s' Rf Rt _ hR => ?_) (fun pl H5 ys npl s5 hys hpl => ?_)
  ·obtain ⟨w1,rfl⟩ := hσ
   rw [List.getElem?_map,ha] at hv
   cases hv
   obtain ⟨ea,hal⟩ := J2R ha
   have hal' : a < cs.length := by omega
   have c1 : atI (cs.map V.int) (0 + (a : Int)) = some (.int cs[a]) := by rw [Int.zero_add]; exact J01 (by rw [List.getElem?_map,List.getElem?_eq_getElem hal']; rfl)
   have n1 : nms[a]? = some (nms[a]'(by omega)) := List.getElem?_eq_getElem (by omega)
   have r1 : rows[a]? = some (rows[a]'(by omega)) := List.getElem?_eq_getElem (by omega)
   generalize nms[a]'(by omega) = nm at n1
   generalize rows[a]'(by omega) = row at r1
   have n2 : atI (nms.map T) (0 + (a : Int)) = some (T nm) := by rw [Int.zero_add]; exact J01 (by rw [List.getElem?_map,n1]; rfl)
   have r2 : atI (rows.map T) (0 + (a : Int)) = some (T row) := by rw [Int.zero_add]; exact J01 (by rw [List.getElem?_map,r1]; rfl)
   obtain ⟨hrow1,hrow2⟩ := hrows row (List.mem_of_getElem? r1)
   have hrow7 : row.length ≤ 7 := by omega
   have a1 := s' _ _ ycl4
   have a2 := s' _ _ hnl4
   have a3 := s' _ _ hrl
   rw [← efar] at far0 far1
   walk_at "rd"
   intro t H6 p s6 ht hpn hpast hpk hpd hp9 hc0 hc1
   exact hR _ _ _ rfl ⟨_,rfl⟩ s6 ⟨p,⟨t,rfl,ht⟩,by rw [hpn]; exact n1,hpast,⟨row,r1,hpk,hpd⟩,hp9,hc0,hc1⟩
  rw [List.filter_eq_self.mpr fun _ _ => rfl] at hys
  have hpl5 := hys.len
  rw [List.length_range] at hpl5
  obtain ⟨ps,aP,hps⟩ := Jek (H := H5) (ys := ys) (C := fun k p => nms[k]? = some p.nm ∧ p.past = [] ∧ (∃ row,rows[k]? = some row ∧ (∀ c ∈ row,c ≠ 45 → c ∈ p.sk) ∧ (dut row : Int) ≤ p.most) ∧ p.most ≤ 9 ∧ 0 ≤ p.car ∧ p.car < 2 ^ 200) fun j y hy => by
   obtain ⟨a,ha,p,h1,h2⟩ := hys.back hy
   rw [(J2R ha).1] at h2
   exact ⟨p,h1,h2⟩
  have hpsl := aP.len
  have hS5 := s5.seq hS4
  have ycl5 := s5 _ _ ycl4
  have hnl5 := s5 _ _ hnl4
  have hrl5 := s5 _ _ hrl
  have hrd : ∀ r ∈ rows,(r.length : Int) = dd := fun r hr => (hrows r hr).1
  have hrn5 : rows.length ≤ 5 := by omega
  clear hys hS4 ycl4 hnl4 hrl s5 npl far0 far1 efar
  walk_at "rd"
  intro nl H6 nds xs s6 fnl hnl aN hNd
  have hS6 := s6.seq hS5
  have ycl6 := s6 _ _ ycl5
  have hnl6 := s6 _ _ hnl5
  have hrl6 := s6 _ _ hrl5
  have hpl6 := s6 _ _ hpl
  have qcl6 : SqL K H6 cl (cs.map V.int) := SqL.of ycl6
  have hnn' : nms.length = cs.length := by omega
  have hr7 : ∀ r ∈ rows,r.length ≤ 7 := fun r hr => by have := hrd r hr; omega
  walk_at "rd"
  intro ll H7 ls zs s7 fll hll aL hLv hLl
  have hnl7 := s7 _ _ hnl
  have hpl7 := s7 _ _ hpl6
  have hrl7 := s7 _ _ hrl6
  have hS7 := s7.seq hS6
  have aN7 := aN.imp fun a y => NdAt.keeps a y _ _ s7.keeps
  have aP7 := aP.imp fun a y => Ps4.keeps a y _ _ (s6.trans s7).keeps
  walk_at "rd"
  intro t ft
  have sT := JB (H := H7) ft (.tup [.int dd,T ks,.ref nl,.ref pl,.ref ll])
  have hP8 : Pt5 (upd H7 t (.tup [.int dd,T ks,.ref nl,.ref pl,.ref ll])) t dd ks nds ps ls nl pl ll xs ys zs := ⟨Jd,sT _ _ hnl7,aN7.imp fun a y => NdAt.keeps a y _ _ sT.keeps,sT _ _ hpl7,aP7.imp fun a y => Ps4.keeps a y _ _ sT.keeps,sT _ _ hll,aL.imp fun a y => LvT.keeps a y _ _ sT.keeps⟩
  have hrl8 := sT _ _ hrl7
  have hS8 := sT.seq hS7
  generalize upd H7 t (.tup [.int dd,T ks,.ref nl,.ref pl,.ref ll]) = H8 at hP8 hrl8 hS8 ⊢
  clear sT ft hnl7 hpl7 hrl7 hS7 aN7 aP7 hll aL s7 hnl aN hS6 ycl6 hnl6 hrl6 hpl6 qcl6 s6 hS5 ycl5 hnl5 hrl5 hpl aP fnl fll
  have hRota : Rota rows ps ls nds := by
   refine ⟨by omega,fun i p row hp hr => ?_,fun i j p p' hp hp' e => ?_,fun l hl => ?_,fun n hn => ?_⟩
   ·obtain ⟨_,_,⟨row',h1,h2,h3⟩,_⟩ := hps i p hp
    rw [hr] at h1
    cases h1
    exact ⟨h2,h3⟩
   ·have a1 := (hps i p hp).1
    have a2 := (hps j p' hp').1
    rw [← e] at a2
    exact hnU i j _ a1 a2
   ·obtain ⟨i,row,h1,h2,h3,h4⟩ := hLv l hl
    have hi := (List.getElem?_eq_some_iff.mp h1).1
    have hp : ps[i]? = some (ps[i]'(by omega)) := List.getElem?_eq_getElem (by omega)
    refine ⟨i,_,row,hp,h2,?_,h3,h4⟩
    have := (hps i _ hp).1
    rw [h1] at this
    exact (Option.some.inj this).symm
   ·obtain ⟨k1,k2,k3⟩ := hNd.k n hn
    exact ⟨k2,hk45 _ k1,(hNd.f n hn).1⟩
  have hlr : rows.length = ps.length := hRota.len
  have p5 : ps.length ≤ 5 := by omega
  have hpast : ∀ p ∈ ps,p.past = [] := fun p hp => by
   obtain ⟨j,hj⟩ := List.getElem?_of_mem hp
   exact (hps j p hj).2.1
  have hpm : ∀ n ∈ ps,0 ≤ n.most ∧ n.most ≤ 9 := fun n hn => by
   obtain ⟨j,hj⟩ := List.getElem?_of_mem hn
   obtain ⟨_,_,⟨row,_,_,hm⟩,h9,_⟩ := hps j n hj
   exact ⟨by omega,h9⟩
  have hsm : ∀ n ∈ nds,(-(2 ^ 64) < n.least ∧ n.least < 2 ^ 64) ∧ (-(2 ^ 64) < n.most ∧ n.most < 2 ^ 64) := fun n hn => by
   obtain ⟨⟨f0,f1⟩,f2,f3⟩ := hNd.f n hn
   exact ⟨⟨by omega,by omega⟩,⟨by omega,by omega⟩⟩
  have n21 := hNd.l
  have hOk : PlOk ks nds ps := ⟨hkl3,n21,p5,hNd.u,fun n hn => (hNd.k n hn).1⟩
  have dd0 : 0 ≤ dd := by omega
  have hun := hRota.nms
  obtain ⟨k0,kr,rfl⟩ : ∃ k0 kr,ks = k0 :: kr := by
   cases ks with
   | nil => simp at hkl; omega
   | cons a r => exact ⟨a,r,rfl⟩
  have hk0 := hkcap k0 List.mem_cons_self
  have k63 : k0 ≠ 63 := fun z => by omega
  have k35 : k0 ≠ 35 := fun z => by omega
  clear hRota hNd hLv hps hnU
  walk_at "rd"
  generalize decide (V.int (Jz ns 0 / 12 % 2) = V.int 1) = ruled
  intro ho H9 u5 u6 rls prs s9 hHq hHo hRu hPr r6 p2' hin hRP
  have hP9 := hP8.same s9
  have hrl9 := s9 _ _ hrl8
  have hS9 := s9.seq hS8
  clear hP8 hrl8 hS8
  have p39 : CPow 10 39 := ⟨by decide,by decide,by decide⟩
  have p39' : (0 : Int) < 10 ^ (39 : Int).toNat := by decide
  have cm : CMul (Jz ns 1 / 27 % 2) (Jz ns 1 % 10 ^ (39 : Int).toNat) := .inl ⟨by omega,by omega⟩
  have w0 : 0 ≤ Jz ns 0 / 24 % 3 := Int.emod_nonneg _ (by decide)
  have w3 : Jz ns 0 / 24 % 3 < 3 := Int.emod_lt_of_pos _ (by decide)
  have hp100 : (ps.map p2).length ≤ 100 := by rw [List.length_map]; omega
  walk_at "rd"
  intro cx dcx n1 n2 n3
  have sc1 : Same H9 (upd (upd H9 dcx (.own cx)) cx (.ins Ji dcx [])) := (JB n2 _).upd n1
  have hcx : upd (upd H9 dcx (.own cx)) cx (.ins Ji dcx []) cx = some (.ins Ji dcx []) := Jd
  generalize upd (upd H9 dcx (.own cx)) cx (.ins Ji dcx []) = Ha at sc1 hcx ⊢
  obtain ⟨lv,elv⟩ : ∃ lv : Int,Jz ns 1 / 3 % 9 + Jz ns 1 / 27 % 2 * (Jz ns 1 % 10 ^ (39 : Int).toNat) = lv := ⟨_,rfl⟩
  rw [elv]
  generalize Jz ns 0 / 24 % 3 = way at w0 w3 ⊢
  have hHoA := hHo.same sc1
  walk_at "rd"
  intro c1 Hb sb hst1
  have hLv := hst1.here
  have hrlb := (sc1.trans sb) _ _ hrl9
  have hIb : SqL K Hb rl (rows.map T) ∨ SqT K Hb rl (rows.map T) := .inl (SqL.of hrlb)
  walk_at "rd"
  intro l fl
  obtain ⟨Hc,ec,yl,sc2⟩ := newl (xs := rows.map T) fl
  rw [← ec]
  walk_at "rd"
  intro c2 Hd sd hst2
  have hCh := hst2.here
  walk_at "rd"
  intro lc flc
  obtain ⟨He,ee,ylc,se⟩ := newl (xs := [V.ref cx,V.ref c1,V.ref c2]) flc
  rw [← ee]
  have Sbe := (sc2.trans sd).trans se
  have S9e := (sc1.trans sb).trans Sbe
  obtain ⟨c,hc,hCo⟩ : ∃ c,atI [V.ref cx,V.ref c1,V.ref c2] way = some (.ref c) ∧ CoQ P w K mg base He c (cntC (wyF way) [] ps lv) (mrkC (wyF way) [] rows) ps.length dd := by
   have h3 : way = 0 ∨ way = 1 ∨ way = 2 := by omega
   rcases h3 with rfl | rfl | rfl
   ·exact ⟨cx,by simp [atI,ixN],Je5 tx ((sb.trans Sbe) _ _ hcx)⟩
   ·exact ⟨c1,by simp [atI,ixN],JcU tx (hLv.same Sbe)⟩
   ·exact ⟨c2,by simp [atI,ixN],Jc7 tx (hCh.same se) hlr dd7 hrd⟩
  have hrle := S9e _ _ hrl9
  have hPe := hP9.same S9e
  have hSe := S9e.seq hS9
  have hHqe := hHq.same S9e
  have hRue := hRu.imp fun a y => RuT.keeps a y _ _ S9e.keeps
  have hPre := hPr.imp fun a y => PrT.keeps a y _ _ S9e.keeps
  clear hrlb hIb hLv hCh hst1 hst2 hHoA hHo hcx ec ee yl sc2 sd se Sbe sb sc1 S9e hP9 hrl9 hS9 hHq hRu hPr s9
  have w2 : way ≤ 2 := by omega
  walk_at "rd"
  intro tl Hf told sf ftl htl htn htd
  have hPf := hPe.same sf
  have hrlf := sf _ _ hrle
  have hSf := sf.seq hSe
  have htn' : told.length = ps.length := by omega
  walk_at "rd"
  intro Hg sg
  obtain ⟨z,ez⟩ : ∃ z,totN (fT (wyF way) [] ps lv) (gT (wyF way) [] rows) told told.length = z := ⟨_,rfl⟩
  rw [ez]
  walk_at "rd"
  refine Or.inr ⟨_,rfl,?_⟩
  walk_at "rd"
  obtain ⟨tot,etot⟩ : ∃ tot : Int,z + (if decide (V.int (Jz ns 1 / 54 % 4) = V.int 1) = true then 1 else 0) = tot := ⟨_,rfl⟩
  rw [etot]
  have hSg := sg.seq hSf
  have hPg := hPf.same sg
  walk_at "rd"
  intro pp Hh sh hPp
  have Seh := (sf.trans sg).trans sh
  have hHqh := hHqe.same Seh
  have hCh := hCo.same Seh
  have hPh := hPe.same Seh
  have hrlh := Seh _ _ hrle
  have htlh := (sg.trans sh) _ _ htl
  have hRuh := hRue.imp fun a y => RuT.keeps a y _ _ Seh.keeps
  have hPrh := hPre.imp fun a y => PrT.keeps a y _ _ Seh.keeps
  obtain ⟨v,hPap,hv⟩ := JeK tx hPp hHqh.k hCh hOk hsm hpm dd0 dd7
  obtain ⟨C,dxp,fsp,kp,psp,spp,hpp,lk1,Mp,hk4,A1⟩ := id hPap
  clear hPe hrle hSe hHqe hRue hPre hCo hPf hrlf hSf hPg hSg htl sf sg sh Seh hPp
  walk_at "rd"
  refine A1 _ _ (Same.refl _) fun Hi si => ?_
  have hFt : FtQ P w K mg base J7 J4 Hh ho dd (k0 :: kr) nds ps ls u5 u6 told rls prs := ⟨hHqh,htn',by omega,by omega,dd0,by omega,htd,fun n hn => by rw [hpast n hn]; exact Nat.zero_le _,hRuh,r6,hPrh,p2',hin⟩
  have hgo := JcV (ks := k0 :: kr) (nds := nds) (ls := ls) (dn := dd.toNat) hRP k63 k35 htn' (fun r hr => by have := htd r hr; omega) (fun p hp => (hpm p hp).1) hpast
  have hPi := hPh.same si
  have htli := si _ _ htlh
  walk_at "rd"
  refine tCut.mk (fun σ' H' => Here (σ' = [some (.ref sc),some (.int (Jz ns 0)),some (.int (Jz ns 1)),some (.int dd),some (T (k0 :: kr)),some (.ref cl),some (.ref nl0),some (.ref rl),some (.ref pl),some (.ref nl),some (.ref t),some (.bl ruled),some (.ref ho),some (.int way),some (.int lv),some (.ref c),some (.ref tl),some (.int tot),some (.ref pp),some v,some (.bl (goB dd.toNat (k0 :: kr) nds ls ruled k0 ps told && decide (v = .int tot))),none,none,none,none] ∧ Same Hh H')) ?_ ?_
  ·walk_at "rd"
   intro Hj sj
   cases hg : goB dd.toNat (k0 :: kr) nds ls ruled k0 ps told with
   | false =>
    walk_at "rd"
    exact Here.mk ⟨rfl,si.trans sj⟩
   | true =>
    rcases hv with rfl | ⟨z',rfl⟩
    ·walk_at "rd"
     exact Here.mk ⟨rfl,si.trans sj⟩
    ·walk_at "rd"
     exact Here.mk ⟨rfl,si.trans sj⟩
  clear hPi htli si
  rintro σ' Hj hv'
  obtain ⟨rfl,sj⟩ := hv'.out
  clear hv'
  obtain ⟨D1,eD1⟩ : ∃ D1,(goB dd.toNat (k0 :: kr) nds ls ruled k0 ps told && decide (v = .int tot)) = D1 := ⟨_,rfl⟩
  rw [eD1]
  have hPj := hPh.same sj
  have htlj := sj _ _ htlh
  have hrlj := sj _ _ hrlh
  refine tCut.mk (fun σ' H' => Here (σ' = [some (.ref sc),some (.int (Jz ns 0)),some (.int (Jz ns 1)),some (.int dd),some (T (k0 :: kr)),some (.ref cl),some (.ref nl0),some (.ref rl),some (.ref pl),some (.ref nl),some (.ref t),some (.bl ruled),some (.ref ho),some (.int way),some (.int lv),some (.ref c),some (.ref tl),some (.int tot),some (.ref pp),some v,some (.bl (D1 && decide (V.int tot = V.int z))),none,none,none,none] ∧ Same Hh H')) ?_ ?_
  ·cases D1 with
   | false =>
    walk_at "rd"
    exact Here.mk ⟨rfl,sj⟩
   | true =>
    walk_at "rd"
    intro Hk sk
    rw [ez]
    walk_at "rd"
    exact Here.mk ⟨rfl,sj.trans sk⟩
  clear hPj htlj hrlj sj
  rintro σ' Hk hv'
  obtain ⟨rfl,sk⟩ := hv'.out
  clear hv'
  have hstd : stdB (allF (k0 :: kr) nds ls rls prs ps told dd.toNat) z tot v = (D1 && decide (V.int tot = V.int z)) := by
   unfold stdB
   rw [← hgo,← eD1,iV,Bool.and_assoc]
   congr 1
   rw [Bool.and_comm]
   congr 1
   exact decide_eq_decide.mpr ⟨fun y => y.symm,fun y => y.symm⟩
  obtain ⟨DD,eDD⟩ : ∃ DD,(D1 && decide (V.int tot = V.int z)) = DD := ⟨_,rfl⟩
  rw [eDD] at hstd ⊢
  clear hgo eD1 eDD
  have htlk := sk _ _ htlh
  have hIk : SqL K Hk tl (told.map T) ∨ SqT K Hk tl (told.map T) := .inl (SqL.of htlk)
  walk_at "rd"
  intro hl fhl
  obtain ⟨Hl,el,yhl,sl⟩ := newl (xs := told.map T) fhl
  rw [← el]
  walk_at "rd"
  intro ap dxa aa Hm sm hap haa faa
  have yhlm := sm _ _ yhl
  have naa : aa ≠ hl := (Je yhl faa).symm
  have nap : ap ≠ hl := Jb5 hap yhlm (fun z => by cases z)
  have hl1 : (told.map T).length ≤ 1000 := by rw [List.length_map]; omega
  have Sn : Same Hh (upd Hm hl (.lst (told.map T ++ [T [45]]))) := (sk.trans (sl.trans sm)).upd (sk.free fhl)
  have hapn : upd Hm hl (.lst (told.map T ++ [T [45]])) ap = some (.ins Jf dxa (fF (.ref aa) (.int tot) (.ref pp))) := by rw [Jj nap]; exact hap
  have haan : upd Hm hl (.lst (told.map T ++ [T [45]])) aa = some (.lst (told.map T)) := by rw [Jj naa]; exact haa
  have hFtn := hFt.same Sn
  have hCon := (hCh.same Sn).at htn' htd dd7
  have hPapn := hPap.same Sn
  have l1 := J87 (V.ref aa) (V.int tot) (V.ref pp)
  walk_at "rd"
  intro Ho so
  rw [show totN (fun p row => cntC (wyF way) [] ps lv (p : Int) (dut row : Int)) (fun p d c => mrkC (wyF way) [] rows (p : Int) (d : Int) c) told told.length = z from ez,hstd]
  have So := Sn.trans so
  have hapo := so _ _ hapn
  have haao := so _ _ haan
  have htlo := So _ _ htlh
  have hPapo := hPapn.same so
  have qaa : SqL K Ho aa (told.map T) := SqL.of haao
  have qtl : SqL K Ho tl (told.map T) := SqL.of htlo
  have flt := Jf3 told
  have ee := J5D flt
  have db : decide (V.bl DD = V.bl DD) = true := decide_eq_true rfl
  have di : decide (V.int tot = V.int tot) = true := decide_eq_true rfl
  have cF := tx.J3Y.cl
  have nF1 := tx.J1a
  have nF2 := tx.J0W
  have nF3 := tx.J0S
  clear hFtn hCon hapn haan hPapn hFt hCh hHqh hRuh hPrh
  walk_at "rd"
  rw [db]
  walk_at "rd"
  rw [ee]
  walk_at "rd"
  rw [di]
  walk_at "rd"
  intro wp dxw Hp sp hwp
  have hPapp := hPapo.same sp
  have l2 := J7X (V.ref pp)
  walk_at "rd"
  intro Hq sq
  have hapq := (sp.trans sq) _ _ hapo
  have hPapq := hPapp.same sq
  have y1 := tx.Jdp
  have y2 := tx.J1F
  rcases hv with rfl | ⟨z',rfl⟩
  ·have DEC1 : decide (V.bl (decide (V.non = V.non)) = V.bl (decide (V.non = V.non))) = true := decide_eq_true rfl
   have DEC2 : decide (V.non = V.non) = true := decide_eq_true rfl
   walk_at "rd"
   try rw [DEC1]
   walk_at "rd"
   intro ax dax m1 m2 m3
   have sx : Same Hq (upd (upd Hq dax (.own ax)) ax (.ins Jb dax [])) := (JB m2 _).upd m1
   have hax : upd (upd Hq dax (.own ax)) ax (.ins Jb dax []) ax = some (.ins Jb dax []) := Jd
   generalize upd (upd Hq dax (.own ax)) ax (.ins Jb dax []) = Hr at sx hax ⊢
   have l5 : List.lookup ("stands" : Str) ([] : List (Str × V)) = none := rfl
   have hapr := sx _ _ hapq
   obtain ⟨Cr,dxr,fsr,kr',psr,spr,hppr,lkr,Mr,hkr4,Ar⟩ := hPapq.same sx
   walk_at "rd"
   refine Ar _ _ (Same.refl _) fun Hs ss => ?_
   walk_at "rd"
   try rw [DEC2]
   exact q _
  ·have DEC1 : decide (V.bl (decide (V.int z' = V.non)) = V.bl (decide (V.int z' = V.non))) = true := decide_eq_true rfl
   have DEC2 : decide (V.int z' = V.int z') = true := decide_eq_true rfl
   walk_at "rd"
   try rw [DEC1]
   walk_at "rd"
   intro ax dax m1 m2 m3
   have sx : Same Hq (upd (upd Hq dax (.own ax)) ax (.ins Jb dax [])) := (JB m2 _).upd m1
   have hax : upd (upd Hq dax (.own ax)) ax (.ins Jb dax []) ax = some (.ins Jb dax []) := Jd
   generalize upd (upd Hq dax (.own ax)) ax (.ins Jb dax []) = Hr at sx hax ⊢
   have l5 : List.lookup ("stands" : Str) ([] : List (Str × V)) = none := rfl
   have hapr := sx _ _ hapq
   obtain ⟨Cr,dxr,fsr,kr',psr,spr,hppr,lkr,Mr,hkr4,Ar⟩ := hPapq.same sx
   walk_at "rd"
   refine Ar _ _ (Same.refl _) fun Hs ss => ?_
   walk_at "rd"
   try rw [DEC2]
   exact q _
end
open PySem.W in
theorem all_mk {l : OpenLaw} {w : World} {K : Frag} {h : Heap} {mg : Str → Option Value} {fa Jg J7 J4 Ji J1 J2 Jk Jc Ja Jb Jf J9 q1 q2 q3 q4 q5 q6 q7 q8 q9 q10 q11 q12 q13 q14 q15 q16 q17 q18 q19 q20 q21 q22 q23 q24 q25 q26 q27 q28 q29 q30 q31 q32 q33 q34 q35 q36 q37 q38 q39 q40 q41 q42 q43 q44 q45 q46 q47 q48 q49 q50 q51 q52 q53 q54 q55 q56 q57 q58 q59 q60 q61 : Addr} (X : K.In h) (G : h.Ns mainGlobals mg) (hfa : mg "law" = some (.ref fa))
  {od1 an1 od2 an2 od3 an3 od4 an4 od5 an5 od6 an6 od7 an7 od8 an8 od9 an9 od10 an10 od11 an11 od12 an12 od13 an13 od14 an14 od15 an15 od16 an16 od17 an17 od18 an18 od19 an19 od20 an20 od21 an21 od22 an22 od23 an23 od24 an24 od25 an25 od26 an26 od27 an27 od28 an28 od29 an29 od30 an30 od31 an31 od32 an32 od33 an33 od34 an34 od35 an35 od36 an36 od37 an37 od38 an38 od39 an39 od40 an40 od41 an41 od42 an42 od43 an43 od44 an44 od45 an45 od46 an46 od47 an47 od48 an48 od49 an49 od50 an50 od51 an51 od52 an52 od53 an53 od54 an54 od55 an55 od56 an56 od57 an57 od58 an58 od59 an59 od60 an60 od61 an61 : Option Addr} {sl1 sl2 sl3 sl4 sl5 sl6 sl7 sl8 sl9 sl10 sl11 sl12 sl13 sl14 sl15 sl16 sl17 sl18 sl19 sl20 sl21 sl22 sl23 sl24 sl25 sl26 sl27 sl28 sl29 sl30 sl31 sl32 sl33 sl34 sl35 sl36 sl37 sl38 sl39 sl40 sl41 sl42 sl43 sl44 sl45 sl46 sl47 sl48 sl49 sl50 sl51 sl52 sl53 sl54 sl55 sl56 sl57 sl58 sl59 sl60 sl61 : Array (Option Value)} {oc1 kV1 dc1 pm1 cd1 ct1 oc2 kV2 dc2 pm2 cd2 ct2 oc3 kV3 dc3 pm3 cd3 ct3 oc4 kV4 dc4 pm4 cd4 ct4 oc5 kV5 dc5 pm5 cd5 ct5 oc6 kV6 dc6 pm6 cd6 ct6 oc7 kV7 dc7 pm7 cd7 ct7 oc8 kV8 dc8 pm8 cd8 ct8 oc9 kV9 dc9 pm9 cd9 ct9 oc10 kV10 dc10 pm10 cd10 ct10 oc11 kV11 dc11 pm11 cd11 ct11 oc12 kV12 dc12 pm12 cd12 ct12 oc13 kV13 dc13 pm13 cd13 ct13 oc14 kV14 dc14 pm14 cd14 ct14 oc15 kV15 dc15 pm15 cd15 ct15 oc16 kV16 dc16 pm16 cd16 ct16 oc17 kV17 dc17 pm17 cd17 ct17 oc18 kV18 dc18 pm18 cd18 ct18 oc19 kV19 dc19 pm19 cd19 ct19 oc20 kV20 dc20 pm20 cd20 ct20 oc21 kV21 dc21 pm21 cd21 ct21 oc22 kV22 dc22 pm22 cd22 ct22 oc23 kV23 dc23 pm23 cd23 ct23 oc24 kV24 dc24 pm24 cd24 ct24 oc25 kV25 dc25 pm25 cd25 ct25 oc26 kV26 dc26 pm26 cd26 ct26 oc27 kV27 dc27 pm27 cd27 ct27 oc28 kV28 dc28 pm28 cd28 ct28 oc29 kV29 dc29 pm29 cd29 ct29 oc30 kV30 dc30 pm30 cd30 ct30 oc31 kV31 dc31 pm31 cd31 ct31 oc32 kV32 dc32 pm32 cd32 ct32 oc33 kV33 dc33 pm33 cd33 ct33 oc34 kV34 dc34 pm34 cd34 ct34 oc35 kV35 dc35 pm35 cd35 ct35 oc36 kV36 dc36 pm36 cd36 ct36 oc37 kV37 dc37 pm37 cd37 ct37 oc38 kV38 dc38 pm38 cd38 ct38 oc39 kV39 dc39 pm39 cd39 ct39 oc40 kV40 dc40 pm40 cd40 ct40 oc41 kV41 dc41 pm41 cd41 ct41 oc42 kV42 dc42 pm42 cd42 ct42 oc43 kV43 dc43 pm43 cd43 ct43 oc44 kV44 dc44 pm44 cd44 ct44 oc45 kV45 dc45 pm45 cd45 ct45 oc46 kV46 dc46 pm46 cd46 ct46 oc47 kV47 dc47 pm47 cd47 ct47 oc48 kV48 dc48 pm48 cd48 ct48 oc49 kV49 dc49 pm49 cd49 ct49 oc50 kV50 dc50 pm50 cd50 ct50 oc51 kV51 dc51 pm51 cd51 ct51 oc52 kV52 dc52 pm52 cd52 ct52 oc53 kV53 dc53 pm53 cd53 ct53 oc54 kV54 dc54 pm54 cd54 ct54 oc55 kV55 dc55 pm55 cd55 ct55 oc56 kV56 dc56 pm56 cd56 ct56 oc57 kV57 dc57 pm57 cd57 ct57 oc58 kV58 dc58 pm58 cd58 ct58 oc59 kV59 dc59 pm59 cd59 ct59 oc60 kV60 dc60 pm60 cd60 ct60 oc61 kV61 dc61 pm61 cd61 ct61 : Value}
  (J8u : nsIn K mainGlobals "Never" = some (some (.ref Jg)))
  (J6i : nsIn K mainGlobals "Person" = some (some (.ref J7)))
  (J8n : nsIn K mainGlobals "House" = some (some (.ref J4)))
  (J8k : nsIn K mainGlobals "Costs" = some (some (.ref Ji)))
  (J31 : nsIn K mainGlobals "ChangeCosts" = some (some (.ref J1)))
  (J3j : nsIn K mainGlobals "LevelCosts" = some (some (.ref J2)))
  (J8D : nsIn K mainGlobals "Paper" = some (some (.ref Jk)))
  (J6h : nsIn K mainGlobals "Places" = some (some (.ref Jc)))
  (J6c : nsIn K mainGlobals "Prices" = some (some (.ref Ja)))
  (J6F : nsIn K mainGlobals "Answer" = some (some (.ref Jb)))
  (J8v : nsIn K mainGlobals "Found" = some (some (.ref Jf)))
  (J5x : nsIn K mainGlobals "Without" = some (some (.ref J9)))
  (a1 : findIn K (.ref J7) "__init__" = some (some (.ref q1)))
  (i1 : isFn K (.ref q1) = true)
  (l1 : K.lookup q1 = some ⟨oc1,od1,.func (fnOf "__init__" "Person.__init__" (Jp J1u) (Jn J1u) (J3 J1u) .none kV1 dc1 pm1 an1 cd1 ct1),sl1⟩)
  (c1 : codeIn K cd1 "Person.__init__" = true)
  (k1 : keepIn K (.ref q1) = true)
  (a2 : findIn K (.ref J4) "__init__" = some (some (.ref q2)))
  (i2 : isFn K (.ref q2) = true)
  (l2 : K.lookup q2 = some ⟨oc2,od2,.func (fnOf "__init__" "House.__init__" (Jp J1Y) (Jn J1Y) (J3 J1Y) .none kV2 dc2 pm2 an2 cd2 ct2),sl2⟩)
  (c2 : codeIn K cd2 "House.__init__" = true)
  (k2 : keepIn K (.ref q2) = true)
  (a3 : findIn K (.ref J4) "place_of" = some (some (.ref q3)))
  (i3 : isFn K (.ref q3) = true)
  (l3 : K.lookup q3 = some ⟨oc3,od3,.func (fnOf "place_of" "House.place_of" (Jp J0y) (Jn J0y) (J3 J0y) .none kV3 dc3 pm3 an3 cd3 ct3),sl3⟩)
  (c3 : codeIn K cd3 "House.place_of" = true)
  (k3 : keepIn K (.ref q3) = true)
  (a4 : nsIn K mainGlobals "burdens_of" = some (some (.ref q4)))
  (l4 : K.lookup q4 = some ⟨oc4,od4,.func (fnOf "burdens_of" "burdens_of" (Jp J19) (Jn J19) (J3 J19) .none kV4 dc4 pm4 an4 cd4 ct4),sl4⟩)
  (c4 : codeIn K cd4 "burdens_of" = true)
  (k4 : keepIn K (.ref q4) = true)
  (a5 : findIn K (.ref J1) "__init__" = some (some (.ref q5)))
  (i5 : isFn K (.ref q5) = true)
  (l5 : K.lookup q5 = some ⟨oc5,od5,.func (fnOf "__init__" "ChangeCosts.__init__" (Jp J0d) (Jn J0d) (J3 J0d) .none kV5 dc5 pm5 an5 cd5 ct5),sl5⟩)
  (c5 : codeIn K cd5 "ChangeCosts.__init__" = true)
  (k5 : keepIn K (.ref q5) = true)
  (a6 : findIn K (.ref J2) "__init__" = some (some (.ref q6)))
  (i6 : isFn K (.ref q6) = true)
  (l6 : K.lookup q6 = some ⟨oc6,od6,.func (fnOf "__init__" "LevelCosts.__init__" (Jp J0p) (Jn J0p) (J3 J0p) .none kV6 dc6 pm6 an6 cd6 ct6),sl6⟩)
  (c6 : codeIn K cd6 "LevelCosts.__init__" = true)
  (k6 : keepIn K (.ref q6) = true)
  (a7 : findIn K (.ref Ji) "of_count" = some (some (.ref q7)))
  (i7 : isFn K (.ref q7) = true)
  (l7 : K.lookup q7 = some ⟨oc7,od7,.func (fnOf "of_count" "Costs.of_count" (Jp JH) (Jn JH) (J3 JH) .none kV7 dc7 pm7 an7 cd7 ct7),sl7⟩)
  (c7 : codeIn K cd7 "Costs.of_count" = true)
  (k7 : keepIn K (.ref q7) = true)
  (a8 : findIn K (.ref J1) "of_count" = some (some (.ref q8)))
  (i8 : isFn K (.ref q8) = true)
  (l8 : K.lookup q8 = some ⟨oc8,od8,.func (fnOf "of_count" "Costs.of_count" (Jp JH) (Jn JH) (J3 JH) .none kV8 dc8 pm8 an8 cd8 ct8),sl8⟩)
  (c8 : codeIn K cd8 "Costs.of_count" = true)
  (k8 : keepIn K (.ref q8) = true)
  (a9 : findIn K (.ref Ji) "of_mark" = some (some (.ref q9)))
  (i9 : isFn K (.ref q9) = true)
  (l9 : K.lookup q9 = some ⟨oc9,od9,.func (fnOf "of_mark" "Costs.of_mark" (Jp JJ) (Jn JJ) (J3 JJ) .none kV9 dc9 pm9 an9 cd9 ct9),sl9⟩)
  (c9 : codeIn K cd9 "Costs.of_mark" = true)
  (k9 : keepIn K (.ref q9) = true)
  (a10 : findIn K (.ref J2) "of_mark" = some (some (.ref q10)))
  (i10 : isFn K (.ref q10) = true)
  (l10 : K.lookup q10 = some ⟨oc10,od10,.func (fnOf "of_mark" "Costs.of_mark" (Jp JJ) (Jn JJ) (J3 JJ) .none kV10 dc10 pm10 an10 cd10 ct10),sl10⟩)
  (c10 : codeIn K cd10 "Costs.of_mark" = true)
  (k10 : keepIn K (.ref q10) = true)
  (a11 : findIn K (.ref J1) "of_mark" = some (some (.ref q11)))
  (i11 : isFn K (.ref q11) = true)
  (l11 : K.lookup q11 = some ⟨oc11,od11,.func (fnOf "of_mark" "ChangeCosts.of_mark" (Jp JW) (Jn JW) (J3 JW) .none kV11 dc11 pm11 an11 cd11 ct11),sl11⟩)
  (c11 : codeIn K cd11 "ChangeCosts.of_mark" = true)
  (k11 : keepIn K (.ref q11) = true)
  (a12 : findIn K (.ref J2) "of_count" = some (some (.ref q12)))
  (i12 : isFn K (.ref q12) = true)
  (l12 : K.lookup q12 = some ⟨oc12,od12,.func (fnOf "of_count" "LevelCosts.of_count" (Jp JV) (Jn JV) (J3 JV) .none kV12 dc12 pm12 an12 cd12 ct12),sl12⟩)
  (c12 : codeIn K cd12 "LevelCosts.of_count" = true)
  (k12 : keepIn K (.ref q12) = true)
  (a13 : findIn K (.ref J4) "need" = some (some (.ref q13)))
  (i13 : isFn K (.ref q13) = true)
  (l13 : K.lookup q13 = some ⟨oc13,od13,.func (fnOf "need" "House.need" (Jp J1U) (Jn J1U) (J3 J1U) .none kV13 dc13 pm13 an13 cd13 ct13),sl13⟩)
  (c13 : codeIn K cd13 "House.need" = true)
  (k13 : keepIn K (.ref q13) = true)
  (a14 : findIn K (.ref J4) "may" = some (some (.ref q14)))
  (i14 : isFn K (.ref q14) = true)
  (l14 : K.lookup q14 = some ⟨oc14,od14,.func (fnOf "may" "House.may" (Jp J17) (Jn J17) (J3 J17) .none kV14 dc14 pm14 an14 cd14 ct14),sl14⟩)
  (c14 : codeIn K cd14 "House.may" = true)
  (k14 : keepIn K (.ref q14) = true)
  (a15 : nsIn K mainGlobals "floor_of_need" = some (some (.ref q15)))
  (l15 : K.lookup q15 = some ⟨oc15,od15,.func (fnOf "floor_of_need" "floor_of_need" (Jp J0K) (Jn J0K) (J3 J0K) .none kV15 dc15 pm15 an15 cd15 ct15),sl15⟩)
  (c15 : codeIn K cd15 "floor_of_need" = true)
  (k15 : keepIn K (.ref q15) = true)
  (a16 : nsIn K mainGlobals "charges_by_place" = some (some (.ref q16)))
  (l16 : K.lookup q16 = some ⟨oc16,od16,.func (fnOf "charges_by_place" "charges_by_place" (Jp J0c) (Jn J0c) (J3 J0c) .none kV16 dc16 pm16 an16 cd16 ct16),sl16⟩)
  (c16 : codeIn K cd16 "charges_by_place" = true)
  (k16 : keepIn K (.ref q16) = true)
  (a17 : nsIn K mainGlobals "floor_of_counts" = some (some (.ref q17)))
  (l17 : K.lookup q17 = some ⟨oc17,od17,.func (fnOf "floor_of_counts" "floor_of_counts" (Jp J07) (Jn J07) (J3 J07) .none kV17 dc17 pm17 an17 cd17 ct17),sl17⟩)
  (c17 : codeIn K cd17 "floor_of_counts" = true)
  (k17 : keepIn K (.ref q17) = true)
  (a18 : nsIn K mainGlobals "floor_of_day" = some (some (.ref q18)))
  (l18 : K.lookup q18 = some ⟨oc18,od18,.func (fnOf "floor_of_day" "floor_of_day" (Jp J0D) (Jn J0D) (J3 J0D) .none kV18 dc18 pm18 an18 cd18 ct18),sl18⟩)
  (c18 : codeIn K cd18 "floor_of_day" = true)
  (k18 : keepIn K (.ref q18) = true)
  (a19 : findIn K (.ref Ja) "__init__" = some (some (.ref q19)))
  (i19 : isFn K (.ref q19) = true)
  (l19 : K.lookup q19 = some ⟨oc19,od19,.func (fnOf "__init__" "Prices.__init__" (Jp J1m) (Jn J1m) (J3 J1m) .none kV19 dc19 pm19 an19 cd19 ct19),sl19⟩)
  (c19 : codeIn K cd19 "Prices.__init__" = true)
  (k19 : keepIn K (.ref q19) = true)
  (a20 : findIn K (.ref Ja) "floor" = some (some (.ref q20)))
  (i20 : isFn K (.ref q20) = true)
  (l20 : K.lookup q20 = some ⟨oc20,od20,.func (fnOf "floor" "Prices.floor" (Jp J0l) (Jn J0l) (J3 J0l) .none kV20 dc20 pm20 an20 cd20 ct20),sl20⟩)
  (c20 : codeIn K cd20 "Prices.floor" = true)
  (k20 : keepIn K (.ref q20) = true)
  (a21 : nsIn K mainGlobals "able_to_do" = some (some (.ref q21)))
  (l21 : K.lookup q21 = some ⟨oc21,od21,.func (fnOf "able_to_do" "able_to_do" (Jp J1f) (Jn J1f) (J3 J1f) .none kV21 dc21 pm21 an21 cd21 ct21),sl21⟩)
  (c21 : codeIn K cd21 "able_to_do" = true)
  (k21 : keepIn K (.ref q21) = true)
  (a22 : findIn K (.ref Jc) "__init__" = some (some (.ref q22)))
  (i22 : isFn K (.ref q22) = true)
  (l22 : K.lookup q22 = some ⟨oc22,od22,.func (fnOf "__init__" "Places.__init__" (Jp J1k) (Jn J1k) (J3 J1k) .none kV22 dc22 pm22 an22 cd22 ct22),sl22⟩)
  (c22 : codeIn K cd22 "Places.__init__" = true)
  (k22 : keepIn K (.ref q22) = true)
  (a23 : findIn K (.ref Jc) "floor" = some (some (.ref q23)))
  (i23 : isFn K (.ref q23) = true)
  (l23 : K.lookup q23 = some ⟨oc23,od23,.func (fnOf "floor" "Places.floor" (Jp J06) (Jn J06) (J3 J06) .none kV23 dc23 pm23 an23 cd23 ct23),sl23⟩)
  (c23 : codeIn K cd23 "Places.floor" = true)
  (k23 : keepIn K (.ref q23) = true)
  (a24 : nsIn K mainGlobals "duties_in" = some (some (.ref q24)))
  (l24 : K.lookup q24 = some ⟨oc24,od24,.func (fnOf "duties_in" "duties_in" (Jp J1I) (Jn J1I) (J3 J1I) .none kV24 dc24 pm24 an24 cd24 ct24),sl24⟩)
  (c24 : codeIn K cd24 "duties_in" = true)
  (k24 : keepIn K (.ref q24) = true)
  (a25 : nsIn K mainGlobals "total_of" = some (some (.ref q25)))
  (l25 : K.lookup q25 = some ⟨oc25,od25,.func (fnOf "total_of" "total_of" (Jp J2c) (Jn J2c) (J3 J2c) .none kV25 dc25 pm25 an25 cd25 ct25),sl25⟩)
  (c25 : codeIn K cd25 "total_of" = true)
  (k25 : keepIn K (.ref q25) = true)
  (a26 : nsIn K mainGlobals "on_duty" = some (some (.ref q26)))
  (l26 : K.lookup q26 = some ⟨oc26,od26,.func (fnOf "on_duty" "on_duty" (Jp J2o) (Jn J2o) (J3 J2o) .none kV26 dc26 pm26 an26 cd26 ct26),sl26⟩)
  (c26 : codeIn K cd26 "on_duty" = true)
  (k26 : keepIn K (.ref q26) = true)
  (a27 : nsIn K mainGlobals "skill_faults" = some (some (.ref q27)))
  (l27 : K.lookup q27 = some ⟨oc27,od27,.func (fnOf "skill_faults" "skill_faults" (Jp J0A) (Jn J0A) (J3 J0A) .none kV27 dc27 pm27 an27 cd27 ct27),sl27⟩)
  (c27 : codeIn K cd27 "skill_faults" = true)
  (k27 : keepIn K (.ref q27) = true)
  (a28 : nsIn K mainGlobals "leave_faults" = some (some (.ref q28)))
  (l28 : K.lookup q28 = some ⟨oc28,od28,.func (fnOf "leave_faults" "leave_faults" (Jp J0C) (Jn J0C) (J3 J0C) .none kV28 dc28 pm28 an28 cd28 ct28),sl28⟩)
  (c28 : codeIn K cd28 "leave_faults" = true)
  (k28 : keepIn K (.ref q28) = true)
  (a29 : nsIn K mainGlobals "need_faults" = some (some (.ref q29)))
  (l29 : K.lookup q29 = some ⟨oc29,od29,.func (fnOf "need_faults" "need_faults" (Jp J0R) (Jn J0R) (J3 J0R) .none kV29 dc29 pm29 an29 cd29 ct29),sl29⟩)
  (c29 : codeIn K cd29 "need_faults" = true)
  (k29 : keepIn K (.ref q29) = true)
  (a30 : nsIn K mainGlobals "most_faults" = some (some (.ref q30)))
  (l30 : K.lookup q30 = some ⟨oc30,od30,.func (fnOf "most_faults" "most_faults" (Jp J1l) (Jn J1l) (J3 J1l) .none kV30 dc30 pm30 an30 cd30 ct30),sl30⟩)
  (c30 : codeIn K cd30 "most_faults" = true)
  (k30 : keepIn K (.ref q30) = true)
  (a31 : findIn K (.ref J4) "rules_for" = some (some (.ref q31)))
  (i31 : isFn K (.ref q31) = true)
  (l31 : K.lookup q31 = some ⟨oc31,od31,.func (fnOf "rules_for" "House.rules_for" (Jp J08) (Jn J08) (J3 J08) .none kV31 dc31 pm31 an31 cd31 ct31),sl31⟩)
  (c31 : codeIn K cd31 "House.rules_for" = true)
  (k31 : keepIn K (.ref q31) = true)
  (a32 : nsIn K mainGlobals "rule_faults" = some (some (.ref q32)))
  (l32 : K.lookup q32 = some ⟨oc32,od32,.func (fnOf "rule_faults" "rule_faults" (Jp J0V) (Jn J0V) (J3 J0V) .none kV32 dc32 pm32 an32 cd32 ct32),sl32⟩)
  (c32 : codeIn K cd32 "rule_faults" = true)
  (k32 : keepIn K (.ref q32) = true)
  (a33 : nsIn K mainGlobals "breaks_pair" = some (some (.ref q33)))
  (l33 : K.lookup q33 = some ⟨oc33,od33,.func (fnOf "breaks_pair" "breaks_pair" (Jp J1p) (Jn J1p) (J3 J1p) .none kV33 dc33 pm33 an33 cd33 ct33),sl33⟩)
  (c33 : codeIn K cd33 "breaks_pair" = true)
  (k33 : keepIn K (.ref q33) = true)
  (a34 : nsIn K mainGlobals "pair_faults" = some (some (.ref q34)))
  (l34 : K.lookup q34 = some ⟨oc34,od34,.func (fnOf "pair_faults" "pair_faults" (Jp J1j) (Jn J1j) (J3 J1j) .none kV34 dc34 pm34 an34 cd34 ct34),sl34⟩)
  (c34 : codeIn K cd34 "pair_faults" = true)
  (k34 : keepIn K (.ref q34) = true)
  (a35 : nsIn K mainGlobals "faults" = some (some (.ref q35)))
  (l35 : K.lookup q35 = some ⟨oc35,od35,.func (fnOf "faults" "faults" (Jp J3c) (Jn J3c) (J3 J3c) .none kV35 dc35 pm35 an35 cd35 ct35),sl35⟩)
  (c35 : codeIn K cd35 "faults" = true)
  (k35 : keepIn K (.ref q35) = true)
  (a36 : nsIn K mainGlobals "fits" = some (some (.ref q36)))
  (l36 : K.lookup q36 = some ⟨oc36,od36,.func (fnOf "fits" "fits" (Jp J5p) (Jn J5p) (J3 J5p) .none kV36 dc36 pm36 an36 cd36 ct36),sl36⟩)
  (c36 : codeIn K cd36 "fits" = true)
  (k36 : keepIn K (.ref q36) = true)
  (a37 : nsIn K mainGlobals "last_marks" = some (some (.ref q37)))
  (l37 : K.lookup q37 = some ⟨oc37,od37,.func (fnOf "last_marks" "last_marks" (Jp J21) (Jn J21) (J3 J21) .none kV37 dc37 pm37 an37 cd37 ct37),sl37⟩)
  (c37 : codeIn K cd37 "last_marks" = true)
  (k37 : keepIn K (.ref q37) = true)
  (a38 : findIn K (.ref Jg) "__init__" = some (some (.ref q38)))
  (i38 : isFn K (.ref q38) = true)
  (l38 : K.lookup q38 = some ⟨oc38,od38,.func (fnOf "__init__" "Never.__init__" (Jp J23) (Jn J23) (J3 J23) .none kV38 dc38 pm38 an38 cd38 ct38),sl38⟩)
  (c38 : codeIn K cd38 "Never.__init__" = true)
  (k38 : keepIn K (.ref q38) = true)
  (a39 : findIn K (.ref Jg) "bad" = some (some (.ref q39)))
  (i39 : isFn K (.ref q39) = true)
  (l39 : K.lookup q39 = some ⟨oc39,od39,.func (fnOf "bad" "Never.bad" (Jp J1B) (Jn J1B) (J3 J1B) .none kV39 dc39 pm39 an39 cd39 ct39),sl39⟩)
  (c39 : codeIn K cd39 "Never.bad" = true)
  (k39 : keepIn K (.ref q39) = true)
  (a40 : findIn K (.ref Jk) "floor" = some (some (.ref q40)))
  (i40 : isFn K (.ref q40) = true)
  (l40 : K.lookup q40 = some ⟨oc40,od40,.func (fnOf "floor" "Paper.floor" (Jp J1o) (Jn J1o) (J3 J1o) .none kV40 dc40 pm40 an40 cd40 ct40),sl40⟩)
  (c40 : codeIn K cd40 "Paper.floor" = true)
  (k40 : keepIn K (.ref q40) = true)
  (a41 : findIn K (.ref Jf) "__init__" = some (some (.ref q41)))
  (i41 : isFn K (.ref q41) = true)
  (l41 : K.lookup q41 = some ⟨oc41,od41,.func (fnOf "__init__" "Found.__init__" (Jp J1W) (Jn J1W) (J3 J1W) .none kV41 dc41 pm41 an41 cd41 ct41),sl41⟩)
  (c41 : codeIn K cd41 "Found.__init__" = true)
  (k41 : keepIn K (.ref q41) = true)
  (a42 : findIn K (.ref Jf) "stands" = some (some (.ref q42)))
  (i42 : isFn K (.ref q42) = true)
  (l42 : K.lookup q42 = some ⟨oc42,od42,.func (fnOf "stands" "Found.stands" (Jp J10) (Jn J10) (J3 J10) .none kV42 dc42 pm42 an42 cd42 ct42),sl42⟩)
  (c42 : codeIn K cd42 "Found.stands" = true)
  (k42 : keepIn K (.ref q42) = true)
  (a43 : findIn K (.ref J9) "__init__" = some (some (.ref q43)))
  (i43 : isFn K (.ref q43) = true)
  (l43 : K.lookup q43 = some ⟨oc43,od43,.func (fnOf "__init__" "Without.__init__" (Jp J11) (Jn J11) (J3 J11) .none kV43 dc43 pm43 an43 cd43 ct43),sl43⟩)
  (c43 : codeIn K cd43 "Without.__init__" = true)
  (k43 : keepIn K (.ref q43) = true)
  (a44 : findIn K (.ref J9) "stands" = some (some (.ref q44)))
  (i44 : isFn K (.ref q44) = true)
  (l44 : K.lookup q44 = some ⟨oc44,od44,.func (fnOf "stands" "Without.stands" (Jp J0w) (Jn J0w) (J3 J0w) .none kV44 dc44 pm44 an44 cd44 ct44),sl44⟩)
  (c44 : codeIn K cd44 "Without.stands" = true)
  (k44 : keepIn K (.ref q44) = true)
  (a45 : findIn K (.ref Jb) "stands" = some (some (.ref q45)))
  (i45 : isFn K (.ref q45) = true)
  (l45 : K.lookup q45 = some ⟨oc45,od45,.func (fnOf "stands" "Answer.stands" (Jp J0I) (Jn J0I) (J3 J0I) .none kV45 dc45 pm45 an45 cd45 ct45),sl45⟩)
  (c45 : codeIn K cd45 "Answer.stands" = true)
  (k45 : keepIn K (.ref q45) = true)
  (a46 : nsIn K mainGlobals "_law_cell_at" = some (some (.ref q46)))
  (l46 : K.lookup q46 = some ⟨oc46,od46,.func (fnOf "_law_cell_at" "_law_cell_at" (Jp J1t) (Jn J1t) (J3 J1t) .none kV46 dc46 pm46 an46 cd46 ct46),sl46⟩)
  (c46 : codeIn K cd46 "_law_cell_at" = true)
  (k46 : keepIn K (.ref q46) = true)
  (a47 : nsIn K mainGlobals "_law_drawn" = some (some (.ref q47)))
  (l47 : K.lookup q47 = some ⟨oc47,od47,.func (fnOf "_law_drawn" "_law_drawn" (Jp J2g) (Jn J2g) (J3 J2g) .none kV47 dc47 pm47 an47 cd47 ct47),sl47⟩)
  (c47 : codeIn K cd47 "_law_drawn" = true)
  (k47 : keepIn K (.ref q47) = true)
  (a48 : nsIn K mainGlobals "_law_kinds" = some (some (.ref q48)))
  (l48 : K.lookup q48 = some ⟨oc48,od48,.func (fnOf "_law_kinds" "_law_kinds" (Jp J1H) (Jn J1H) (J3 J1H) .none kV48 dc48 pm48 an48 cd48 ct48),sl48⟩)
  (c48 : codeIn K cd48 "_law_kinds" = true)
  (k48 : keepIn K (.ref q48) = true)
  (a49 : nsIn K mainGlobals "_law_names" = some (some (.ref q49)))
  (l49 : K.lookup q49 = some ⟨oc49,od49,.func (fnOf "_law_names" "_law_names" (Jp J1G) (Jn J1G) (J3 J1G) .none kV49 dc49 pm49 an49 cd49 ct49),sl49⟩)
  (c49 : codeIn K cd49 "_law_names" = true)
  (k49 : keepIn K (.ref q49) = true)
  (a50 : nsIn K mainGlobals "_law_row" = some (some (.ref q50)))
  (l50 : K.lookup q50 = some ⟨oc50,od50,.func (fnOf "_law_row" "_law_row" (Jp J2p) (Jn J2p) (J3 J2p) .none kV50 dc50 pm50 an50 cd50 ct50),sl50⟩)
  (c50 : codeIn K cd50 "_law_row" = true)
  (k50 : keepIn K (.ref q50) = true)
  (a51 : nsIn K mainGlobals "_law_leave" = some (some (.ref q51)))
  (l51 : K.lookup q51 = some ⟨oc51,od51,.func (fnOf "_law_leave" "_law_leave" (Jp J2f) (Jn J2f) (J3 J2f) .none kV51 dc51 pm51 an51 cd51 ct51),sl51⟩)
  (c51 : codeIn K cd51 "_law_leave" = true)
  (k51 : keepIn K (.ref q51) = true)
  (a52 : nsIn K mainGlobals "_law_duties" = some (some (.ref q52)))
  (l52 : K.lookup q52 = some ⟨oc52,od52,.func (fnOf "_law_duties" "_law_duties" (Jp J1c) (Jn J1c) (J3 J1c) .none kV52 dc52 pm52 an52 cd52 ct52),sl52⟩)
  (c52 : codeIn K cd52 "_law_duties" = true)
  (k52 : keepIn K (.ref q52) = true)
  (a53 : nsIn K mainGlobals "_law_person" = some (some (.ref q53)))
  (l53 : K.lookup q53 = some ⟨oc53,od53,.func (fnOf "_law_person" "_law_person" (Jp J1e) (Jn J1e) (J3 J1e) .none kV53 dc53 pm53 an53 cd53 ct53),sl53⟩)
  (c53 : codeIn K cd53 "_law_person" = true)
  (k53 : keepIn K (.ref q53) = true)
  (a54 : nsIn K mainGlobals "_law_needs" = some (some (.ref q54)))
  (l54 : K.lookup q54 = some ⟨oc54,od54,.func (fnOf "_law_needs" "_law_needs" (Jp J1C) (Jn J1C) (J3 J1C) .none kV54 dc54 pm54 an54 cd54 ct54),sl54⟩)
  (c54 : codeIn K cd54 "_law_needs" = true)
  (k54 : keepIn K (.ref q54) = true)
  (a55 : nsIn K mainGlobals "_law_filled" = some (some (.ref q55)))
  (l55 : K.lookup q55 = some ⟨oc55,od55,.func (fnOf "_law_filled" "_law_filled" (Jp J0M) (Jn J0M) (J3 J0M) .none kV55 dc55 pm55 an55 cd55 ct55),sl55⟩)
  (c55 : codeIn K cd55 "_law_filled" = true)
  (k55 : keepIn K (.ref q55) = true)
  (a56 : nsIn K mainGlobals "_law_good" = some (some (.ref q56)))
  (l56 : K.lookup q56 = some ⟨oc56,od56,.func (fnOf "_law_good" "_law_good" (Jp J2n) (Jn J2n) (J3 J2n) .none kV56 dc56 pm56 an56 cd56 ct56),sl56⟩)
  (c56 : codeIn K cd56 "_law_good" = true)
  (k56 : keepIn K (.ref q56) = true)
  (a57 : nsIn K mainGlobals "_law_house" = some (some (.ref q57)))
  (l57 : K.lookup q57 = some ⟨oc57,od57,.func (fnOf "_law_house" "_law_house" (Jp J1K) (Jn J1K) (J3 J1K) .none kV57 dc57 pm57 an57 cd57 ct57),sl57⟩)
  (c57 : codeIn K cd57 "_law_house" = true)
  (k57 : keepIn K (.ref q57) = true)
  (a58 : nsIn K mainGlobals "_law_total" = some (some (.ref q58)))
  (l58 : K.lookup q58 = some ⟨oc58,od58,.func (fnOf "_law_total" "_law_total" (Jp J1L) (Jn J1L) (J3 J1L) .none kV58 dc58 pm58 an58 cd58 ct58),sl58⟩)
  (c58 : codeIn K cd58 "_law_total" = true)
  (k58 : keepIn K (.ref q58) = true)
  (a59 : nsIn K mainGlobals "_law_changed" = some (some (.ref q59)))
  (l59 : K.lookup q59 = some ⟨oc59,od59,.func (fnOf "_law_changed" "_law_changed" (Jp J1n) (Jn J1n) (J3 J1n) .none kV59 dc59 pm59 an59 cd59 ct59),sl59⟩)
  (c59 : codeIn K cd59 "_law_changed" = true)
  (k59 : keepIn K (.ref q59) = true)
  (a60 : nsIn K mainGlobals "_law_paper" = some (some (.ref q60)))
  (l60 : K.lookup q60 = some ⟨oc60,od60,.func (fnOf "_law_paper" "_law_paper" (Jp J0L) (Jn J0L) (J3 J0L) .none kV60 dc60 pm60 an60 cd60 ct60),sl60⟩)
  (c60 : codeIn K cd60 "_law_paper" = true)
  (k60 : keepIn K (.ref q60) = true)
  (a61 : nsIn K mainGlobals "law" = some (some (.ref q61)))
  (l61 : K.lookup q61 = some ⟨oc61,od61,.func (fnOf "law" "law" (Jp J39) (Jn J39) (J3 J39) .none kV61 dc61 pm61 an61 cd61 ct61),sl61⟩)
  (c61 : codeIn K cd61 "law" = true)
  (k61 : keepIn K (.ref q61) = true)
  (J6w : plainGet K Jg Str.empty = true)
  (J6J : hasDictIn K Jg = true)
  (J6U : plainOver K Jg = true)
  (J6z : findIn K (.ref Jg) "__setattr__" = some (some (.builtin "object.__setattr__")))
  (J6O : makesIn K Jg = true)
  (J6L : keepIn K (.ref Jg) = true)
  (J57 : plainGet K J7 Str.empty = true)
  (J5u : hasDictIn K J7 = true)
  (J5j : plainOver K J7 = true)
  (J5m : findIn K (.ref J7) "__setattr__" = some (some (.builtin "object.__setattr__")))
  (J5v : makesIn K J7 = true)
  (J5h : keepIn K (.ref J7) = true)
  (J6r : plainGet K J4 Str.empty = true)
  (J6K : hasDictIn K J4 = true)
  (J6g : plainOver K J4 = true)
  (J6H : findIn K (.ref J4) "__setattr__" = some (some (.builtin "object.__setattr__")))
  (J6M : makesIn K J4 = true)
  (J6e : keepIn K (.ref J4) = true)
  (J6o : plainGet K Ji Str.empty = true)
  (J6x : hasDictIn K Ji = true)
  (J6n : plainOver K Ji = true)
  (J6s : findIn K (.ref Ji) "__setattr__" = some (some (.builtin "object.__setattr__")))
  (J6I : makesIn K Ji = true)
  (J6Q : keepIn K (.ref Ji) = true)
  (J2I : plainGet K J1 Str.empty = true)
  (J2J : hasDictIn K J1 = true)
  (J2N : plainOver K J1 = true)
  (J2L : findIn K (.ref J1) "__setattr__" = some (some (.builtin "object.__setattr__")))
  (J2K : makesIn K J1 = true)
  (J2M : keepIn K (.ref J1) = true)
  (J32 : plainGet K J2 Str.empty = true)
  (J30 : hasDictIn K J2 = true)
  (J34 : plainOver K J2 = true)
  (J2Z : findIn K (.ref J2) "__setattr__" = some (some (.builtin "object.__setattr__")))
  (J33 : makesIn K J2 = true)
  (J2Y : keepIn K (.ref J2) = true)
  (J6B : plainGet K Jk Str.empty = true)
  (J6m : hasDictIn K Jk = true)
  (J6t : plainOver K Jk = true)
  (J6k : findIn K (.ref Jk) "__setattr__" = some (some (.builtin "object.__setattr__")))
  (J6q : makesIn K Jk = true)
  (J6Y : keepIn K (.ref Jk) = true)
  (J58 : plainGet K Jc Str.empty = true)
  (J5g : hasDictIn K Jc = true)
  (J5w : plainOver K Jc = true)
  (J5n : findIn K (.ref Jc) "__setattr__" = some (some (.builtin "object.__setattr__")))
  (J55 : makesIn K Jc = true)
  (J5s : keepIn K (.ref Jc) = true)
  (J53 : plainGet K Ja Str.empty = true)
  (J56 : hasDictIn K Ja = true)
  (J5f : plainOver K Ja = true)
  (J5l : findIn K (.ref Ja) "__setattr__" = some (some (.builtin "object.__setattr__")))
  (J5e : makesIn K Ja = true)
  (J5o : keepIn K (.ref Ja) = true)
  (J5b : plainGet K Jb Str.empty = true)
  (J5r : hasDictIn K Jb = true)
  (J5q : plainOver K Jb = true)
  (J59 : findIn K (.ref Jb) "__setattr__" = some (some (.builtin "object.__setattr__")))
  (J54 : makesIn K Jb = true)
  (J5k : keepIn K (.ref Jb) = true)
  (J4w : plainGet K Jf Str.empty = true)
  (J4I : hasDictIn K Jf = true)
  (J4L : plainOver K Jf = true)
  (J4G : findIn K (.ref Jf) "__setattr__" = some (some (.builtin "object.__setattr__")))
  (J6T : makesIn K Jf = true)
  (J69 : keepIn K (.ref Jf) = true)
  (J4e : plainGet K J9 Str.empty = true)
  (J4m : hasDictIn K J9 = true)
  (J4g : plainOver K J9 = true)
  (J4i : findIn K (.ref J9) "__setattr__" = some (some (.builtin "object.__setattr__")))
  (J4h : makesIn K J9 = true)
  (J4j : keepIn K (.ref J9) = true)
  (yn : specialIn K (.builtin "object.__class__") "__get__" = some (some (.builtin "getset_descriptor.__get__")))
  (yt : takesIn K (.builtin "object.__class__") = some true)
  (J6N : findIn K (.ref Jf) "__class__" = some (some (.builtin "object.__class__")))
  (J6f : mroIn K Jf (.type "object") = some true)
  (J1F : kitOne K (.ref Jf) (.ref Jb) = some true)
  (JR : findIn K (.ref J7) "name" = some none)
  (J0q : findIn K (.ref J7) "skills" = some none)
  (J0u : findIn K (.ref J7) "most" = some none)
  (J0x : findIn K (.ref J7) "carried" = some none)
  (J1r : findIn K (.ref J7) "past" = some none)
  (J1d : findIn K (.ref J4) "days" = some none)
  (J0T : findIn K (.ref J4) "kinds" = some none)
  (J0j : findIn K (.ref J4) "needs" = some none)
  (JG : findIn K (.ref J4) "persons" = some none)
  (J0U : findIn K (.ref J4) "leave" = some none)
  (J1D : findIn K (.ref J4) "wishes" = some none)
  (J1s : findIn K (.ref J4) "rules" = some none)
  (J1i : findIn K (.ref J4) "pairs" = some none)
  (J0e : findIn K (.ref J1) "rows" = some none)
  (J02 : findIn K (.ref J2) "burdens" = some none)
  (J0f : findIn K (.ref J2) "level" = some none)
  (J0v : findIn K (.ref Ja) "persons" = some none)
  (J0Z : findIn K (.ref Ja) "needs" = some none)
  (J0J : findIn K (.ref Jc) "places" = some none)
  (J0N : findIn K (.ref Jg) "word" = some none)
  (J1a : findIn K (.ref Jf) "rota" = some none)
  (J0W : findIn K (.ref Jf) "total" = some none)
  (J0S : findIn K (.ref Jf) "paper" = some none)
  (J0H : findIn K (.ref J9) "paper" = some none)
  (J99 : nsIn K mainGlobals "all" = some none)
  (J5y : nsIn K mainGlobals "bool" = some none)
  (J0m : nsIn K mainGlobals "enumerate" = some none)
  (J9h : nsIn K mainGlobals "int" = some none)
  (J1g : nsIn K mainGlobals "isinstance" = some none)
  (J0g : nsIn K mainGlobals "len" = some none)
  (J13 : nsIn K mainGlobals "list" = some none)
  (J6D : nsIn K mainGlobals "max" = some none)
  (J5N : nsIn K mainGlobals "min" = some none)
  (J0i : nsIn K mainGlobals "range" = some none)
  (J97 : nsIn K mainGlobals "set" = some none)
  (J4H : nsIn K mainGlobals "sum" = some none)
  (J42 : nsIn K mainGlobals "zip" = some none)
  (J3G : findIn K (.ref Ji) "__init__" = some (some (.builtin "object.__init__")))
  (J3C : findIn K (.ref Jk) "__init__" = some (some (.builtin "object.__init__")))
  (J3a : findIn K (.ref Jb) "__init__" = some (some (.builtin "object.__init__")))
  : ∃ fd : FuncData,(∀ (s : Shared) (v : Value),BindsTo s fd ⟨[v],[]⟩ [("_law_script",v)]) ∧ ∀ base : Heap,K.In base → base.Ns mainGlobals mg → FnOk l.prog w K mg base CX0 14 fa fd ["_law_script"] (sp_law K) := by
 have e := hfa.symm.trans (mg_of X G a61)
 cases e
 have T : Tx K mg Jg J7 J4 Ji J1 J2 Jk Jc Ja Jb Jf J9 := ⟨⟨_,_,JA (st := J1u) l1 c1 k1,⟨a1,i1,k1⟩⟩,
  ⟨_,_,JA (st := J1Y) l2 c2 k2,⟨a2,i2,k2⟩⟩,
  ⟨_,_,JA (st := J0y) l3 c3 k3,⟨a3,i3,k3⟩⟩,
  ⟨_,_,JA (st := J19) l4 c4 k4,mg_of X G a4⟩,
  ⟨_,_,JA (st := J0d) l5 c5 k5,⟨a5,i5,k5⟩⟩,
  ⟨_,_,JA (st := J0p) l6 c6 k6,⟨a6,i6,k6⟩⟩,
  ⟨_,_,JA (st := JH) l7 c7 k7,⟨a7,i7,k7⟩⟩,
  ⟨_,_,JA (st := JH) l8 c8 k8,⟨a8,i8,k8⟩⟩,
  ⟨_,_,JA (st := JJ) l9 c9 k9,⟨a9,i9,k9⟩⟩,
  ⟨_,_,JA (st := JJ) l10 c10 k10,⟨a10,i10,k10⟩⟩,
  ⟨_,_,JA (st := JW) l11 c11 k11,⟨a11,i11,k11⟩⟩,
  ⟨_,_,JA (st := JV) l12 c12 k12,⟨a12,i12,k12⟩⟩,
  ⟨_,_,JA (st := J1U) l13 c13 k13,⟨a13,i13,k13⟩⟩,
  ⟨_,_,JA (st := J17) l14 c14 k14,⟨a14,i14,k14⟩⟩,
  ⟨_,_,JA (st := J0K) l15 c15 k15,mg_of X G a15⟩,
  ⟨_,_,JA (st := J0c) l16 c16 k16,mg_of X G a16⟩,
  ⟨_,_,JA (st := J07) l17 c17 k17,mg_of X G a17⟩,
  ⟨_,_,JA (st := J0D) l18 c18 k18,mg_of X G a18⟩,
  ⟨_,_,JA (st := J1m) l19 c19 k19,⟨a19,i19,k19⟩⟩,
  ⟨_,_,JA (st := J0l) l20 c20 k20,⟨a20,i20,k20⟩⟩,
  ⟨_,_,JA (st := J1f) l21 c21 k21,mg_of X G a21⟩,
  ⟨_,_,JA (st := J1k) l22 c22 k22,⟨a22,i22,k22⟩⟩,
  ⟨_,_,JA (st := J06) l23 c23 k23,⟨a23,i23,k23⟩⟩,
  ⟨_,_,JA (st := J1I) l24 c24 k24,mg_of X G a24⟩,
  ⟨_,_,JA (st := J2c) l25 c25 k25,mg_of X G a25⟩,
  ⟨_,_,JA (st := J2o) l26 c26 k26,mg_of X G a26⟩,
  ⟨_,_,JA (st := J0A) l27 c27 k27,mg_of X G a27⟩,
  ⟨_,_,JA (st := J0C) l28 c28 k28,mg_of X G a28⟩,
  ⟨_,_,JA (st := J0R) l29 c29 k29,mg_of X G a29⟩,
  ⟨_,_,JA (st := J1l) l30 c30 k30,mg_of X G a30⟩,
  ⟨_,_,JA (st := J08) l31 c31 k31,⟨a31,i31,k31⟩⟩,
  ⟨_,_,JA (st := J0V) l32 c32 k32,mg_of X G a32⟩,
  ⟨_,_,JA (st := J1p) l33 c33 k33,mg_of X G a33⟩,
  ⟨_,_,JA (st := J1j) l34 c34 k34,mg_of X G a34⟩,
  ⟨_,_,JA (st := J3c) l35 c35 k35,mg_of X G a35⟩,
  ⟨_,_,JA (st := J5p) l36 c36 k36,mg_of X G a36⟩,
  ⟨_,_,JA (st := J21) l37 c37 k37,mg_of X G a37⟩,
  ⟨_,_,JA (st := J23) l38 c38 k38,⟨a38,i38,k38⟩⟩,
  ⟨_,_,JA (st := J1B) l39 c39 k39,⟨a39,i39,k39⟩⟩,
  ⟨_,_,JA (st := J1o) l40 c40 k40,⟨a40,i40,k40⟩⟩,
  ⟨_,_,JA (st := J1W) l41 c41 k41,⟨a41,i41,k41⟩⟩,
  ⟨_,_,JA (st := J10) l42 c42 k42,⟨a42,i42,k42⟩⟩,
  ⟨_,_,JA (st := J11) l43 c43 k43,⟨a43,i43,k43⟩⟩,
  ⟨_,_,JA (st := J0w) l44 c44 k44,⟨a44,i44,k44⟩⟩,
  ⟨_,_,JA (st := J0I) l45 c45 k45,⟨a45,i45,k45⟩⟩,
  ⟨_,_,JA (st := J1t) l46 c46 k46,mg_of X G a46⟩,
  ⟨_,_,JA (st := J2g) l47 c47 k47,mg_of X G a47⟩,
  ⟨_,_,JA (st := J1H) l48 c48 k48,mg_of X G a48⟩,
  ⟨_,_,JA (st := J1G) l49 c49 k49,mg_of X G a49⟩,
  ⟨_,_,JA (st := J2p) l50 c50 k50,mg_of X G a50⟩,
  ⟨_,_,JA (st := J2f) l51 c51 k51,mg_of X G a51⟩,
  ⟨_,_,JA (st := J1c) l52 c52 k52,mg_of X G a52⟩,
  ⟨_,_,JA (st := J1e) l53 c53 k53,mg_of X G a53⟩,
  ⟨_,_,JA (st := J1C) l54 c54 k54,mg_of X G a54⟩,
  ⟨_,_,JA (st := J0M) l55 c55 k55,mg_of X G a55⟩,
  ⟨_,_,JA (st := J2n) l56 c56 k56,mg_of X G a56⟩,
  ⟨_,_,JA (st := J1K) l57 c57 k57,mg_of X G a57⟩,
  ⟨_,_,JA (st := J1L) l58 c58 k58,mg_of X G a58⟩,
  ⟨_,_,JA (st := J1n) l59 c59 k59,mg_of X G a59⟩,
  ⟨_,_,JA (st := J0L) l60 c60 k60,mg_of X G a60⟩,
  ⟨_,_,JA (st := J39) l61 c61 k61,mg_of X G a61⟩,
  ⟨⟨J6w,J6J,J6U,J6z⟩,mg_of X G J8u,J6O,J6L⟩,
  ⟨⟨J57,J5u,J5j,J5m⟩,mg_of X G J6i,J5v,J5h⟩,
  ⟨⟨J6r,J6K,J6g,J6H⟩,mg_of X G J8n,J6M,J6e⟩,
  ⟨⟨J6o,J6x,J6n,J6s⟩,mg_of X G J8k,J6I,J6Q⟩,
  ⟨⟨J2I,J2J,J2N,J2L⟩,mg_of X G J31,J2K,J2M⟩,
  ⟨⟨J32,J30,J34,J2Z⟩,mg_of X G J3j,J33,J2Y⟩,
  ⟨⟨J6B,J6m,J6t,J6k⟩,mg_of X G J8D,J6q,J6Y⟩,
  ⟨⟨J58,J5g,J5w,J5n⟩,mg_of X G J6h,J55,J5s⟩,
  ⟨⟨J53,J56,J5f,J5l⟩,mg_of X G J6c,J5e,J5o⟩,
  ⟨⟨J5b,J5r,J5q,J59⟩,mg_of X G J6F,J54,J5k⟩,
  ⟨⟨J4w,J4I,J4L,J4G⟩,mg_of X G J8v,J6T,J69⟩,
  ⟨⟨J4e,J4m,J4g,J4i⟩,mg_of X G J5x,J4h,J4j⟩,
  ⟨⟨J4w,J4I,J4L,J4G⟩,J6N,yn,yt,J6f⟩,
  J1F,
  JR,
  J0q,
  J0u,
  J0x,
  J1r,
  J1d,
  J0T,
  J0j,
  JG,
  J0U,
  J1D,
  J1s,
  J1i,
  J0e,
  J02,
  J0f,
  J0v,
  J0Z,
  J0J,
  J0N,
  J1a,
  J0W,
  J0S,
  J0H,
  mg_none_of X G J99,
  mg_none_of X G J5y,
  mg_none_of X G J0m,
  mg_none_of X G J9h,
  mg_none_of X G J1g,
  mg_none_of X G J0g,
  mg_none_of X G J13,
  mg_none_of X G J6D,
  mg_none_of X G J5N,
  mg_none_of X G J0i,
  mg_none_of X G J97,
  mg_none_of X G J4H,
  mg_none_of X G J42,
  J3G,
  J3C,
  J3a⟩
 refine ⟨fnOf "law" "law" (Jp J39) (Jn J39) (J3 J39) .none kV61 dc61 pm61 an61 cd61 ct61,fun s v => .of_eq rfl,fun base _ _ => ?_⟩
 exact Jfh T (JA (st := J39) l61 c61 k61)
theorem walk {l : PySem.W.OpenLaw} {q : Program} {loose : List Str} {XP : (Str → Option Value) → Heap → Prop} {YP : World → Heap → Prop} {d : DefRec} {K : Params → PySem.W.Frag} (hn : l.most = some 63) (hdf : d.params.defaults = [])
  (hY : ∀ (w : World) (h : Heap),YP w h → (K w.params).In h)
  (F : ∀ (w : World) (mg : Str → Option Value) (fa : Addr) (h : Heap),(K w.params).In h → h.Ns mainGlobals mg → mg d.name = some (.ref fa) →
   ∃ fd : FuncData,(∀ (s : Shared) (u : Value),BindsTo s fd ⟨[u],[]⟩ [("_law_script",u)]) ∧ ∀ base : Heap,(K w.params).In base → base.Ns mainGlobals mg → FnOk l.prog w (K w.params) mg base CX0 14 fa fd ["_law_script"] (sp_law (K w.params))) :
  PySem.W.WalkO q loose XP YP l.row.toRowW d [] (fun f vs => PySem.call f vs) :=
 L2.walk_of (n := 63) (k := 14) (x := "_law_script") (CX := fun _ => CX0) (sp := fun w => sp_law (K w.params)) hn (by decide) hdf ⟨rfl,by decide,by decide⟩ hY F (fun _ _ a ns hl _ hS => ⟨a,ns,rfl,hS,hl,fun _ => rfl⟩) fun _ _ _ _ _ z => z
theorem walkX {q : Program} {loose : List Str} {XP : (Str → Option Value) → Heap → Prop} {K : Params → PySem.W.Frag} {as : List Addr} {n t : Nat} {r : PySem.W.RowW} {d : DefRec} {kwd : List (Str × Expr)} {run : Value → List Value → Sem Value} (e : ∀ P,as = (K P).map (·.1))
  (h : PySem.W.WalkO q loose XP (fun w hp => (K w.params).In hp) r d kwd run) : PySem.W.WalkX q loose XP (PySem.W.X.obsZ as) (PySem.W.X.valZ K n t) r d kwd run := by
 intro w s₀ s₁ mg mb G Y a o pm cd doc dV kV h1 h2 h3 h4 h5 h6 args vals as' L p1 p2 p3 p4 p5
 exact h w s₀ s₁ mg mb G (PySem.W.InK.keeps w _ _ (PySem.W.X.z_facts e Y).2.1 L.keeps) a o pm cd doc dV kV h1 h2 h3 h4 h5 h6 args vals as' p1 p2 p3 p4 p5
end K54
namespace PySem.W.Fast
def tw151095498710153918:=()
def tw5241759425889201268:=()
def tw11368820259802656828:=()
def tw7794144214348740213:=()
def tw1998363261078888490:=()
def tw13859817342315274839:=()
def tw15100399116013462630:=()
def tw18177776375197495933:=()
def tw9566392463463321022:=()
def tw17434129100579529753:=()
def tw17203319074464545252:=()
def tw12561301549579814812:=()
def tw13186193776859701230:=()
def tw5490544080241547798:=()
def tw10659119514408929556:=()
def tw13458730620279495591:=()
def tw12966218182298732705:=()
def tw1970054121919148312:=()
def tw14138794900208836264:=()
def tw5093351070698372086:=()
def tw3336057529222691336:=()
def tw7696734298160052008:=()
def tw232771756833592396:=()
def tw5040071156749524065:=()
def tw8656891956787934900:=()
def tw4132404711750695880:=()
def tw1315743326522803070:=()
def tw5844701559735612019:=()
def tw14955299921561701914:=()
def tw1274487186207451387:=()
def tw6632434849141645796:=()
def tw1998036498851893323:=()
def tw15339129556067112639:=()
def tw16227563499759040136:=()
def tw14200952288386127698:=()
def tw3607780608616493044:=()
def tw10074393502687098669:=()
def tw3456056072124538719:=()
def tw14925104593501690467:=()
def tw15378983694885010100:=()
def tw8749986910838159406:=()
def tw11869871382410808800:=()
def tw12874627871363648844:=()
def tw7816640913795606600:=()
def tw15995049500681623611:=()
def tw6376106733320609383:=()
def tw8020837869840159865:=()
def tw5114919717883597314:=()
def tw5942715199985314219:=()
def tw15668426961555168521:=()
def tw11173645297236726068:=()
def tw4334420729741076809:=()
def tw18212312876602830124:=()
def tw9204934877619973562:=()
def tw16262489311976645706:=()
def tw6316202140654218902:=()
def tw13942910112166056430:=()
def tw14708508997837526178:=()
def tw4839764159352624098:=()
def tw15087417323679024409:=()
def tw13325716451986246371:=()
def tw17126634253532274009:=()
def tw15114784717019607327:=()
def tw2320745874499552321:=()
def tw3064769576912665819:=()
def tw13973677661431819272:=()
def tw11973894908733704163:=()
def tw4199797599498570958:=()
def tw17683387830229888073:=()
def tw4729923076606485521:=()
def tw11346650161697933642:=()
def tw17514229168108157352:=()
def tw10750079075915454557:=()
def tw9333672543759919023:=()
def tw12925340316153726570:=()
def tw10004866663421296091:=()
def tw7079356721182413946:=()
def tw12620259134947476617:=()
def tw14223698826157917353:=()
def tw618954700632600169:=()
def tw9924149126040522240:=()
def tw2872275989875020042:=()
def tw18436943665274225064:=()
def tw6516161954581313570:=()
def tw1284051426487677425:=()
def tw4559277746750316311:=()
def tw7126296936399654160:=()
def tw1286006558124537737:=()
def tw8402675083472997655:=()
def tw15067701523570722842:=()
def tw12601559541981861890:=()
def tw12241486383242301086:=()
def tw9633918254872756382:=()
def tw810253816132293074:=()
def tw14142142240743780963:=()
def tw9923816280168460113:=()
def tw9826097283529496274:=()
def tw13665436099561164352:=()
def tw16446945750191915255:=()
def tw5254357893318936597:=()
def tw1655250139644983950:=()
def tw4613011716208859100:=()
def tw3764353501658769964:=()
def tw16791324267814250878:=()
def tw5538110934424646425:=()
def tw12066716680115636474:=()
def tw8803260066924193803:=()
def tw13301612374986414411:=()
def tw3209315743103261241:=()
def tw8708025547995571854:=()
def tw16516037550738032332:=()
def tw1811127124028750590:=()
def tw9538323282515013709:=()
def tw4389027650229450754:=()
def tw4734355935715679545:=()
def tw4042584616410054407:=()
def tw7489830676225001498:=()
def tw8359680583838181381:=()
def tw4120091998309344408:=()
def tw2607056740683546427:=()
def tw4410174236450987212:=()
def tw3484752668359443390:=()
def tw4366738564096492958:=()
def tw924642271755981595:=()
def tw16279013309888245701:=()
def tw16417226917176943333:=()
def tw16957417331689591730:=()
def tw3129044001382469135:=()
def tw14638610309734791800:=()
def tw8597315672155621846:=()
def tw3528113207905950395:=()
def tw7440158310601862529:=()
def tw1413474295675396348:=()
def tw17492748166034685849:=()
def tw11675778224134556884:=()
def tw2693559255324192948:=()
def tw12982895615732882482:=()
def tw17190601164983232399:=()
def tw18108828027650505852:=()
def tw822836013032348027:=()
def tw14556996516686538262:=()
def tw16468007559565105818:=()
def tw14555573849740952620:=()
def tw7594390586386821763:=()
def tw13728727625576119413:=()
def tw14571649340789196300:=()
def tw6453456713383258498:=()
def tw4491568721749255936:=()
def tw16327009093299162727:=()
def tw14376864559754643856:=()
def tw6185378267481149326:=()
def tw12144252697543439685:=()
def tw688618832235671843:=()
def tw1668874484262802687:=()
def tw4032114540812860439:=()
def tw13384670252055759594:=()
def tw4733361309829656334:=()
def tw14329039651747163538:=()
def tw7565082464329918452:=()
def tw5412250209704476108:=()
def tw2380695908110090686:=()
def tw6763761396887954299:=()
def tw2636153523974303639:=()
def tw2649438401896644636:=()
def tw2817781482524982096:=()
def tw5726576643982516365:=()
def tw17426259647723675697:=()
def tw4616555372347898095:=()
def tw5642659366716896302:=()
def tw16552665993215008434:=()
def tw3429102775469730970:=()
def tw9745698134846274322:=()
def tw15494716327418879246:=()
def tw9921090012728498765:=()
def tw7132067805089594701:=()
def tw311106428762581133:=()
def tw6036052076667199124:=()
def tw17764512216377366071:=()
def tw13796834552758223832:=()
def tw7351269467977395224:=()
def tw12009612985257317796:=()
def tw16412291403950012391:=()
def tw8840960182238915738:=()
def tw18137681912538974655:=()
def tw10376984959424841011:=()
def tw2248545443471727885:=()
def tw11807845485560719781:=()
def tw12464541533053726578:=()
def tw16851176456883580292:=()
def tw12760750610385554305:=()
def tw17056169480747372388:=()
def tw18390627550720126243:=()
def tw7837454742308741200:=()
def tw6193377197289325729:=()
def tw17416036199001930475:=()
def tw7101761286118485777:=()
def tw12000331513007115631:=()
def tw2579900733301420401:=()
def tw8459057947278570742:=()
def tw9320738041600841016:=()
def tw5611020414305412407:=()
def tw12174332945582820208:=()
def tw8619794689660994428:=()
def tw14660757660477231023:=()
def tw7339517298196784104:=()
def tw5634623161089698420:=()
def tw6604740257555797066:=()
def tw12337294420178733683:=()
def tw15915680058135637604:=()
def tw2961236409184892690:=()
def tw13023776729786055004:=()
def tw6667499375520957683:=()
def tw8906601728485326773:=()
def tw4223928376958853681:=()
def tw12866695954053457926:=()
def tw8805515728388632239:=()
def tw7343852393274903013:=()
def tw11041833816423515643:=()
def tw1507158164236050477:=()
def tw12903808834672881888:=()
def tw10076320844390514211:=()
def tw8245440782972830172:=()
def tw8116282385102729453:=()
def tw7437894574495942470:=()
def tw2336977278614251581:=()
def tw3125185514580719589:=()
def tw8109759998544787170:=()
def tw7940753035160984519:=()
def tw16844280288706877936:=()
def tw433086960013104700:=()
def tw17407750328985882334:=()
def tw17586010545547276164:=()
def tw8154328960773974332:=()
def tw4408511154086327375:=()
def tw6027185939922547396:=()
def tw6637107293755963904:=()
def tw11354957097504046010:=()
def tw17173438086232181388:=()
def tw7333418769781094213:=()
def tw11974051057685437215:=()
def tw13090798704023835378:=()
def tw15992172026028770737:=()
def tw9050548943733639494:=()
def tw4465515674712390553:=()
def tw2352722459539370097:=()
def tw1413852362393380473:=()
def tw17303032674397315900:=()
def tw11216150278764648955:=()
def tw6171084941608738718:=()
def tw2921747030800911182:=()
def tw9282844061141599971:=()
def tw5210248375578853207:=()
def tw13212675590582611868:=()
def tw16364594408624446055:=()
def tw9663621984049186079:=()
def tw2307651411880907428:=()
def tw14829363099788439670:=()
def tw11395682155297944801:=()
def tw8003926161566735446:=()
def tw7847683284407036242:=()
def tw16105230877186877164:=()
def tw10376569535987248128:=()
def tw629877632419474505:=()
def tw6765285111647296363:=()
def tw11530350209910793146:=()
def tw4473285990081326435:=()
def tw11520112711766534705:=()
def tw11909198979780918825:=()
def tw7008306642349521981:=()
def tw14307710317190178031:=()
def tw14352532975056636896:=()
def tw7817080746872004531:=()
def tw8449890533846873946:=()
def tw11590009749849873246:=()
def tw1900532170086941911:=()
def tw12037081832885413380:=()
def tw17303327053746682219:=()
def tw13669634869529883914:=()
def tw6577322884180540572:=()
def tw13658222878653944264:=()
def tw7755480256072888530:=()
def tw8406437491546463022:=()
def tw4070081332207215677:=()
def tw4324461627271400386:=()
def tw14500209494245541380:=()
def tw14756669217768811898:=()
def tw17127729088201791959:=()
def tw212446866659517538:=()
def tw9388160412927891546:=()
def tw12601821562494953888:=()
def tw4733565981289049772:=()
def tw7474087650717948371:=()
def tw17804568147365593787:=()
def tw16952769061961430534:=()
def tw806512803843459263:=()
def tw11333829207428750100:=()
def tw6974527132279912190:=()
def tw3204246230494973858:=()
def tw1201054207699342385:=()
def tw4931946654499371476:=()
def tw6091316309498773659:=()
def tw816199514319744719:=()
def tw6221307911867519876:=()
def tw14482054830277812802:=()
def tw11939718953310753683:=()
def tw310227204841586680:=()
def tw4936637519294990776:=()
def tw17906624188320640635:=()
def tw12099617705810668160:=()
def tw6536365575463311004:=()
def tw158204910103084494:=()
def tw13425493383720190069:=()
def tw9079175981756433653:=()
def tw5671406901023471660:=()
def tw6109396568649749303:=()
def tw14426536748035307327:=()
def tw16609327136165827348:=()
def tw3156056903118919126:=()
def tw12736234793420391916:=()
def tw8299755775793473735:=()
def tw8213254935629986918:=()
def tw16030092030256386951:=()
def tw3379952236087523139:=()
def tw14618317452961308458:=()
def tw17524134523417055103:=()
def tw12617558385209903349:=()
def tw5169696422992205669:=()
def tw18389020999905083355:=()
def tw18256290047273820039:=()
def tw9992727006237502273:=()
def tw5454142072157948565:=()
def tw10002514768346081640:=()
def tw8478002156734506798:=()
def tw4427129621498814720:=()
def tw9327482102538969815:=()
def tw3603576889309615355:=()
def tw5308842717766109210:=()
def tw15136526894602989511:=()
def tw9930621679865571762:=()
def tw10429366531094289180:=()
def tw12883282768657327463:=()
def tw9703467428171994077:=()
def tw13741042885605935632:=()
def tw413721436381885110:=()
def tw10257403847070225283:=()
def tw362089669869270555:=()
def tw9559228018844123270:=()
def tw9725766576819880108:=()
def tw6630335995146344298:=()
def tw6343190058177858451:=()
def tw15531062645974354978:=()
def tw11503125850492433582:=()
def tw6661002075333671883:=()
def tw6337634262633057330:=()
def tw5577301545460076475:=()
def tw9645877388905856285:=()
def tw3439137289066219681:=()
def tw15878421837350946468:=()
def tw8213697067742048893:=()
def tw8284646009658322297:=()
def tw3995997868796793607:=()
def tw10010191356846452899:=()
def tw7386821116798972823:=()
def tw7849824201899064004:=()
def tw13160175662636522852:=()
def tw16050848184689987693:=()
def tw7367363371895999297:=()
def tw7374407305369024498:=()
def tw17415896041812165781:=()
def tw3158083549984888433:=()
def tw2326165725072525538:=()
def tw13011218112466514267:=()
def tw14327881247741029254:=()
def tw5692835523010504958:=()
def tw16931893918902591541:=()
def tw14634128565280908119:=()
def tw7765711399825301270:=()
def tw2692545775925104495:=()
def tw7827617197809629740:=()
def tw9418695517841969481:=()
def tw5228121098846691593:=()
def tw15504831528167444541:=()
def tw8316465638326866535:=()
def tw8085945195118861259:=()
def tw8137751659942569897:=()
def tw10285781954936579472:=()
def tw13739689016929971190:=()
def tw15982100215076927912:=()
def tw1111576596705109111:=()
def tw10836405681352155199:=()
def tw10250542278233926662:=()
def tw5117926442313291870:=()
def tw5693774835337667224:=()
def tw17100404016363604271:=()
def tw9768138003674965667:=()
def tw4422794192224069612:=()
def tw5725700327391548576:=()
def tw1460438794554583452:=()
def tw5529969494804350120:=()
def tw7384751860042643788:=()
def tw16544488106723643224:=()
def tw13354040983629272703:=()
def tw6001058220630537511:=()
def tw10662673840315089215:=()
def tw15658225980835616719:=()
def tw15594118414656174836:=()
def tw7255923012547736464:=()
def tw9284821729388812243:=()
def tw15382690864558513813:=()
def tw16595021183720490609:=()
def tw11467031590424007477:=()
def tw3507215559376961642:=()
def tw3686638064740714106:=()
def tw3538563080537982797:=()
def tw10263857948627291490:=()
def tw5902022593592781627:=()
def tw7058160780381607191:=()
def tw16016663787067046619:=()
def tw15558393523891672014:=()
def tw16355000653981193370:=()
def tw2282633729891988326:=()
def tw16685142954267492253:=()
def tw6293515335581539840:=()
def tw12878127566853673638:=()
def tw4823825504999447767:=()
def tw13830838475217074689:=()
def tw2813159138727551390:=()
def tw16155862276226448572:=()
def tw10401880049412010651:=()
def tw11514909312136576345:=()
def tw10545062045359508396:=()
def tw7636911681169089841:=()
def tw10553023245539259307:=()
def tw3110144068963853661:=()
def tw5743499969151485413:=()
def tw14353110419108919998:=()
def tw12521971573584209786:=()
def tw5177662136018431846:=()
def tw12598116526434443765:=()
def tw7096101553955608832:=()
def tw18363988777627750811:=()
def tw14103412898835940679:=()
def tw6776446068542744940:=()
def tw5343946000011764815:=()
def tw5251177039996115142:=()
def tw226953875459373557:=()
def tw6348171930640857332:=()
def tw2905585627515942607:=()
def tw2137323408668960007:=()
def tw15346682900975111931:=()
def tw15385572580240061999:=()
def tw7699267482382235151:=()
def tw11575234069673899606:=()
def tw14465077415790265954:=()
def tw18186820804135705092:=()
def tw7390993034042431439:=()
def tw2864264444898043786:=()
def tw9457371181874817448:=()
def tw11949705034994147950:=()
def tw4333375485969064750:=()
def tw14386432142375745471:=()
def tw5859778218801213184:=()
def tw2145166741398399228:=()
def tw2560736178383293460:=()
def tw17558795358018595108:=()
def tw3370543203296862487:=()
def tw17852283891672903134:=()
def tw12375769009462920261:=()
def tw4802863597318441903:=()
def tw2433692806540536456:=()
def tw12188737121461912804:=()
def tw312431787812418800:=()
def tw2523112229181524629:=()
def tw10128706099129763229:=()
def tw12012784606192207549:=()
def tw9029713493055161897:=()
def tw7437691734819436374:=()
def tw10546620099717747710:=()
def tw18364899015207531771:=()
def tw16715464606888639764:=()
def tw14908820619351131182:=()
def tw16202359878854951070:=()
def tw4457632021113395578:=()
def tw12487693710249091883:=()
def tw8092001830159096596:=()
def tw13995880807691935130:=()
def tw14198591809514224835:=()
def tw7859878151422692832:=()
def tw4532053802754071398:=()
def tw3815781235725236262:=()
def tw14018264482861156420:=()
def tw3040480937392405048:=()
def tw1619718189825616361:=()
def tw16708266150491606200:=()
def tw17724186583260996268:=()
def tw3539512106517934197:=()
def tw12606994036220941502:=()
def tw14161628816332597942:=()
def tw15206670608118759184:=()
def tw3175327850637341077:=()
def tw2021716746922156586:=()
def tw4600842930798765093:=()
def tw2319662179621195472:=()
def tw11250466161431215975:=()
def tw13741814073828956767:=()
def tw1996621807951783889:=()
def tw16080932503558537968:=()
def tw8266117369749332375:=()
def tw6589795575722619900:=()
def tw13332032642292229965:=()
def tw16245819642694731184:=()
def tw816048225281460508:=()
def tw14867235062884475049:=()
def tw16928164869421855032:=()
def tw4208663071216041547:=()
def tw740588535471190201:=()
def tw10617493023637475557:=()
def tw1097824969262203746:=()
def tw5214081549183818488:=()
def tw7831151558434404589:=()
def tw8222164000162413725:=()
def tw2851933810295230573:=()
def tw6743407468741237183:=()
def tw11381045061237537745:=()
def tw5430875035105061469:=()
def tw11773486091798087883:=()
def tw14817350616995750580:=()
def tw8743898648668229080:=()
def tw14329951739287133595:=()
def tw6178947545018506341:=()
def tw12110735737550618824:=()
def tw4266959785795812464:=()
def tw11637403456152139440:=()
def tw13813300330307709840:=()
def tw6564768270506170462:=()
def tw12077345824724182315:=()
def tw682855470196030824:=()
def tw7448336523248977522:=()
def tw15999654506140397170:=()
def tw6550805376157949401:=()
def tw17938808845350273402:=()
def tw3321567738695422733:=()
def tw13195301601922339280:=()
def tw10195894136045340972:=()
def tw17794130528498966436:=()
def tw14701920683972647227:=()
def tw17797886232726644648:=()
def tw16963734739726748566:=()
def tw6850404614902642309:=()
def tw4557122773953440099:=()
def tw5338493947995021530:=()
def tw70656531369197428:=()
def tw8325654244398428618:=()
def tw2012100537720837869:=()
def tw10519476678580029048:=()
def tw6918924817446737178:=()
def tw12910226225660030019:=()
def tw9100593339677717454:=()
def tw18298446122232004554:=()
def tw16949283385527475745:=()
def tw4883346420967729919:=()
def tw3039789010736846299:=()
def tw10138375283358500137:=()
def tw5306106987573636013:=()
def tw4519058617417600855:=()
def tw4400349362294367838:=()
def tw16386439210841559203:=()
def tw14020073495549336180:=()
def tw50627377447391826:=()
def tw6338294163809917733:=()
def tw18216239099002391080:=()
def tw13961225163304997562:=()
def tw17127143885258266803:=()
def tw15488777549221177871:=()
def tw9480038427961966047:=()
def tw4498986142436149080:=()
def tw6608697248117396767:=()
def tw2877160453957949018:=()
def tw14483658098466956706:=()
def tw2031301733488788725:=()
def tw15560328038580529846:=()
def tw12249851461007204307:=()
def tw17416304783446583639:=()
def tw11412806007169482689:=()
def tw18164291250725279174:=()
def tw300753544374712038:=()
def tw8859587145262468754:=()
def tw3637924319527343455:=()
def tw13332255052898650478:=()
def tw6195287166979689067:=()
def tw10477375433757842769:=()
def tw11374333873966858013:=()
def tw10756542933101839372:=()
def tw13432938110775666150:=()
def tw8510580359249706933:=()
def tw6021710073836006142:=()
def tw17640717951057427450:=()
def tw8856091459115462051:=()
end PySem.W.Fast
open PySem PySem.W PyProof.Rows
set_option maxRecDepth 100000 in
set_option maxHeartbeats 0 in
theorem PySem.Challenge.cw_rotafair_k54_answers_stand_holds : PySem.Challenge.rw_rotafair_k54_answers_stand.Holds := by
 w_on; o_law; z_head; (case hw => w_witness2)
 k_fill
 refine K54.walkX (fun _ => rfl) ?_
 refine K54.walk (l := PySem.Challenge.rw_rotafair_k54_answers_stand) rfl rfl (fun w h Y => Y) ?F
 case F =>
  intro w mg fa h KX G hmg
  refine' K54.all_mk KX G hmg ?J8u ?J6i ?J8n ?J8k ?J31 ?J3j ?J8D ?J6h ?J6c ?J6F ?J8v ?J5x ?a1 ?i1 ?l1 ?c1 ?k1 ?a2 ?i2 ?l2 ?c2 ?k2 ?a3 ?i3 ?l3 ?c3 ?k3 ?a4 ?l4 ?c4 ?k4 ?a5 ?i5 ?l5 ?c5 ?k5 ?a6 ?i6 ?l6 ?c6 ?k6 ?a7 ?i7 ?l7 ?c7 ?k7 ?a8 ?i8 ?l8 ?c8 ?k8 ?a9 ?i9 ?l9 ?c9 ?k9 ?a10 ?i10 ?l10 ?c10 ?k10 ?a11 ?i11 ?l11 ?c11 ?k11 ?a12 ?i12 ?l12 ?c12 ?k12 ?a13 ?i13 ?l13 ?c13 ?k13 ?a14 ?i14 ?l14 ?c14 ?k14 ?a15 ?l15 ?c15 ?k15 ?a16 ?l16 ?c16 ?k16 ?a17 ?l17 ?c17 ?k17 ?a18 ?l18 ?c18 ?k18 ?a19 ?i19 ?l19 ?c19 ?k19 ?a20 ?i20 ?l20 ?c20 ?k20 ?a21 ?l21 ?c21 ?k21 ?a22 ?i22 ?l22 ?c22 ?k22 ?a23 ?i23 ?l23 ?c23 ?k23 ?a24 ?l24 ?c24 ?k24 ?a25 ?l25 ?c25 ?k25 ?a26 ?l26 ?c26 ?k26 ?a27 ?l27 ?c27 ?k27 ?a28 ?l28 ?c28 ?k28 ?a29 ?l29 ?c29 ?k29 ?a30 ?l30 ?c30 ?k30 ?a31 ?i31 ?l31 ?c31 ?k31 ?a32 ?l32 ?c32 ?k32 ?a33 ?l33 ?c33 ?k33 ?a34 ?l34 ?c34 ?k34 ?a35 ?l35 ?c35 ?k35 ?a36 ?l36 ?c36 ?k36 ?a37 ?l37 ?c37 ?k37 ?a38 ?i38 ?l38 ?c38 ?k38 ?a39 ?i39 ?l39 ?c39 ?k39 ?a40 ?i40 ?l40 ?c40 ?k40 ?a41 ?i41 ?l41 ?c41 ?k41 ?a42 ?i42 ?l42 ?c42 ?k42 ?a43 ?i43 ?l43 ?c43 ?k43 ?a44 ?i44 ?l44 ?c44 ?k44 ?a45 ?i45 ?l45 ?c45 ?k45 ?a46 ?l46 ?c46 ?k46 ?a47 ?l47 ?c47 ?k47 ?a48 ?l48 ?c48 ?k48 ?a49 ?l49 ?c49 ?k49 ?a50 ?l50 ?c50 ?k50 ?a51 ?l51 ?c51 ?k51 ?a52 ?l52 ?c52 ?k52 ?a53 ?l53 ?c53 ?k53 ?a54 ?l54 ?c54 ?k54 ?a55 ?l55 ?c55 ?k55 ?a56 ?l56 ?c56 ?k56 ?a57 ?l57 ?c57 ?k57 ?a58 ?l58 ?c58 ?k58 ?a59 ?l59 ?c59 ?k59 ?a60 ?l60 ?c60 ?k60 ?a61 ?l61 ?c61 ?k61 ?J6w ?J6J ?J6U ?J6z ?J6O ?J6L ?J57 ?J5u ?J5j ?J5m ?J5v ?J5h ?J6r ?J6K ?J6g ?J6H ?J6M ?J6e ?J6o ?J6x ?J6n ?J6s ?J6I ?J6Q ?J2I ?J2J ?J2N ?J2L ?J2K ?J2M ?J32 ?J30 ?J34 ?J2Z ?J33 ?J2Y ?J6B ?J6m ?J6t ?J6k ?J6q ?J6Y ?J58 ?J5g ?J5w ?J5n ?J55 ?J5s ?J53 ?J56 ?J5f ?J5l ?J5e ?J5o ?J5b ?J5r ?J5q ?J59 ?J54 ?J5k ?J4w ?J4I ?J4L ?J4G ?J6T ?J69 ?J4e ?J4m ?J4g ?J4i ?J4h ?J4j ?yn ?yt ?J6N ?J6f ?J1F ?JR ?J0q ?J0u ?J0x ?J1r ?J1d ?J0T ?J0j ?JG ?J0U ?J1D ?J1s ?J1i ?J0e ?J02 ?J0f ?J0v ?J0Z ?J0J ?J0N ?J1a ?J0W ?J0S ?J0H ?J99 ?J5y ?J0m ?J9h ?J1g ?J0g ?J13 ?J6D ?J5N ?J0i ?J97 ?J4H ?J42 ?J3G ?J3C ?J3a
  (case J8u => k_is)
  (case J6i => k_is)
  (case J8n => k_is)
  (case J8k => k_is)
  (case J31 => k_is)
  (case J3j => k_is)
  (case J8D => k_is)
  (case J6h => k_is)
  (case J6c => k_is)
  (case J6F => k_is)
  (case J8v => k_is)
  (case J5x => k_is)
  (case a1 => k_is)
  (case i1 => k_is)
  (case l1 => k_is)
  (case c1 => k_is)
  (case k1 => k_is)
  (case a2 => k_is)
  (case i2 => k_is)
  (case l2 => k_is)
  (case c2 => k_is)
  (case k2 => k_is)
  (case a3 => k_is)
  (case i3 => k_is)
  (case l3 => k_is)
  (case c3 => k_is)
  (case k3 => k_is)
  (case a4 => k_is)
  (case l4 => k_is)
  (case c4 => k_is)
  (case k4 => k_is)
  (case a5 => k_is)
  (case i5 => k_is)
  (case l5 => k_is)
  (case c5 => k_is)
  (case k5 => k_is)
  (case a6 => k_is)
  (case i6 => k_is)
  (case l6 => k_is)
  (case c6 => k_is)
  (case k6 => k_is)
  (case a7 => k_is)
  (case i7 => k_is)
  (case l7 => k_is)
  (case c7 => k_is)
  (case k7 => k_is)
  (case a8 => k_is)
  (case i8 => k_is)
  (case l8 => k_is)
  (case c8 => k_is)
  (case k8 => k_is)
  (case a9 => k_is)
  (case i9 => k_is)
  (case l9 => k_is)
  (case c9 => k_is)
  (case k9 => k_is)
  (case a10 => k_is)
  (case i10 => k_is)
  (case l10 => k_is)
  (case c10 => k_is)
  (case k10 => k_is)
  (case a11 => k_is)
  (case i11 => k_is)
  (case l11 => k_is)
  (case c11 => k_is)
  (case k11 => k_is)
  (case a12 => k_is)
  (case i12 => k_is)
  (case l12 => k_is)
  (case c12 => k_is)
  (case k12 => k_is)
  (case a13 => k_is)
  (case i13 => k_is)
  (case l13 => k_is)
  (case c13 => k_is)
  (case k13 => k_is)
  (case a14 => k_is)
  (case i14 => k_is)
  (case l14 => k_is)
  (case c14 => k_is)
  (case k14 => k_is)
  (case a15 => k_is)
  (case l15 => k_is)
  (case c15 => k_is)
  (case k15 => k_is)
  (case a16 => k_is)
  (case l16 => k_is)
  (case c16 => k_is)
  (case k16 => k_is)
  (case a17 => k_is)
  (case l17 => k_is)
  (case c17 => k_is)
  (case k17 => k_is)
  (case a18 => k_is)
  (case l18 => k_is)
  (case c18 => k_is)
  (case k18 => k_is)
  (case a19 => k_is)
  (case i19 => k_is)
  (case l19 => k_is)
  (case c19 => k_is)
  (case k19 => k_is)
  (case a20 => k_is)
  (case i20 => k_is)
  (case l20 => k_is)
  (case c20 => k_is)
  (case k20 => k_is)
  (case a21 => k_is)
  (case l21 => k_is)
  (case c21 => k_is)
  (case k21 => k_is)
  (case a22 => k_is)
  (case i22 => k_is)
  (case l22 => k_is)
  (case c22 => k_is)
  (case k22 => k_is)
  (case a23 => k_is)
  (case i23 => k_is)
  (case l23 => k_is)
  (case c23 => k_is)
  (case k23 => k_is)
  (case a24 => k_is)
  (case l24 => k_is)
  (case c24 => k_is)
  (case k24 => k_is)
  (case a25 => k_is)
  (case l25 => k_is)
  (case c25 => k_is)
  (case k25 => k_is)
  (case a26 => k_is)
  (case l26 => k_is)
  (case c26 => k_is)
  (case k26 => k_is)
  (case a27 => k_is)
  (case l27 => k_is)
  (case c27 => k_is)
  (case k27 => k_is)
  (case a28 => k_is)
  (case l28 => k_is)
  (case c28 => k_is)
  (case k28 => k_is)
  (case a29 => k_is)
  (case l29 => k_is)
  (case c29 => k_is)
  (case k29 => k_is)
  (case a30 => k_is)
  (case l30 => k_is)
  (case c30 => k_is)
  (case k30 => k_is)
  (case a31 => k_is)
  (case i31 => k_is)
  (case l31 => k_is)
  (case c31 => k_is)
  (case k31 => k_is)
  (case a32 => k_is)
  (case l32 => k_is)
  (case c32 => k_is)
  (case k32 => k_is)
  (case a33 => k_is)
  (case l33 => k_is)
  (case c33 => k_is)
  (case k33 => k_is)
  (case a34 => k_is)
  (case l34 => k_is)
  (case c34 => k_is)
  (case k34 => k_is)
  (case a35 => k_is)
  (case l35 => k_is)
  (case c35 => k_is)
  (case k35 => k_is)
  (case a36 => k_is)
  (case l36 => k_is)
  (case c36 => k_is)
  (case k36 => k_is)
  (case a37 => k_is)
  (case l37 => k_is)
  (case c37 => k_is)
  (case k37 => k_is)
  (case a38 => k_is)
  (case i38 => k_is)
  (case l38 => k_is)
  (case c38 => k_is)
  (case k38 => k_is)
  (case a39 => k_is)
  (case i39 => k_is)
  (case l39 => k_is)
  (case c39 => k_is)
  (case k39 => k_is)
  (case a40 => k_is)
  (case i40 => k_is)
  (case l40 => k_is)
  (case c40 => k_is)
  (case k40 => k_is)
  (case a41 => k_is)
  (case i41 => k_is)
  (case l41 => k_is)
  (case c41 => k_is)
  (case k41 => k_is)
  (case a42 => k_is)
  (case i42 => k_is)
  (case l42 => k_is)
  (case c42 => k_is)
  (case k42 => k_is)
  (case a43 => k_is)
  (case i43 => k_is)
  (case l43 => k_is)
  (case c43 => k_is)
  (case k43 => k_is)
  (case a44 => k_is)
  (case i44 => k_is)
  (case l44 => k_is)
  (case c44 => k_is)
  (case k44 => k_is)
  (case a45 => k_is)
  (case i45 => k_is)
  (case l45 => k_is)
  (case c45 => k_is)
  (case k45 => k_is)
  (case a46 => k_is)
  (case l46 => k_is)
  (case c46 => k_is)
  (case k46 => k_is)
  (case a47 => k_is)
  (case l47 => k_is)
  (case c47 => k_is)
  (case k47 => k_is)
  (case a48 => k_is)
  (case l48 => k_is)
  (case c48 => k_is)
  (case k48 => k_is)
  (case a49 => k_is)
  (case l49 => k_is)
  (case c49 => k_is)
  (case k49 => k_is)
  (case a50 => k_is)
  (case l50 => k_is)
  (case c50 => k_is)
  (case k50 => k_is)
  (case a51 => k_is)
  (case l51 => k_is)
  (case c51 => k_is)
  (case k51 => k_is)
  (case a52 => k_is)
  (case l52 => k_is)
  (case c52 => k_is)
  (case k52 => k_is)
  (case a53 => k_is)
  (case l53 => k_is)
  (case c53 => k_is)
  (case k53 => k_is)
  (case a54 => k_is)
  (case l54 => k_is)
  (case c54 => k_is)
  (case k54 => k_is)
  (case a55 => k_is)
  (case l55 => k_is)
  (case c55 => k_is)
  (case k55 => k_is)
  (case a56 => k_is)
  (case l56 => k_is)
  (case c56 => k_is)
  (case k56 => k_is)
  (case a57 => k_is)
  (case l57 => k_is)
  (case c57 => k_is)
  (case k57 => k_is)
  (case a58 => k_is)
  (case l58 => k_is)
  (case c58 => k_is)
  (case k58 => k_is)
  (case a59 => k_is)
  (case l59 => k_is)
  (case c59 => k_is)
  (case k59 => k_is)
  (case a60 => k_is)
  (case l60 => k_is)
  (case c60 => k_is)
  (case k60 => k_is)
  (case a61 => k_is)
  (case l61 => k_is)
  (case c61 => k_is)
  (case k61 => k_is)
  (case J6w => k_is)
  (case J6J => k_is)
  (case J6U => k_is)
  (case J6z => k_is)
  (case J6O => k_is)
  (case J6L => k_is)
  (case J57 => k_is)
  (case J5u => k_is)
  (case J5j => k_is)
  (case J5m => k_is)
  (case J5v => k_is)
  (case J5h => k_is)
  (case J6r => k_is)
  (case J6K => k_is)
  (case J6g => k_is)
  (case J6H => k_is)
  (case J6M => k_is)
  (case J6e => k_is)
  (case J6o => k_is)
  (case J6x => k_is)
  (case J6n => k_is)
  (case J6s => k_is)
  (case J6I => k_is)
  (case J6Q => k_is)
  (case J2I => k_is)
  (case J2J => k_is)
  (case J2N => k_is)
  (case J2L => k_is)
  (case J2K => k_is)
  (case J2M => k_is)
  (case J32 => k_is)
  (case J30 => k_is)
  (case J34 => k_is)
  (case J2Z => k_is)
  (case J33 => k_is)
  (case J2Y => k_is)
  (case J6B => k_is)
  (case J6m => k_is)
  (case J6t => k_is)
  (case J6k => k_is)
  (case J6q => k_is)
  (case J6Y => k_is)
  (case J58 => k_is)
  (case J5g => k_is)
  (case J5w => k_is)
  (case J5n => k_is)
  (case J55 => k_is)
  (case J5s => k_is)
  (case J53 => k_is)
  (case J56 => k_is)
  (case J5f => k_is)
  (case J5l => k_is)
  (case J5e => k_is)
  (case J5o => k_is)
  (case J5b => k_is)
  (case J5r => k_is)
  (case J5q => k_is)
  (case J59 => k_is)
  (case J54 => k_is)
  (case J5k => k_is)
  (case J4w => k_is)
  (case J4I => k_is)
  (case J4L => k_is)
  (case J4G => k_is)
  (case J6T => k_is)
  (case J69 => k_is)
  (case J4e => k_is)
  (case J4m => k_is)
  (case J4g => k_is)
  (case J4i => k_is)
  (case J4h => k_is)
  (case J4j => k_is)
  (case yn => k_is)
  (case yt => k_is)
  (case J6N => k_is)
  (case J6f => k_is)
  (case J1F => kit_is)
  (case JR => k_is)
  (case J0q => k_is)
  (case J0u => k_is)
  (case J0x => k_is)
  (case J1r => k_is)
  (case J1d => k_is)
  (case J0T => k_is)
  (case J0j => k_is)
  (case JG => k_is)
  (case J0U => k_is)
  (case J1D => k_is)
  (case J1s => k_is)
  (case J1i => k_is)
  (case J0e => k_is)
  (case J02 => k_is)
  (case J0f => k_is)
  (case J0v => k_is)
  (case J0Z => k_is)
  (case J0J => k_is)
  (case J0N => k_is)
  (case J1a => k_is)
  (case J0W => k_is)
  (case J0S => k_is)
  (case J0H => k_is)
  (case J99 => k_is)
  (case J5y => k_is)
  (case J0m => k_is)
  (case J9h => k_is)
  (case J1g => k_is)
  (case J0g => k_is)
  (case J13 => k_is)
  (case J6D => k_is)
  (case J5N => k_is)
  (case J0i => k_is)
  (case J97 => k_is)
  (case J4H => k_is)
  (case J42 => k_is)
  (case J3G => k_is)
  (case J3C => k_is)
  (case J3a => k_is)
#print axioms PySem.Challenge.cw_rotafair_k54_answers_stand_holds
